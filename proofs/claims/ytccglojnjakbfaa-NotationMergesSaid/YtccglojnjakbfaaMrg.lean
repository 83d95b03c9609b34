/- Contract of layer 19: Merge. -/
import Derived.Test.YtccglojnjakbfaaMgP
set_option linter.unusedSimpArgs false
set_option linter.unusedVariables false
namespace Go.Proofs.Ytccglojnjakbfaa
open Go.RowKit

def mgR (M : List Lx) : List It := if mgE M = 0 then mgL M else []
/-- what Merge gives -/
def MgPost (w : World) (M : List Lx) (e : Ending) (w' : World) : Prop :=
  ∃ v, e = .returned (.tuple #[v, .int .i64 (mgE M)]) ∧ w'.ownsRow w.heap.size 49 5 v (mgR M).length (flatX (mgR M)) ∧ Below w.heap.size w w'
theorem mgL_len : ∀ (M : List Lx) (k : Nat) (h : k < M.length), ((M[k]'h).L.length) ≤ (mgL (M.drop k)).length := by
  intro M k h
  rw [mgL_cut h, List.length_append]
  unfold jn
  rw [jnK_len]
  omega
set_option maxHeartbeats 4000000 in
set_option maxRecDepth 100000 in
theorem merge_any {w : World} {a : Option Addr} {b off len cap : Nat} {M : List Lx} (h : SlM w a b off len cap M) (hf : ∀ r ∈ M, fitC r.L) (hm : ∀ r ∈ M, r.L.length ≤ 1000000) :
    Calls Try.prog 23 #[.slice a len cap] w (MgPost w M) := by
  obtain ⟨iz, hi, hz0, hz1, hz2⟩ := info_parts infoX
  have hl0 := h.s.hl
  have hle : len ≤ 9223372036854775807 := by have := h.s.hcap; have := h.s.hmax; unfold maxLen at this; omega
  have HS := Lib.hid h
  have HCM := Lib.hid (containsM_any h)
  have HFT := Lib.hid (mgL_fit M hf)
  have HMX := Lib.hid hm
  unfold MgPost
  cases hem : M.any emB with
  | true =>
    rw [hem] at HCM
    have HE := Lib.hid (show mgE M = 1 by unfold mgE; rw [hem]; rfl)
    have HR := Lib.hid (show mgR M = [] by unfold mgR; rw [HE.out]; rfl)
    clear h hf hm hem
    go_enter Try.func23, Try.ntmps23
    go_wp2_with fail
    refine HCM.out.mono ?_
    rintro e w1 ⟨rfl, rfl⟩
    go_wp2_with fail
    refine bodyPost_ret (v := .tuple #[.slice none 0 0, .int .i64 1]) (by simp [results, Try.results23, go_sem]) rfl ?_
    rw [HE.out, HR.out]
    exact ⟨_, rfl, World.ownsRow_nil _ _ _ _, Below.refl _ _⟩
  | false =>
    rw [hem] at HCM
    have HE0 := Lib.hid (show mgE M = errE (mgL M) by unfold mgE; rw [hem]; rfl)
    clear h hf hm hem
    go_enter Try.func23, Try.ntmps23
    go_wp2_with fail
    refine HCM.out.mono ?_
    rintro e w1 ⟨rfl, rfl⟩
    go_wp2_with fail
    go_loopw [4, 14] (fun s4 s14 wr => ∃ (k : Nat) (ac : List It), k ≤ len ∧ s14 = .int .i64 (k : Int) ∧ ac.length ≤ 30 ∧ Hid (wr.ownsRow w.heap.size 49 5 s4 ac.length (flatX ac)) ∧ Hid (Below w.heap.size w wr) ∧ Hid (ac ++ mgL (M.drop k) = mgL M)) (fun _ s14 _ => (len - (intOf s14)).toNat)
    case atStart => exact ⟨0, [], Nat.zero_le _, rfl, by simp, Lib.hid (World.ownsRow_nil _ _ _ _), Lib.hid (Below.refl _ _), Lib.hid (by simp)⟩
    case round =>
      obtain ⟨k, ac, hk, rfl, hac, HO, HB, HE⟩ := hrel
      obtain ⟨ao, cv, rfl⟩ := own_form HO.out
      by_cases hlt : k < len
      · have hl : (k : Int) < (len : Int) := by omega
        have hkL : k < M.length := by omega
        have S := HS.out.s.keep HB.out
        obtain rfl := S.ha (by omega)
        have sb := S.hb (by omega)
        have m0 := S.cell k hkL
        have hok := HS.out.each _ (List.getElem_mem hkL)
        have hrm := HMX.out _ (List.getElem_mem hkL)
        have hln := mgL_len M k hkL
        have HCUT := Lib.hid (mgL_cut hkL)
        generalize M[k]'hkL = r at *
        obtain ⟨ra, rb, ro, rc, rL⟩ := r
        unfold Lx.val at m0
        simp only at m0 hrm hln HCUT
        have HRK := Lib.hid (show SlX w ra rb ro rL.length rc rL from hok)
        clear S hok
        by_cases h30 : ac.length + rL.length > 30
        · have HEE := Lib.hid (show mgE M = 6 by
            rw [HE0.out]
            unfold errE
            rw [if_pos (by rw [← HE.out, List.length_append]; omega)])
          have HR := Lib.hid (show mgR M = [] by unfold mgR; rw [HEE.out]; rfl)
          have q1 : decide ((ac.length : Int) + (rL.length : Int) > 30) = true := decide_eq_true (by omega)
          have q2 : IntKind.i64.wrap ((ac.length : Int) + (rL.length : Int)) = (ac.length : Int) + (rL.length : Int) := IntWalk.i64_in _ (by omega)
          go_wp2_with fail
          refine bodyPost_ret (v := .tuple #[.slice none 0 0, .int .i64 6]) (by simp [results, Try.results23, go_sem]) rfl ?_
          rw [HEE.out, HR.out]
          exact ⟨_, rfl, World.ownsRow_nil _ _ _ _, HB.out⟩
        · have q1 : decide ((ac.length : Int) + (rL.length : Int) > 30) = false := decide_eq_false (by omega)
          have q2 : IntKind.i64.wrap ((ac.length : Int) + (rL.length : Int)) = (ac.length : Int) + (rL.length : Int) := IntWalk.i64_in _ (by omega)
          clear hln
          go_wp2_with fail
          go_loopw [4, 26] (fun s4 s26 w2 => ∃ (j : Nat) (ac2 : List It), j ≤ rL.length ∧ s26 = .int .i64 (j : Int) ∧ Hid (ac2.length = ac.length + j) ∧ Hid (w2.ownsRow w.heap.size 49 5 s4 ac2.length (flatX ac2)) ∧ Hid (Below w.heap.size w w2) ∧ Hid (ac2 ++ jnK rL.length j (rL.drop j) = ac ++ jn rL)) (fun _ s26 _ => (rL.length - (intOf s26)).toNat)
          case atStart => exact ⟨0, ac, Nat.zero_le _, rfl, Lib.hid rfl, HO, HB, Lib.hid (by rw [List.drop_zero]; rfl)⟩
          case round =>
            obtain ⟨j, ac2, hj, rfl, HAL, HO2, HB2, HE2⟩ := hrel
            have hal1 : ac2.length ≤ 30 := by have := HAL.out; omega
            obtain ⟨ao2, cv2, rfl⟩ := own_form HO2.out
            clear HO HB
            by_cases hjl : j < rL.length
            · have hjI : (j : Int) < (rL.length : Int) := by omega
              have hE2 := HE2.out
              rw [jnK_cut hjl] at hE2
              have SR := HRK.out.keep HB2.out
              obtain rfl := SR.ha (by omega)
              have sbr := SR.hb (by omega)
              have c0 := SR.c0 j hjl
              have c1 := SR.c1 j hjl
              have c2 := SR.c2 j hjl
              have c3 := SR.c3 j hjl
              have c4 := SR.c4 j hjl
              generalize rL[j]'hjl = x at *
              obtain ⟨xc, xd, xr, xv, xj⟩ := x
              simp only at c0 c1 c2 c3 c4 hE2
              replace HE2 := Lib.hid hE2
              clear hE2 SR
              obtain ⟨n1, hn1⟩ : ∃ n1, rL.length = n1 + 1 := ⟨rL.length - 1, by omega⟩
              have g3 : (rL.length : Int) - 1 = (n1 : Int) := by omega
              have g5 : IntKind.i64.wrap ((rL.length : Int) - 1) = (n1 : Int) := by rw [g3]; exact IntWalk.i64_in _ (by omega)
              have g6 : IntKind.i64.wrap (n1 : Int) = (n1 : Int) := IntWalk.i64_in _ (by omega)
              have HN1 := Lib.hid hn1
              by_cases hjn : j + 1 < rL.length
              · have hjn1 : j < n1 := by omega
                clear hn1
                have gj : (j : Int) < (n1 : Int) := by omega
                have gk : decide ((j : Int) < (n1 : Int)) = true := decide_eq_true gj
                have HE3 := Lib.hid (show (ac2 ++ [(⟨xc, xd, xr, xv, true⟩ : It)]) ++ jnK rL.length (j + 1) (rL.drop (j + 1)) = ac ++ jn rL by
                  rw [← HE2.out, show decide (j + 1 < rL.length) = true from decide_eq_true hjn]; simp)
                have HO3 := Lib.hid ((HO2.out.alloc (.cells #[.string xc, .int .i64 xd, .bool xr, .bool xv, .bool true] 49)).alloc (.cells #[.string xc, .int .i64 xd, .bool xr, .bool xv, .bool true] 49))
                have HB3 := Lib.hid (((HB2.out.alloc HB2.out.size (.cells #[.string xc, .int .i64 xd, .bool xr, .bool xv, .bool true] 49))).alloc (show w.heap.size ≤ _ by have := HB2.out.size; simp; omega) (.cells #[.string xc, .int .i64 xd, .bool xr, .bool xv, .bool true] 49))
                have hce := it_cells (wr.alloc (.cells #[.string xc, .int .i64 xd, .bool xr, .bool xv, .bool true] 49)) ⟨xc, xd, xr, xv, true⟩
                simp only [World.size_alloc] at hce
                have HCE := Lib.hid hce
                have HOL := Lib.hid (fun g h => HO2.out.lt g h)
                have hszw : w.heap.size ≤ wr.heap.size := HB2.out.size
                clear hce HE2 HO2 HB2 hjn
                go_wp2_with (at_builtin; go_loud (refine wpList_append_blk _ rfl _ _ 23 rfl w.heap.size 49 iz (.agg #[.string ⟨#[]⟩, .int .i64 0, .bool false, .bool false, .bool false]) 5 32 Try.underlying23 hi hz0 hz1 hz2 rfl (by decide) _ _ _ rfl HO3.out ⟨wr.heap.size + 1, 0, none⟩ 1 1 (encX ⟨xc, xd, xr, xv, true⟩) rfl rfl HCE.out ?n1 ?n2 ?n3 ?n4 (by decide) ?_))
                case n1 => exact encX_one _
                case n2 => unfold maxLen; omega
                case n3 => omega
                case n4 => first | omega | (simp; omega)
                intro v' w7 ho hg hbk
                have HO7 := Lib.hid (show w7.ownsRow w.heap.size 49 5 v' (ac2 ++ [(⟨xc, xd, xr, xv, true⟩ : It)]).length (flatX (ac2 ++ [(⟨xc, xd, xr, xv, true⟩ : It)])) by rw [List.length_append, List.length_singleton, flatX_snoc]; exact ho)
                have HB7 := Lib.hid (HB3.out.grown hg (by simp; omega) (fun g h => (HOL.out g h).1))
                clear ho hg hbk HO3 HB3 HCE HOL
                go_wp2_with fail
                go_roundw
                case rel => exact ⟨j + 1, ac2 ++ [⟨xc, xd, xr, xv, true⟩], by omega, by go_num, Lib.hid (by rw [List.length_append, List.length_singleton]; have := HAL.out; omega), HO7, HB7, HE3⟩
                case measure => simp [intOf]; omega
              · have hjn1 : ¬ j < n1 := by omega
                clear hn1
                have gj : ¬ (j : Int) < (n1 : Int) := by omega
                have gk : decide ((j : Int) < (n1 : Int)) = false := decide_eq_false gj
                have HE3 := Lib.hid (show (ac2 ++ [(⟨xc, xd, xr, xv, false⟩ : It)]) ++ jnK rL.length (j + 1) (rL.drop (j + 1)) = ac ++ jn rL by
                  rw [← HE2.out, show decide (j + 1 < rL.length) = false from decide_eq_false hjn]; simp)
                have HO3 := Lib.hid ((HO2.out.alloc (.cells #[.string xc, .int .i64 xd, .bool xr, .bool xv, .bool false] 49)).alloc (.cells #[.string xc, .int .i64 xd, .bool xr, .bool xv, .bool false] 49))
                have HB3 := Lib.hid (((HB2.out.alloc HB2.out.size (.cells #[.string xc, .int .i64 xd, .bool xr, .bool xv, .bool false] 49))).alloc (show w.heap.size ≤ _ by have := HB2.out.size; simp; omega) (.cells #[.string xc, .int .i64 xd, .bool xr, .bool xv, .bool false] 49))
                have hce := it_cells (wr.alloc (.cells #[.string xc, .int .i64 xd, .bool xr, .bool xv, .bool false] 49)) ⟨xc, xd, xr, xv, false⟩
                simp only [World.size_alloc] at hce
                have HCE := Lib.hid hce
                have HOL := Lib.hid (fun g h => HO2.out.lt g h)
                have hszw : w.heap.size ≤ wr.heap.size := HB2.out.size
                clear hce HE2 HO2 HB2 hjn
                go_wp2_with (at_builtin; go_loud (refine wpList_append_blk _ rfl _ _ 23 rfl w.heap.size 49 iz (.agg #[.string ⟨#[]⟩, .int .i64 0, .bool false, .bool false, .bool false]) 5 32 Try.underlying23 hi hz0 hz1 hz2 rfl (by decide) _ _ _ rfl HO3.out ⟨wr.heap.size + 1, 0, none⟩ 1 1 (encX ⟨xc, xd, xr, xv, false⟩) rfl rfl HCE.out ?n1 ?n2 ?n3 ?n4 (by decide) ?_))
                case n1 => exact encX_one _
                case n2 => unfold maxLen; omega
                case n3 => omega
                case n4 => first | omega | (simp; omega)
                intro v' w7 ho hg hbk
                have HO7 := Lib.hid (show w7.ownsRow w.heap.size 49 5 v' (ac2 ++ [(⟨xc, xd, xr, xv, false⟩ : It)]).length (flatX (ac2 ++ [(⟨xc, xd, xr, xv, false⟩ : It)])) by rw [List.length_append, List.length_singleton, flatX_snoc]; exact ho)
                have HB7 := Lib.hid (HB3.out.grown hg (by simp; omega) (fun g h => (HOL.out g h).1))
                clear ho hg hbk HO3 HB3 HCE HOL
                go_wp2_with fail
                go_roundw
                case rel => exact ⟨j + 1, ac2 ++ [⟨xc, xd, xr, xv, false⟩], by omega, by go_num, Lib.hid (by rw [List.length_append, List.length_singleton]; have := HAL.out; omega), HO7, HB7, HE3⟩
                case measure => simp [intOf]; omega
            · obtain rfl : j = rL.length := by omega
              have hjI : ¬ (rL.length : Int) < (rL.length : Int) := by omega
              have HE4 := Lib.hid (show ac2 ++ mgL (M.drop (k + 1)) = mgL M by
                have h1 := HE2.out
                rw [List.drop_eq_nil_of_le (Nat.le_refl _), jnK, List.append_nil] at h1
                rw [h1, ← HE.out, HCUT.out, List.append_assoc])
              go_wp2_with fail
              go_roundw
              case rel => exact ⟨k + 1, ac2, by omega, by go_num, by omega, HO2, HB2, HE4⟩
              case measure => simp [intOf]; omega
      · obtain rfl : k = len := by omega
        have hl : ¬ (k : Int) < (k : Int) := by omega
        have hE2 : ac = mgL M := by
          have := HE.out
          rw [List.drop_eq_nil_of_le (by omega), mgL, List.append_nil] at this
          exact this
        subst hE2
        obtain ⟨a2, b2, c2, hv, sl2, _⟩ := slx_own HO.out
        have hv2 : ao = a2 ∧ cv = c2 := by simpa using hv
        obtain ⟨rfl, rfl⟩ := hv2
        have HEA := Lib.hid (each_any sl2 HFT.out)
        rw [← HE0.out] at HEA
        clear sl2 hv
        by_cases h0 : mgE M = 0
        · have HR := Lib.hid (show mgR M = mgL M by unfold mgR; rw [if_pos h0])
          rw [h0] at HEA
          have H0 := Lib.hid h0
          clear h0
          go_wp2_with fail
          refine HEA.out.mono ?_
          rintro e w2 ⟨rfl, hb2⟩
          have HO2 := Lib.hid (own_below HO.out hb2)
          have HB2 := Lib.hid (HB.out.trans (hb2.mono HB.out.size))
          clear hb2
          go_wp2_with fail
          refine bodyPost_ret (v := .tuple #[.slice ao (mgL M).length cv, .int .i64 0]) (by simp [results, Try.results23, go_sem]) rfl ?_
          rw [H0.out, HR.out]
          exact ⟨_, rfl, HO2.out, HB2.out⟩
        · have HR := Lib.hid (show mgR M = [] by unfold mgR; rw [if_neg h0])
          have k0 : (mgE M == 0) = false := by simpa using h0
          have k1 : (mgE M != 0) = true := by simpa using h0
          clear h0
          go_wp2_with fail
          refine HEA.out.mono ?_
          rintro e w2 ⟨rfl, hb2⟩
          have HB2 := Lib.hid (HB.out.trans (hb2.mono HB.out.size))
          clear hb2
          go_wp2_with fail
          refine bodyPost_ret (v := .tuple #[.slice none 0 0, .int .i64 (mgE M)]) (by simp [results, Try.results23, go_sem]) rfl ?_
          rw [HR.out]
          exact ⟨_, rfl, World.ownsRow_nil _ _ _ _, HB2.out⟩
end Go.Proofs.Ytccglojnjakbfaa
