/- Contract of layer 19's reference: Merge. -/
import Derived.Test.YtccglojnjakbfaaMrg
import Derived.Test.YtccglojnjakbfaaRhx
set_option linter.unusedSimpArgs false
set_option linter.unusedVariables false
namespace Go.Proofs.Ytccglojnjakbfaa
open Go.RowKit

set_option maxHeartbeats 4000000 in
set_option maxRecDepth 100000 in
theorem rmerge_any {w : World} {a : Option Addr} {b off len cap : Nat} {M : List Lx} (h : SlM w a b off len cap M) (hf : ∀ r ∈ M, fitC r.L) (hT : (mgL M).length ≤ 1000000) :
    Calls Try.prog 24 #[.slice a len cap] w (MgPost w M) := by
  obtain ⟨iz, hi, hz0, hz1, hz2⟩ := info_parts infoX
  have hl0 := h.s.hl
  have hle : len ≤ 9223372036854775807 := by have := h.s.hcap; have := h.s.hmax; unfold maxLen at this; omega
  have HS := Lib.hid h
  have HFT := Lib.hid (mgL_fit M hf)
  have HO0 := Lib.hid (show (w.alloc (.cells #[] 49)).ownsRow w.heap.size 49 5 (.slice (some ⟨w.heap.size, 0, none⟩) 0 0) 0 [] by
    have := World.ownsRow_made (e := 49) (size := 5) (base := w.heap.size) w #[] 0 (Nat.le_refl _) (Nat.zero_le _) rfl
    simpa using this)
  have HB0 := Lib.hid (show Below w.heap.size w (w.alloc (.cells #[] 49)) from (by repeat (first | with_reducible exact Below.refl _ _ | (with_reducible refine Below.setCell ?_ (by first | exact Nat.le_refl _ | omega | (simp; done) | (simp; omega)) _) | (with_reducible refine Below.alloc ?_ (by first | exact Nat.le_refl _ | omega | (simp; done) | (simp; omega)) _) | with_reducible refine Below.drew ?_ | with_reducible refine bel_drewN ?_ _ | (with_reducible refine bel_by (by with_reducible assumption) (by first | exact Nat.le_refl _ | omega | (simp; done) | (simp; omega)) ?_))))
  have HTL := Lib.hid hT
  unfold MgPost
  clear h hf hT
  go_enter Try.func24, Try.ntmps24
  go_wp2_with fail
  go_loopw [4, 5] (fun s4 s5 wr => ∃ (k : Nat) (ac : List It), k ≤ len ∧ s5 = .int .i64 (k : Int) ∧ Hid (wr.ownsRow w.heap.size 49 5 s4 ac.length (flatX ac)) ∧ Hid (Below w.heap.size w wr) ∧ Hid (ac ++ mgL (M.drop k) = mgL M) ∧ Hid (∀ (i : Nat) (h : i < M.length), i < k → emB (M[i]'h) = false)) (fun _ s5 _ => (len - (intOf s5)).toNat)
  case atStart => exact ⟨0, [], Nat.zero_le _, rfl, HO0, HB0, Lib.hid (by simp), Lib.hid (fun i _ h => absurd h (Nat.not_lt_zero i))⟩
  case round =>
    obtain ⟨k, ac, hk, rfl, HO, HB, HE, HK⟩ := hrel
    obtain ⟨ao, cv, rfl⟩ := own_form HO.out
    clear HO0 HB0
    by_cases hlt : k < len
    · have hl : (k : Int) < (len : Int) := by omega
      have hkL : k < M.length := by omega
      have S := HS.out.s.keep HB.out
      obtain rfl := S.ha (by omega)
      have sb := S.hb (by omega)
      have m0 := S.cell k hkL
      have hok := HS.out.each _ (List.getElem_mem hkL)
      have HCUT := Lib.hid (mgL_cut hkL)
      have HEM := Lib.hid (show emB (M[k]'hkL) = decide ((M[k]'hkL).L.length = 0) from rfl)
      have HMC := Lib.hid (show ∀ W, Below w.heap.size w W → W.cell? ⟨b, off + k, none⟩ = some (M[k]'hkL).val ∧ b < W.heap.size from fun W hW => ⟨(HS.out.s.keep hW).cell k hkL, (HS.out.s.keep hW).hb (by omega)⟩)
      have HAN := Lib.hid (fun (h : emB (M[k]'hkL) = true) => anyM_get hkL h)
      obtain ⟨r, hr⟩ : ∃ r, M[k]'hkL = r := ⟨_, rfl⟩
      have HRE := Lib.hid hr
      rw [hr] at m0 hok HCUT HEM HMC HAN
      obtain ⟨ra, rb, ro, rc, rL⟩ := r
      unfold Lx.val at m0 HMC
      simp only at m0 HCUT HEM HMC
      have HRK := Lib.hid (show SlX w ra rb ro rL.length rc rL from hok)
      clear S hok hr
      by_cases h00 : rL.length = 0
      · have HEE := Lib.hid (show mgE M = 1 by unfold mgE; rw [if_pos (HAN.out (by rw [HEM.out]; exact decide_eq_true h00))])
        have HR := Lib.hid (show mgR M = [] by unfold mgR; rw [HEE.out]; rfl)
        have q1 : ((rL.length : Int) == 0) = true := by rw [h00]; rfl
        clear h00
        go_wp2_with fail
        refine bodyPost_ret (v := .tuple #[.slice none 0 0, .int .i64 1]) (by simp [results, Try.results24, go_sem]) rfl ?_
        rw [HEE.out, HR.out]
        exact ⟨_, rfl, World.ownsRow_nil _ _ _ _, HB.out⟩
      · have q1 : ((rL.length : Int) == 0) = false := by simp; intro e; exact h00 (by rw [e]; rfl)
        have HEF := Lib.hid (show emB ⟨ra, rb, ro, rc, rL⟩ = false by unfold emB; exact decide_eq_false h00)
        have hbnd : ac.length + rL.length ≤ 1000000 := by
          have h1 := congrArg List.length HE.out
          rw [HCUT.out, List.length_append, List.length_append] at h1
          have h2 : (jn rL).length = rL.length := jnK_len _ _ _
          have h3 := HTL.out
          omega
        go_wp2_with fail
        clear m0 sb
        go_loopw [4, 6] (fun s4 s6 w2 => ∃ (j : Nat) (ac2 : List It), j ≤ rL.length ∧ s6 = .int .i64 (j : Int) ∧ Hid (ac2.length = ac.length + j) ∧ Hid (w2.ownsRow w.heap.size 49 5 s4 ac2.length (flatX ac2)) ∧ Hid (Below w.heap.size w w2) ∧ Hid (ac2 ++ jnK rL.length j (rL.drop j) = ac ++ jn rL)) (fun _ s6 _ => (rL.length - (intOf s6)).toNat)
        case atStart => exact ⟨0, ac, Nat.zero_le _, rfl, Lib.hid rfl, HO, HB, Lib.hid (by rw [List.drop_zero]; rfl)⟩
        case round =>
          obtain ⟨j, ac2, hj, rfl, HAL, HO2, HB2, HE2⟩ := hrel
          have hal1 : ac2.length ≤ 1000000 := by have := HAL.out; omega
          obtain ⟨ao2, cv2, rfl⟩ := own_form HO2.out
          clear HO HB
          obtain ⟨m0, sb⟩ := HMC.out _ HB2.out
          by_cases hjl : j < rL.length
          · have hjI : (j : Int) < (rL.length : Int) := by omega
            have hE2 := HE2.out
            rw [jnK_cut hjl] at hE2
            have SR := HRK.out.keep HB2.out
            obtain rfl := SR.ha (by omega)
            have sbr := SR.hb (by omega)
            have c0 := SR.c0 j hjl
            have c1 := SR.c1 j hjl
            have c2 := SR.c2 j hjl
            have c3 := SR.c3 j hjl
            have c4 := SR.c4 j hjl
            generalize rL[j]'hjl = x at *
            obtain ⟨xc, xd, xr, xv, xj⟩ := x
            simp only at c0 c1 c2 c3 c4 hE2
            replace HE2 := Lib.hid hE2
            clear hE2 SR
            obtain ⟨n1, hn1⟩ : ∃ n1, rL.length = n1 + 1 := ⟨rL.length - 1, by omega⟩
            have g3 : (rL.length : Int) - 1 = (n1 : Int) := by omega
            have g5 : IntKind.i64.wrap ((rL.length : Int) - 1) = (n1 : Int) := by rw [g3]; exact IntWalk.i64_in _ (by omega)
            have g6 : IntKind.i64.wrap (n1 : Int) = (n1 : Int) := IntWalk.i64_in _ (by omega)
            have HN1 := Lib.hid hn1
            by_cases hjn : j + 1 < rL.length
            · have hjn1 : j < n1 := by omega
              clear hn1
              have gj : (j : Int) < (n1 : Int) := by omega
              have gk : decide ((j : Int) < (n1 : Int)) = true := decide_eq_true gj
              have HE3 := Lib.hid (show (ac2 ++ [(⟨xc, xd, xr, xv, true⟩ : It)]) ++ jnK rL.length (j + 1) (rL.drop (j + 1)) = ac ++ jn rL by
                rw [← HE2.out, show decide (j + 1 < rL.length) = true from decide_eq_true hjn]; simp)
              have HO3 := Lib.hid ((HO2.out.alloc (.cells #[.string xc, .int .i64 xd, .bool xr, .bool xv, .bool true] 49)).alloc (.cells #[.string xc, .int .i64 xd, .bool xr, .bool xv, .bool true] 49))
              have HB3 := Lib.hid (((HB2.out.alloc HB2.out.size (.cells #[.string xc, .int .i64 xd, .bool xr, .bool xv, .bool true] 49))).alloc (show w.heap.size ≤ _ by have := HB2.out.size; simp; omega) (.cells #[.string xc, .int .i64 xd, .bool xr, .bool xv, .bool true] 49))
              have hce := it_cells (wr.alloc (.cells #[.string xc, .int .i64 xd, .bool xr, .bool xv, .bool true] 49)) ⟨xc, xd, xr, xv, true⟩
              simp only [World.size_alloc] at hce
              have HCE := Lib.hid hce
              have HOL := Lib.hid (fun g h => HO2.out.lt g h)
              have hszw : w.heap.size ≤ wr.heap.size := HB2.out.size
              clear hce HE2 HO2 HB2 hjn
              go_wp2_with (at_builtin; go_loud (refine wpList_append_blk _ rfl _ _ 23 rfl w.heap.size 49 iz (.agg #[.string ⟨#[]⟩, .int .i64 0, .bool false, .bool false, .bool false]) 5 32 Try.underlying23 hi hz0 hz1 hz2 rfl (by decide) _ _ _ rfl HO3.out ⟨wr.heap.size + 1, 0, none⟩ 1 1 (encX ⟨xc, xd, xr, xv, true⟩) rfl rfl HCE.out ?n1 ?n2 ?n3 ?n4 (by decide) ?_))
              case n1 => exact encX_one _
              case n2 => unfold maxLen; omega
              case n3 => omega
              case n4 => first | omega | (simp; omega)
              intro v' w7 ho hg hbk
              have HO7 := Lib.hid (show w7.ownsRow w.heap.size 49 5 v' (ac2 ++ [(⟨xc, xd, xr, xv, true⟩ : It)]).length (flatX (ac2 ++ [(⟨xc, xd, xr, xv, true⟩ : It)])) by rw [List.length_append, List.length_singleton, flatX_snoc]; exact ho)
              have HB7 := Lib.hid (HB3.out.grown hg (by simp; omega) (fun g h => (HOL.out g h).1))
              clear ho hg hbk HO3 HB3 HCE HOL
              go_wp2_with fail
              go_roundw
              case rel => exact ⟨j + 1, ac2 ++ [⟨xc, xd, xr, xv, true⟩], by omega, by go_num, Lib.hid (by rw [List.length_append, List.length_singleton]; have := HAL.out; omega), HO7, HB7, HE3⟩
              case measure => simp [intOf]; omega
            · have hjn1 : ¬ j < n1 := by omega
              clear hn1
              have gj : ¬ (j : Int) < (n1 : Int) := by omega
              have gk : decide ((j : Int) < (n1 : Int)) = false := decide_eq_false gj
              have HE3 := Lib.hid (show (ac2 ++ [(⟨xc, xd, xr, xv, false⟩ : It)]) ++ jnK rL.length (j + 1) (rL.drop (j + 1)) = ac ++ jn rL by
                rw [← HE2.out, show decide (j + 1 < rL.length) = false from decide_eq_false hjn]; simp)
              have HO3 := Lib.hid ((HO2.out.alloc (.cells #[.string xc, .int .i64 xd, .bool xr, .bool xv, .bool false] 49)).alloc (.cells #[.string xc, .int .i64 xd, .bool xr, .bool xv, .bool false] 49))
              have HB3 := Lib.hid (((HB2.out.alloc HB2.out.size (.cells #[.string xc, .int .i64 xd, .bool xr, .bool xv, .bool false] 49))).alloc (show w.heap.size ≤ _ by have := HB2.out.size; simp; omega) (.cells #[.string xc, .int .i64 xd, .bool xr, .bool xv, .bool false] 49))
              have hce := it_cells (wr.alloc (.cells #[.string xc, .int .i64 xd, .bool xr, .bool xv, .bool false] 49)) ⟨xc, xd, xr, xv, false⟩
              simp only [World.size_alloc] at hce
              have HCE := Lib.hid hce
              have HOL := Lib.hid (fun g h => HO2.out.lt g h)
              have hszw : w.heap.size ≤ wr.heap.size := HB2.out.size
              clear hce HE2 HO2 HB2 hjn
              go_wp2_with (at_builtin; go_loud (refine wpList_append_blk _ rfl _ _ 23 rfl w.heap.size 49 iz (.agg #[.string ⟨#[]⟩, .int .i64 0, .bool false, .bool false, .bool false]) 5 32 Try.underlying23 hi hz0 hz1 hz2 rfl (by decide) _ _ _ rfl HO3.out ⟨wr.heap.size + 1, 0, none⟩ 1 1 (encX ⟨xc, xd, xr, xv, false⟩) rfl rfl HCE.out ?n1 ?n2 ?n3 ?n4 (by decide) ?_))
              case n1 => exact encX_one _
              case n2 => unfold maxLen; omega
              case n3 => omega
              case n4 => first | omega | (simp; omega)
              intro v' w7 ho hg hbk
              have HO7 := Lib.hid (show w7.ownsRow w.heap.size 49 5 v' (ac2 ++ [(⟨xc, xd, xr, xv, false⟩ : It)]).length (flatX (ac2 ++ [(⟨xc, xd, xr, xv, false⟩ : It)])) by rw [List.length_append, List.length_singleton, flatX_snoc]; exact ho)
              have HB7 := Lib.hid (HB3.out.grown hg (by simp; omega) (fun g h => (HOL.out g h).1))
              clear ho hg hbk HO3 HB3 HCE HOL
              go_wp2_with fail
              go_roundw
              case rel => exact ⟨j + 1, ac2 ++ [⟨xc, xd, xr, xv, false⟩], by omega, by go_num, Lib.hid (by rw [List.length_append, List.length_singleton]; have := HAL.out; omega), HO7, HB7, HE3⟩
              case measure => simp [intOf]; omega
          · obtain rfl : j = rL.length := by omega
            have hjI : ¬ (rL.length : Int) < (rL.length : Int) := by omega
            have HE4 := Lib.hid (show ac2 ++ mgL (M.drop (k + 1)) = mgL M by
              have h1 := HE2.out
              rw [List.drop_eq_nil_of_le (Nat.le_refl _), jnK, List.append_nil] at h1
              rw [h1, ← HE.out, HCUT.out, List.append_assoc])
            go_wp2_with fail
            go_roundw
            case rel =>
              refine ⟨k + 1, ac2, by omega, by go_num, HO2, HB2, HE4, Lib.hid (fun i h hi => ?_)⟩
              by_cases e : i = k
              · subst e; rw [HRE.out]; exact HEF.out
              · exact HK.out i h (by omega)
            case measure => simp [intOf]; omega
    · obtain rfl : k = len := by omega
      have hl : ¬ (k : Int) < (k : Int) := by omega
      have hE2 : ac = mgL M := by
        have := HE.out
        rw [List.drop_eq_nil_of_le (by omega), mgL, List.append_nil] at this
        exact this
      have HE0 := Lib.hid (show mgE M = errE (mgL M) by
        unfold mgE
        rw [anyM_no (fun i hi => HK.out i hi (by omega))]
        rfl)
      subst hE2
      obtain ⟨a2, b2, c2, hv, sl2, _⟩ := slx_own HO.out
      have hv2 : ao = a2 ∧ cv = c2 := by simpa using hv
      obtain ⟨rfl, rfl⟩ := hv2
      have HEA := Lib.hid (rshapes_any sl2 HFT.out)
      rw [← HE0.out] at HEA
      clear sl2 hv
      by_cases h0 : mgE M = 0
      · have HR := Lib.hid (show mgR M = mgL M by unfold mgR; rw [if_pos h0])
        rw [h0] at HEA
        have H0 := Lib.hid h0
        clear h0
        go_wp2_with fail
        refine HEA.out.mono ?_
        rintro e w2 ⟨rfl, rfl⟩
        go_wp2_with fail
        refine bodyPost_ret (v := .tuple #[.slice ao (mgL M).length cv, .int .i64 0]) (by simp [results, Try.results24, go_sem]) rfl ?_
        rw [H0.out, HR.out]
        exact ⟨_, rfl, HO.out, HB.out⟩
      · have HR := Lib.hid (show mgR M = [] by unfold mgR; rw [if_neg h0])
        have k0 : (mgE M == 0) = false := by simpa using h0
        have k1 : (mgE M != 0) = true := by simpa using h0
        clear h0
        go_wp2_with fail
        refine HEA.out.mono ?_
        rintro e w2 ⟨rfl, rfl⟩
        go_wp2_with fail
        refine bodyPost_ret (v := .tuple #[.slice none 0 0, .int .i64 (mgE M)]) (by simp [results, Try.results24, go_sem]) rfl ?_
        rw [HR.out]
        exact ⟨_, rfl, World.ownsRow_nil _ _ _ _, HB.out⟩
end Go.Proofs.Ytccglojnjakbfaa
