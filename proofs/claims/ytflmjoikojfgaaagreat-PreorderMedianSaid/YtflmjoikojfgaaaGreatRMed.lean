/- The reference's Median. -/
import Derived.Test.YtflmjoikojfgaaaGreatRmd
set_option linter.unusedSimpArgs false
set_option linter.unusedVariables false
namespace Go.Proofs.YtflmjoikojfgaaaGreat
open Go.RowKit Go.Sort

theorem lt_stepP {P : List Int} {x y : Int} {k : Nat} (hk : k < P.length) (hy : P.getD k 0 = y) : ltN (P.take (k + 1)) x = ltN (P.take k) x + (if y < x then 1 else 0) := by rw [lt_step hk, hy]
def RMedPost (w : World) (n : Nat) (P : List Int) (e : Ending) (w' : World) : Prop :=
  ∃ a b cap, e = .returned (.slice a n cap) ∧ SlI w' a b 0 n cap P ∧ Below w.heap.size w w'
set_option maxHeartbeats 4000000 in
set_option maxRecDepth 100000 in
theorem rmed_any {b off len cap N : Nat} {M : List Li} {w : World} (h : SlL w (some ⟨b, off, none⟩) b off len cap M) (hn : ∀ r ∈ M, r.L.length = N) (hpos : 0 < len) (h50 : len ≤ 50) (hN : N ≤ 1000) :
    Calls Tryz.prog 38 #[.slice (some ⟨b, off, none⟩) len cap] w (RMedPost w N (medR (lis M))) := by
  have hl := h.sl.hl
  have hcap := h.sl.hcap
  have hmax := h.sl.hmax
  unfold maxLen at hmax
  have h0M : 0 < M.length := by omega
  have hn0 := hn _ (List.getElem_mem h0M)
  have hhd : headI (lis M) = N := by rw [head_lis h0M, hn0]
  have HM := Lib.hid (fun (W : World) (hB : Below w.heap.size w W) (i : Nat) (hi : i < N) => rmd_any (h.keep hB) hn hi hpos h50 (by omega))
  have X0 := Lib.hid (fun (W : World) (hB : Below w.heap.size w W) => (show W.cell? ⟨b, off, none⟩ = some (.slice (M[0]'h0M).a N (M[0]'h0M).cap) by
    have := (h.keep hB).sl.cell 0 h0M
    unfold Li.val at this
    rw [hn0] at this
    exact this))
  unfold medR
  rw [hhd]
  have HMD := Lib.hid (fun (i : Nat) (hi : i < N) => medsL_at (lis M) hi)
  have HML := Lib.hid (medsL_len (lis M) N)
  have l0 : (0 : Int) < (len : Int) := by omega
  generalize (M[0]'h0M).a = a0 at *
  generalize (M[0]'h0M).cap = c0 at *
  obtain ⟨md, hmd⟩ : ∃ md : Nat → Int, md = medI (lis M) := ⟨_, rfl⟩
  have HMM := Lib.hid (fun (W : World) (hB : Below w.heap.size w W) (i : Nat) (hi : i < N) => (show Calls Tryz.prog 68 #[.slice (some ⟨b, off, none⟩) len cap, .int .i64 (i : Int)] W fun e w' => e = .returned (.int .i64 (md i)) ∧ Below W.heap.size W w' by rw [hmd]; exact HM.out W hB i hi))
  have HMV := Lib.hid (fun (i : Nat) (hi : i < N) => (show (medsL (lis M) N).getD i 0 = md i by rw [hmd]; exact HMD.out i hi))
  obtain ⟨P, hP⟩ : ∃ P, medsL (lis M) N = P := ⟨_, rfl⟩
  rw [hP] at HMV HML ⊢
  obtain ⟨i0, hi0, hz0, hz1, hz2⟩ := info_parts infoI
  clear h hn hn0 hhd hl HM HMD hmd hP h0M
  go_enter Tryz.func38, Tryz.ntmps38
  go_wp2_with fail
  have hown0 : (w.alloc (.cells #[] 3)).ownsRow w.heap.size 3 1 (.slice (some ⟨w.heap.size, 0, none⟩) 0 0) 0 [] := World.ownsRow_made w #[] 0 (Nat.le_refl _) (Nat.zero_le _) (by simp)
  have HO0 := Lib.hid hown0
  have HB0 := Lib.hid (show Below w.heap.size w (w.alloc (.cells #[] 3)) from (Below.refl _ _).alloc (Nat.le_refl _) _)
  clear hown0
  go_loopw [3, 4] (fun s3 s4 wr => ∃ (i : Nat) (v : Value), i ≤ N ∧ s3 = v ∧ s4 = .int .i64 (i : Int) ∧ Hid (wr.ownsRow w.heap.size 3 1 v i (((plcL cmpI P).take i).map (Value.int .i64))) ∧ Hid (Below w.heap.size w wr)) (fun _ s4 _ => (N - (intOf s4)).toNat)
  case atStart => exact ⟨0, _, Nat.zero_le _, rfl, rfl, Lib.hid (by simpa using HO0.out), HB0⟩
  case round =>
    clear HO0 HB0
    obtain ⟨i, v, hi, hv3, rfl, HO, HB⟩ := hrel
    replace hv3 := hv3.symm
    subst hv3
    have x0 := X0.out _ HB.out
    by_cases hlt : i < N
    · have l1 : (i : Int) < (N : Int) := by omega
      have HZ := Lib.hid (show (plcL cmpI P).take (i + 1) = (plcL cmpI P).take i ++ [1 + (ltN P (md i) : Int)] by
        have hiP : i < P.length := by rw [HML.out]; exact hlt
        have hil : i < (plcL cmpI P).length := by rw [plcL_len]; exact hiP
        rw [List.take_succ_eq_append_getElem hil]
        have := plc_getD hiP
        rw [HMV.out i hlt] at this
        rw [← this]
        simp [List.getD, hil])
      go_wp2_with fail
      go_loopw [5, 6] (fun s5 s6 wi => ∃ (k : Nat), k ≤ N ∧ s5 = .int .i64 (1 + (ltN (P.take k) (md i) : Int)) ∧ s6 = .int .i64 (k : Int) ∧ Hid (wi.ownsRow w.heap.size 3 1 v i (((plcL cmpI P).take i).map (Value.int .i64))) ∧ Hid (Below w.heap.size w wi)) (fun _ s6 _ => (N - (intOf s6)).toNat)
      case atStart => exact ⟨0, Nat.zero_le _, rfl, rfl, HO, HB⟩
      case round =>
        clear HO HB x0
        obtain ⟨k, hk, rfl, rfl, HO, HB⟩ := hrel
        have x0 := X0.out _ HB.out
        have n1 := ltN_le (P.take k) (md i)
        have n2 : (P.take k).length ≤ k := List.length_take_le _ _
        by_cases hltk : k < N
        · have l2 : (k : Int) < (N : Int) := by omega
          have HST := Lib.hid (lt_stepP (x := md i) (show k < P.length by rw [HML.out]; exact hltk) (HMV.out k hltk))
          have HC1 := Lib.hid (HMM.out _ HB.out k hltk)
          have HC2 := Lib.hid (fun W (hB : Below w.heap.size w W) => HMM.out W hB i hlt)
          obtain ⟨m, hm⟩ : ∃ m, ltN (P.take k) (md i) = m := ⟨_, rfl⟩
          rw [hm] at HST n1 ⊢
          obtain ⟨y, hy⟩ : ∃ y, md k = y := ⟨_, rfl⟩
          obtain ⟨z, hz⟩ : ∃ z, md i = z := ⟨_, rfl⟩
          rw [hy] at HC1 HST
          rw [hz] at HC2 HST
          have HZZ := Lib.hid hz
          clear hm hy hz
          go_wp2_with fail
          refine (HC1.out).mono ?_
          rintro e w4 ⟨rfl, hb⟩
          have HO4 := Lib.hid (own_below HO.out hb)
          have HB4 := Lib.hid (HB.out.trans (hb.mono HB.out.size))
          clear hb HO HB HC1 x0
          go_wp2_with fail
          refine (HC2.out _ HB4.out).mono ?_
          rintro e w5 ⟨rfl, hb⟩
          have HO5 := Lib.hid (own_below HO4.out hb)
          have HB5 := Lib.hid (HB4.out.trans (hb.mono HB4.out.size))
          clear hb HO4 HB4 HC2
          by_cases hyz : y < z
          · have HS2 := Lib.hid (show ltN (P.take (k + 1)) z = m + 1 by rw [HST.out, if_pos hyz])
            go_wp2_with fail
            go_roundw
            case rel => exact ⟨k + 1, by omega, by rw [HZZ.out, HS2.out]; go_num, by go_num, HO5, HB5⟩
            case measure => simp [intOf]; omega
          · have HS2 := Lib.hid (show ltN (P.take (k + 1)) z = m by rw [HST.out, if_neg hyz]; rfl)
            go_wp2_with fail
            go_roundw
            case rel => exact ⟨k + 1, by omega, by rw [HZZ.out, HS2.out], by go_num, HO5, HB5⟩
            case measure => simp [intOf]; omega
        · obtain rfl : k = N := by omega
          have l2 : ¬ (k : Int) < (k : Int) := by omega
          have e1 : P.take k = P := List.take_of_length_le (by have := HML.out; omega)
          rw [e1] at n1
          rw [e1]
          obtain ⟨x, hx⟩ : ∃ x : Int, 1 + (ltN P (md i) : Int) = x := ⟨_, rfl⟩
          rw [hx] at HZ ⊢
          have HBA := Lib.hid (HB.out.alloc HB.out.size (.cells #[.int .i64 x] 3))
          clear hx n1 n2 e1
          go_wp2_with (at_builtin; refine wpList_append_own _ rfl _ _ 31 rfl w.heap.size 3 i0 (.int .i64 0) 1 8 Tryz.underlying31 hi0 hz0 hz1 hz2 rfl (by decide) _ i (((plcL cmpI P).take i).map (Value.int .i64)) rfl (HO.out.alloc _) ⟨wr.heap.size, 0, none⟩ 1 1 [.int .i64 x] rfl rfl (new1 wr x _) (one1 x) ?n2 ?n3 ?n4 ?_)
          case n2 => unfold maxLen; omega
          case n3 => omega
          case n4 => have := HBA.out.size; simpa using this
          intro v1 w1 ho hg1 _
          have HO1 := Lib.hid (show w1.ownsRow w.heap.size 3 1 v1 (i + 1) (((plcL cmpI P).take (i + 1)).map (Value.int .i64)) by
            rw [HZ.out, List.map_append]
            first | exact ho | (rw [List.map_take]; exact ho))
          have HB1 := Lib.hid (HBA.out.grown hg1 HBA.out.size (fun k hk => ((HO.out.lt k hk).1)))
          clear ho hg1 HBA HO HB
          go_wp2_with fail
          go_roundw
          case rel => exact ⟨i + 1, _, by omega, rfl, by go_num, HO1, HB1⟩
          case measure => simp [intOf]; omega
    · obtain rfl : i = N := by omega
      have l1 : ¬ (i : Int) < (i : Int) := by omega
      have e1 : (plcL cmpI P).take i = plcL cmpI P := List.take_of_length_le (by rw [plcL_len]; have := HML.out; omega)
      rw [e1] at HO
      obtain ⟨ra, rb, rc, hv, hs, _, _⟩ := own_sl (enc := Value.int .i64) (show (plcL cmpI P).length = i by rw [plcL_len]; exact HML.out) HO.out
      subst hv
      have HS := Lib.hid hs
      clear hs HO e1
      go_wp2
      go_ret
      exact ⟨ra, rb, rc, rfl, HS.out, HB.out⟩
end Go.Proofs.YtflmjoikojfgaaaGreat
