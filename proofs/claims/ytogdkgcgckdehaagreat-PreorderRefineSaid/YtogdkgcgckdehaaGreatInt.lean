/- Lists of integers: cmp.Compare, slices.Equal, preorder.indices, the reference's Same. -/
import Derived.Test.YtogdkgcgckdehaaGreatPlq
import Derived.Test.YtogdkgcgckdehaaGreatFrc
import Derived.Laws.MakeOwn
set_option linter.unusedSimpArgs false
set_option linter.unusedVariables false
namespace Go.Proofs.YtogdkgcgckdehaaGreat
open Go.RowKit Go.Sort

def cmpI (x y : Int) : Int := ordI x y
theorem tot_cmpI : Tot cmpI := by
  refine ⟨fun a b => ordI_three a b, fun a b => ordI_turn a b, fun a b c => ?_⟩
  unfold cmpI
  rw [ordI_le, ordI_le, ordI_le]
  omega
theorem compareI_lib (x y : Int) : Lib.compareInt x y = cmpI x y := by
  unfold Lib.compareInt cmpI ordI
  by_cases h1 : x < y
  · rw [if_pos h1, if_pos h1]
  · by_cases h2 : x = y
    · rw [if_neg h1, if_neg h1, if_pos h2, if_neg (by omega)]
    · rw [if_neg h1, if_neg h1, if_neg h2, if_pos (by omega)]
theorem cmpI_any (x y : Int) (w : World) : Calls Tryz.prog 26 #[.int .i64 x, .int .i64 y] w fun e w' => e = .returned (.int .i64 (cmpI x y)) ∧ w = w' :=
  (Tryz.cmp_Compare_int x y w).mono fun _ _ ⟨he, hw⟩ => ⟨by rw [he, compareI_lib], hw.symm⟩
theorem cmpI_less (x y : Int) : decide (cmpI x y < 0) = decide (x < y) := by
  unfold cmpI ordI
  rw [decide_eq_decide]
  split <;> (try split) <;> omega
/-- two slices of integers: are they the same -/
theorem eqI_any {a a' : Option Addr} {b b' off off' len len' cap cap' : Nat} {A B : List Int} {w : World} (hA : SlI w a b off len cap A) (hB : SlI w a' b' off' len' cap' B) :
    Calls Tryz.prog 46 #[.slice a len cap, .slice a' len' cap'] w fun e w' => e = .returned (.bool (decide (A = B))) ∧ Grw w w' := by
  have m1 := hA.hmax
  have m2 := hB.hmax
  have c1 := hA.hcap
  have c2 := hB.hcap
  unfold maxLen at m1 m2
  by_cases hl : len = len'
  · subst hl
    by_cases h0 : len = 0
    · subst h0
      have eA : A = [] := List.eq_nil_of_length_eq_zero hA.hl
      have eB : B = [] := List.eq_nil_of_length_eq_zero hB.hl
      subst eA eB
      refine (Tryz.slices_Equal_int_empty a a' cap 0 cap' w (by omega)).mono ?_
      rintro e w1 ⟨rfl, rfl⟩
      exact ⟨rfl, Grw.refl _⟩
    · have ha := hA.ha (by omega)
      have hb := hB.ha (by omega)
      subst ha hb
      refine (Tryz.slices_Equal_int b off len cap b' off' len cap' A B w (by rw [hA.hl]; omega) (by rw [hB.hl]; omega) (by omega) (by omega) (fun j hj => ?_) (fun j hj => ?_)).mono ?_
      · rw [hA.cell j hj]; simp [List.getD, hj]
      · rw [hB.cell j hj]; simp [List.getD, hj]
      rintro e w1 ⟨rfl, q, rfl⟩
      refine ⟨?_, (Grw.refl _).drewN q⟩
      rw [List.take_of_length_le (by rw [hA.hl]; omega), List.take_of_length_le (by rw [hB.hl]; omega)]
      rw [show (A == B) = decide (A = B) from by rw [Bool.eq_iff_iff]; simp]
  · have hne : A ≠ B := fun e => hl (by rw [← hA.hl, ← hB.hl, e])
    refine (Tryz.slices_Equal_int_lens a a' len cap len' cap' w hl).mono ?_
    rintro e w1 ⟨rfl, rfl⟩
    exact ⟨by rw [decide_eq_false hne], Grw.refl _⟩
/-- the numbers from 0 on -/
def idxL (n : Nat) : List Int := (List.range n).map fun (i : Nat) => (i : Int)
theorem idxL_len (n : Nat) : (idxL n).length = n := by simp [idxL]
theorem idxL_getD {n j : Nat} (h : j < n) : (idxL n).getD j 0 = (j : Int) := by simp [idxL, List.getD, h]
set_option maxHeartbeats 1000000 in
set_option maxRecDepth 100000 in
theorem indices_any (n : Nat) (hn : n ≤ 1000000) (w : World) :
    Calls Tryz.prog 28 #[.int .i64 (n : Int)] w fun e w' => ∃ gb, e = .returned (.slice (some ⟨gb, 0, none⟩) n n) ∧ w'.ownsRow w.heap.size 3 1 (.slice (some ⟨gb, 0, none⟩) n n) n ((idxL n).map (Value.int .i64)) ∧ Below w.heap.size w w' := by
  obtain ⟨iz, hi, hz0, hz1, hz2⟩ := info_parts infoI
  obtain ⟨w4, hrun, hown, hgrow⟩ := run_make_full (P := Tryz.prog) w w.heap.size 28 3 iz (.int .i64 0) 1 Tryz.underlying28 hi hz0 hz1 .i64 .i64 n (by rw [hz2]; omega) (by unfold maxLen; omega) (Nat.le_refl _)
  have hB4 : Below w.heap.size w w4 := (Below.refl _ _).grown hgrow (Nat.le_refl _) (by simp)
  have HO4 := Lib.hid (show w4.ownsRow w.heap.size 3 1 (.slice (some ⟨w.heap.size, 0, none⟩) n n) n ((List.replicate n (0 : Int)).map (Value.int .i64)) by
    have e : (madeCells (Value.int .i64 0).cells (n * 1)).toList = (List.replicate n (0 : Int)).map (Value.int .i64) := by
      rw [List.map_replicate, Nat.mul_one]
      exact toList_madeCells_one _ _
    rw [← e]; exact hown)
  have HB4 := Lib.hid hB4
  clear hown hgrow hB4
  obtain ⟨gz, hgz⟩ : ∃ gz, w.heap.size = gz := ⟨_, rfl⟩
  rw [hgz] at hrun HO4 HB4 ⊢
  have HGZ := Lib.hid hgz
  clear hgz
  go_enter Tryz.func28, Tryz.ntmps28
  go_wp2_with fail
  clear hrun
  go_loopw [9] (fun s9 wr => ∃ (k : Nat) (Z : List Int), k ≤ n ∧ s9 = .int .i64 (k : Int) ∧ Hid (wr.ownsRow gz 3 1 (.slice (some ⟨gz, 0, none⟩) n n) n (Z.map (Value.int .i64))) ∧ Hid (Below gz w wr) ∧ Hid (Z.length = n) ∧ Hid (∀ j, j < k → Z.getD j 0 = (idxL n).getD j 0)) (fun s9 _ => (n - (intOf s9)).toNat)
  case atStart => exact ⟨0, List.replicate n 0, Nat.zero_le _, rfl, HO4, HB4, Lib.hid (by simp), Lib.hid (fun j h => absurd h (Nat.not_lt_zero j))⟩
  case round =>
    clear HO4 HB4
    obtain ⟨k, Z, hk, rfl, HO, HB, HZL, HZV⟩ := hrel
    by_cases hlt : k < n
    · have l1 : (k : Int) < (n : Int) := by omega
      have fz : wr.frozen? ⟨gz, k, none⟩ = false := HO.out.frozenAt k
      have cz : ∃ z, wr.cell? ⟨gz, k, none⟩ = some z := ⟨_, by rw [HO.out.cellAt k (by omega), List.getElem?_map, List.getElem?_eq_getElem (by rw [HZL.out]; exact hlt)]; rfl⟩
      obtain ⟨z, cz⟩ := cz
      go_wp2_with fail
      go_roundw
      case rel =>
        have hst := HO.out.stored k (.int .i64 (k : Int))
        rw [← List.map_set] at hst
        exact ⟨k + 1, Z.set k (k : Int), by omega, by go_num, Lib.hid hst.1, Lib.hid (HB.out.setCell (by simp) _), Lib.hid (by rw [List.length_set]; exact HZL.out), Lib.hid (setI_next HZL.out hlt (idxL_getD hlt) HZV.out)⟩
      case measure => simp [intOf]; omega
    · obtain rfl : k = n := by omega
      have l1 : ¬ (k : Int) < (k : Int) := by omega
      go_wp2
      go_ret
      have e : Z = idxL k := eq_getD (by rw [HZL.out, idxL_len]) (fun j hj => HZV.out j (by rw [← HZL.out]; exact hj))
      exact ⟨gz, rfl, e ▸ HO.out, HB.out⟩
end Go.Proofs.YtogdkgcgckdehaaGreat
