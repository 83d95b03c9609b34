/- Contracts of layer 4: the order of two pieces. -/
import Derived.Test.YtflpehpjemlphaaDoorPiece
import Derived.StillTailTactics
set_option linter.unusedSimpArgs false
set_option linter.unusedVariables false
namespace Go.Proofs.YtflpehpjemlphaaDoor
open Go.RowKit

/-- the first number that is not 0 -/
def orL (xs : List Int) : Int := (xs.find? (fun x => x != 0)).getD 0
theorem orL_hit {xs : List Int} {k : Nat} (h : ∀ j, j < k → xs.getD j 0 = 0) (hk : k < xs.length) (hn : xs.getD k 0 ≠ 0) : orL xs = xs.getD k 0 := by
  induction xs generalizing k with
  | nil => simp at hk
  | cons x t ih =>
    cases k with
    | zero =>
      have : x ≠ 0 := by simpa using hn
      simp [orL, this]
    | succ k =>
      have hx : x = 0 := by simpa using h 0 (by omega)
      have := ih (k := k) (fun j hj => by simpa using h (j + 1) (by omega)) (by simpa using hk) (by simpa using hn)
      unfold orL at this ⊢
      rw [List.find?_cons_of_neg (by simp [hx]), this]
      simp
theorem orL_miss {xs : List Int} (h : ∀ j, j < xs.length → xs.getD j 0 = 0) : orL xs = 0 := by
  induction xs with
  | nil => rfl
  | cons x t ih =>
    have hx : x = 0 := by simpa using h 0 (by simp)
    have := ih (fun j hj => by simpa using h (j + 1) (by simpa using hj))
    unfold orL at this ⊢
    rw [List.find?_cons_of_neg (by simp [hx]), this]
theorem orL3 (a b c : Int) : orL [a, b, c] = if a = 0 then (if b = 0 then c else b) else a := by
  unfold orL
  by_cases ha : a = 0
  · by_cases hb : b = 0
    · by_cases hc : c = 0
      · simp [ha, hb, hc]
      · simp [ha, hb, hc]
    · simp [ha, hb]
  · simp [ha]

set_option maxHeartbeats 1000000 in
set_option maxRecDepth 100000 in
theorem or_any (b off c : Nat) (xs : List Int) (w : World) (hz : xs.length ≤ 1000) (hc : ∀ j, j < xs.length → w.cell? ⟨b, off + j, none⟩ = some (.int .i64 (xs.getD j 0))) :
    Calls Tryd.prog 53 #[.slice (some ⟨b, off, none⟩) xs.length c] w fun e w' => e = .returned (.int .i64 (orL xs)) ∧ w' = w := by
  have HC := Lib.hid hc
  have HH := Lib.hid (fun k => @orL_hit xs k)
  have HM := Lib.hid (@orL_miss xs)
  obtain ⟨n, hn⟩ : ∃ n, xs.length = n := ⟨_, rfl⟩
  obtain ⟨o, ho⟩ : ∃ o, orL xs = o := ⟨_, rfl⟩
  rw [hn] at HC HH HM hz ⊢
  rw [ho] at HH HM ⊢
  clear hc hn ho
  go_enter Tryd.func53, Tryd.ntmps53
  go_wp2
  go_loop [8] (fun s8 => ∃ k : Nat, k ≤ n ∧ s8 = .int .i64 (k : Int) ∧ Hid (∀ j, j < k → xs.getD j 0 = 0)) (fun s8 => (n - (intOf s8)).toNat)
  case atStart => exact ⟨0, Nat.zero_le _, rfl, Lib.hid (fun j hj => absurd hj (Nat.not_lt_zero j))⟩
  case round =>
    obtain ⟨k, hk, rfl, HK⟩ := hrel
    by_cases hlt : k < n
    · have hl : (k : Int) < (n : Int) := by omega
      have hcell := HC.out k hlt
      by_cases hx : xs.getD k 0 = 0
      · have HX := Lib.hid hx
        have k1 : (xs.getD k 0 != 0) = false := by rw [hx]; rfl
        obtain ⟨x, hxx⟩ : ∃ x, xs.getD k 0 = x := ⟨_, rfl⟩
        rw [hxx] at hcell k1
        clear hx hxx
        go_wp2
        go_round
        case rel =>
          refine ⟨k + 1, by omega, by go_num, Lib.hid (fun j hj => ?_)⟩
          by_cases e : j = k
          · subst e; exact HX.out
          · exact HK.out j (by omega)
        case measure => simp [intOf]; omega
      · have HX := Lib.hid (HH.out k HK.out hlt hx)
        have k1 : (xs.getD k 0 != 0) = true := by simpa using hx
        generalize xs.getD k 0 = x at *
        clear hx
        go_wp2
        go_ret
        exact ⟨by rw [HX.out]; rfl, rfl⟩
    · obtain rfl : k = n := by omega
      have HX := Lib.hid (HM.out HK.out)
      go_wp2
      go_ret
      exact ⟨by rw [HX.out]; rfl, rfl⟩

theorem or3_any (b : Nat) (x0 x1 x2 : Int) (w : World) (h0 : w.cell? ⟨b, 0, none⟩ = some (.int .i64 x0)) (h1 : w.cell? ⟨b, 1, none⟩ = some (.int .i64 x1)) (h2 : w.cell? ⟨b, 2, none⟩ = some (.int .i64 x2)) :
    Calls Tryd.prog 53 #[.slice (some ⟨b, 0, none⟩) 3 3] w fun e w' => e = .returned (.int .i64 (orL [x0, x1, x2])) ∧ w' = w :=
  or_any b 0 3 [x0, x1, x2] w (by simp) (fun j hj => by
    obtain rfl | rfl | rfl : j = 0 ∨ j = 1 ∨ j = 2 := by simp at hj; omega
    · exact h0
    · exact h1
    · exact h2)
theorem orL_tok (k1 k2 : Int) (n1 n2 : List UInt8) : orL [Lib.compareInt k1 k2, Lib.compareInt (n1.length : Int) (n2.length : Int), Lib.compareBytes n1 n2] = tokC (k1, n1) (k2, n2) := by
  rw [orL3]
  rfl
theorem bs_size (l : List UInt8) : (bs l).size = l.length := by unfold bs; simp [ByteArray.size]
theorem bs_data (l : List UInt8) : (bs l).data.toList = l := by unfold bs; simp
theorem compare_call (x y : Int) (w : World) : Calls Tryd.prog 54 #[.int .i64 x, .int .i64 y] w fun e w' => e = .returned (.int .i64 (Lib.compareInt x y)) ∧ w' = w := Tryd.cmp_Compare_int x y w
set_option maxHeartbeats 1000000 in
set_option maxRecDepth 100000 in
theorem order_any (k1 k2 : Int) (n1 n2 : List UInt8) (hn1 : n1.length ≤ 4611686018427387904) (hn2 : n2.length ≤ 4611686018427387904) (w : World) :
    Calls Tryd.prog 42 #[.agg #[.int .i64 k1, .string (bs n1)], .agg #[.int .i64 k2, .string (bs n2)]] w fun e w' => e = .returned (.int .i64 (tokC (k1, n1) (k2, n2))) ∧ Below w.heap.size w w' := by
  have hs1 := bs_size n1
  have hs2 := bs_size n2
  obtain ⟨s1, e1⟩ : ∃ s, bs n1 = s := ⟨_, rfl⟩
  obtain ⟨s2, e2⟩ : ∃ s, bs n2 = s := ⟨_, rfl⟩
  rw [e1] at hs1 ⊢
  rw [e2] at hs2 ⊢
  have HT := Lib.hid (orL_tok k1 k2 n1 n2)
  have HB := Lib.hid (show Lib.compareBytes s1.data.toList s2.data.toList = Lib.compareBytes n1 n2 by rw [← e1, ← e2, bs_data, bs_data])
  rw [← hs1, ← hs2] at HT
  have hz1 : s1.size ≤ 4611686018427387904 := by omega
  have hz2 : s2.size ≤ 4611686018427387904 := by omega
  clear e1 e2 hs1 hs2 hn1 hn2
  generalize tokC (k1, n1) (k2, n2) = t at *
  have HW : ∃ w2 : World, (w.alloc (.cells #[.int .i64 k1, .string s1] 46)).alloc (.cells #[.int .i64 k2, .string s2] 46) = w2 ∧ w2.drew.cell? ⟨w.heap.size, 0, none⟩ = some (.int .i64 k1) ∧ w2.drew.cell? ⟨w.heap.size, 1, none⟩ = some (.string s1) ∧ w2.drew.cell? ⟨w.heap.size + 1, 0, none⟩ = some (.int .i64 k2) ∧ w2.drew.cell? ⟨w.heap.size + 1, 1, none⟩ = some (.string s2) ∧ Hid (Below w.heap.size w w2.drew) :=
    ⟨_, rfl, by simp [go_sem], by simp [go_sem], by simp [go_sem], by simp [go_sem], Lib.hid (by repeat (first | with_reducible exact Below.refl _ _ | (with_reducible refine Below.setCell ?_ (by first | exact Nat.le_refl _ | omega | (simp; done) | (simp; omega)) _) | (with_reducible refine Below.alloc ?_ (by first | exact Nat.le_refl _ | omega | (simp; done) | (simp; omega)) _) | with_reducible refine Below.drew ?_ | with_reducible refine bel_drewN ?_ _ | (with_reducible refine bel_by (by with_reducible assumption) (by first | exact Nat.le_refl _ | omega | (simp; done) | (simp; omega)) ?_)))⟩
  obtain ⟨w2, hw2, c0, c1, c2, c3, HL⟩ := HW
  have HW2 := Lib.hid hw2
  clear hw2
  go_enter Tryd.func42, Tryd.ntmps42
  go_wp2
  rw [HW2.out]
  refine wp_region_still_tail 17 (by kernel_rfl) (by kernel_rfl) ?_
  simp only [List.take_succ_cons, List.take_zero, List.drop_succ_cons, List.drop_zero]
  change wpStill _ _ w2.drew _ _ _
  obtain ⟨w3, hw3⟩ : ∃ w3, w2.drew = w3 := ⟨_, rfl⟩
  rw [hw3] at c0 c1 c2 c3 HL ⊢
  have HW3 := Lib.hid hw3
  clear HW2 hw3
  repeat still_step
  still_call (compare_call _ _ _)
  repeat still_step
  still_call (compare_call _ _ _)
  repeat still_step
  still_call (Tryd.strings_Compare _ _ _)
  refine wpStill_nil ?_
  rw [HB.out]
  change wpList _ _ _ _ _ w2.drew
  rw [HW3.out]
  clear HW3 c0 c1 c2 c3 HB
  go_wp2_with fail
  refine (or3_any w3.heap.size (Lib.compareInt k1 k2) (Lib.compareInt (s1.size : Int) (s2.size : Int)) (Lib.compareBytes n1 n2) _ (by simp [go_sem]) (by simp [go_sem]) (by simp [go_sem])).mono ?_
  rintro e w1 ⟨rfl, rfl⟩
  rw [HT.out]
  go_wp2
  go_ret
  exact ⟨rfl, HL.out.alloc HL.out.size _⟩
end Go.Proofs.YtflpehpjemlphaaDoor
