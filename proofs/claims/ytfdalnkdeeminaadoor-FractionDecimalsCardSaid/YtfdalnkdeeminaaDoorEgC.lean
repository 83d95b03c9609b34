/- The examples of the chapter on fractions, third part: Decimal, Round, and the examples of the operations. -/
import Derived.Test.YtfdalnkdeeminaaDoorEgB
set_option linter.unusedSimpArgs false
set_option linter.unusedVariables false
namespace Go.Proofs.YtfdalnkdeeminaaDoor
open Go.RowKit

theorem eg_rep (w : World) : Calls Tryd.prog 61 #[.string ⟨#[48]⟩, .int .i64 3] w fun e w' => e = .returned (.string ⟨#[48, 48, 48]⟩) ∧ Below w.heap.size w w' := by
  refine (Tryd.strings_Repeat ⟨#[48]⟩ 3 w (by decide) (by decide)).mono ?_
  rintro e w' ⟨rfl, hb⟩
  exact ⟨by kernel_rfl, hb⟩
theorem eg_mag (n m : Int) (h : absI n = m) (h1 : -9223372036854775808 ≤ n) (h2 : n ≤ 9223372036854775807) (w : World) : Calls Tryd.prog 43 #[.int .i64 n] w fun e w' => e = .returned (.int .u64 m) ∧ w = w' := by
  rw [← h]; exact magnitude_any n h1 h2 w
theorem eg_vd (w : World) : Calls Tryd.prog 59 #[.int .i64 3] w fun e w' => e = .returned (.bool true) ∧ w = w' := validDigits_any 3 w
theorem eg_vd2 (w : World) : Calls Tryd.prog 59 #[.int .i64 2] w fun e w' => e = .returned (.bool true) ∧ w = w' := validDigits_any 2 w

set_option maxHeartbeats 400000 in
theorem eg_dec (w : World) : Calls Tryd.prog 36 #[.int .i64 (-5), .int .i64 3] w fun e w' => e = .returned (.tuple #[.string ⟨#[45, 48, 46, 48, 48, 53]⟩, .int .i64 0]) ∧ Below w.heap.size w w' := by
  go_enter Tryd.func36, Tryd.ntmps36
  go_wp2_with fail
  refine (eg_vd _).mono ?_
  rintro e w1 ⟨rfl, rfl⟩
  go_wp2_with fail
  refine (eg_mag (-5) 5 (by decide) (by decide) (by decide) _).mono ?_
  rintro e w1 ⟨rfl, rfl⟩
  go_wp2_with fail
  refine (eg_fmt _).mono ?_
  rintro e w1 ⟨rfl, rfl⟩
  go_wp2_with fail
  refine (eg_rep _).mono ?_
  rintro e w1 ⟨rfl, hb1⟩
  go_wp2_with fail
  go_quiet (fail)
  go_wp2
  go_ret2
  exact ⟨by kernel_rfl, (by repeat (first | with_reducible exact Below.refl _ _ | (with_reducible refine Below.setCell ?_ (by first | exact Nat.le_refl _ | omega | (simp; done) | (simp; omega)) _) | (with_reducible refine Below.alloc ?_ (by first | exact Nat.le_refl _ | omega | (simp; done) | (simp; omega)) _) | with_reducible refine Below.drew ?_ | with_reducible refine bel_drewN ?_ _ | (with_reducible refine bel_by (by with_reducible assumption) (by first | exact Nat.le_refl _ | omega | (simp; done) | (simp; omega)) ?_)))⟩

theorem eg_vm (w : World) : Calls Tryd.prog 71 #[.int .i64 2] w fun e w' => e = .returned (.bool true) ∧ w = w' := by
  go_enter Tryd.func71, Tryd.ntmps71
  go_wp2
  go_ret
  exact ⟨rfl, rfl⟩
theorem eg_away (w : World) : Calls Tryd.prog 74 #[.int .u64 12, .int .u64 4, .int .u64 8, .int .i64 2] w fun e w' => e = .returned (.bool true) ∧ w = w' := by
  go_enter Tryd.func74, Tryd.ntmps74
  go_wp2
  go_ret
  exact ⟨rfl, rfl⟩
theorem eg_pow2 (w : World) : Calls Tryd.prog 72 #[.int .i64 2] w fun e w' => e = .returned (.int .u64 100) ∧ w = w' := by
  refine (power_any 2 (by decide) (by decide) w).mono ?_
  rintro e w' ⟨rfl, rfl⟩
  exact ⟨by kernel_rfl, rfl⟩
theorem eg_mult (w : World) : Calls Tryd.prog 55 #[.int .u64 1, .int .u64 100] w fun e w' => e = .returned (.agg #[.int .u64 0, .int .u64 100]) ∧ Below w.heap.size w w' :=
  multiply_any 1 100 (by decide) (by decide) (by decide) (by decide) w
theorem eg_split (w : World) : Calls Tryd.prog 73 #[.agg #[.int .u64 0, .int .u64 100], .int .u64 8] w fun e w' => e = .returned (.tuple #[.agg #[.int .u64 0, .int .u64 12], .int .u64 4]) ∧ Below w.heap.size w w' :=
  split_any 0 100 8 (by decide) (by decide) (by decide) (by decide) (by decide) (by decide) w
theorem eg_plus (w : World) : Calls Tryd.prog 75 #[.agg #[.int .u64 0, .int .u64 12], .agg #[.int .u64 0, .int .u64 1]] w fun e w' => e = .returned (.agg #[.int .u64 0, .int .u64 13]) ∧ Below w.heap.size w w' :=
  pplus_any 0 12 0 1 (by decide) (by decide) (by decide) (by decide) (by decide) (by decide) (by decide) (by decide) (by decide) w
theorem eg_most (w : World) : Calls Tryd.prog 76 #[.agg #[.int .u64 0, .int .u64 13], .int .u64 1000000000000000000] w fun e w' => e = .returned (.bool true) ∧ Below w.heap.size w w' :=
  patMost_any 0 13 1000000000000000000 (by decide) (by decide) (by decide) (by decide) (by decide) (by decide) w

set_option maxHeartbeats 1000000 in
theorem eg_round (w : World) : Calls Tryd.prog 46 #[.agg #[.int .i64 (-1), .int .i64 8], .int .i64 2, .int .i64 2] w fun e w' => e = .returned (.tuple #[.int .i64 (-13), .int .i64 0]) ∧ Below w.heap.size w w' := by
  go_enter Tryd.func46, Tryd.ntmps46
  go_wp2_with fail
  refine (eg_valid (-1) 8 true (by decide +kernel) (by decide) (by decide) (by decide) (by decide) _).mono ?_
  rintro e w1 ⟨rfl, hb1⟩
  obtain ⟨hc1, hf1⟩ := bcell hb1
  have hz1 := bsize hb1
  simp at hz1
  have k0 : w.heap.size < w1.heap.size := by omega
  go_wp2_with fail
  refine (eg_vd2 _).mono ?_
  rintro e w2 ⟨rfl, rfl⟩
  go_wp2_with fail
  refine (eg_vm _).mono ?_
  rintro e w2 ⟨rfl, rfl⟩
  go_wp2_with fail
  refine (eg_mag (-1) 1 (by decide) (by decide) (by decide) _).mono ?_
  rintro e w2 ⟨rfl, rfl⟩
  go_wp2_with fail
  refine (eg_pow2 _).mono ?_
  rintro e w2 ⟨rfl, rfl⟩
  go_wp2_with fail
  refine (eg_mult _).mono ?_
  rintro e w2 ⟨rfl, hb2⟩
  go_wp2_with fail
  refine (eg_split _).mono ?_
  rintro e w3 ⟨rfl, hb3⟩
  have hz2 := bsize hb2
  have hz3 := bsize hb3
  have hb13 : Below w1.heap.size w1 w3 := (by repeat (first | with_reducible exact Below.refl _ _ | (with_reducible refine Below.setCell ?_ (by first | exact Nat.le_refl _ | omega | (simp; done) | (simp; omega)) _) | (with_reducible refine Below.alloc ?_ (by first | exact Nat.le_refl _ | omega | (simp; done) | (simp; omega)) _) | with_reducible refine Below.drew ?_ | with_reducible refine bel_drewN ?_ _ | (with_reducible refine bel_by (by with_reducible assumption) (by first | exact Nat.le_refl _ | omega | (simp; done) | (simp; omega)) ?_)))
  obtain ⟨hc3, hf3⟩ := bcell hb13
  have f3 : w3.cell? ⟨w.heap.size, 0, none⟩ = some (.int .i64 (-1)) := by simp [go_sem, hc3, hc1, k0]
  have k3 : w.heap.size < w3.heap.size := by omega
  have hbW : Below w.heap.size w w3 := (by repeat (first | with_reducible exact Below.refl _ _ | (with_reducible refine Below.setCell ?_ (by first | exact Nat.le_refl _ | omega | (simp; done) | (simp; omega)) _) | (with_reducible refine Below.alloc ?_ (by first | exact Nat.le_refl _ | omega | (simp; done) | (simp; omega)) _) | with_reducible refine Below.drew ?_ | with_reducible refine bel_drewN ?_ _ | (with_reducible refine bel_by (by with_reducible assumption) (by first | exact Nat.le_refl _ | omega | (simp; done) | (simp; omega)) ?_)))
  have HBW := Lib.hid hbW
  clear hc3 hf3 hc1 hf1 hb1 hb2 hb3 hb13 hbW hz1 hz2 hz3 k0
  go_wp2_with fail
  refine (eg_away _).mono ?_
  rintro e w4 ⟨rfl, rfl⟩
  go_wp2_with fail
  refine (eg_plus _).mono ?_
  rintro e w4 ⟨rfl, hb4⟩
  obtain ⟨hc4, hf4⟩ := bcell hb4
  have hz4 := bsize hb4
  simp at hz4
  have k4 : w3.heap.size < w4.heap.size := by omega
  have k5 : w.heap.size < w4.heap.size := by omega
  have l3 : w.heap.size ≤ w3.heap.size := by omega
  go_wp2_with fail
  refine (eg_most _).mono ?_
  rintro e w5 ⟨rfl, hb5⟩
  have hb5' := hb5
  simp at hb5
  obtain ⟨hc5, hf5⟩ := bcell (W := (w4.setCell ⟨w3.heap.size, 0, none⟩ (.int .u64 0)).setCell ⟨w3.heap.size, 1, none⟩ (.int .u64 13)) (by simpa using hb5)
  simp only [World.size_setCell] at hc5 hf5
  go_wp2
  have hbW := HBW.out
  clear hb5
  go_ret2
  exact ⟨by first | rfl | kernel_rfl, (by repeat (first | with_reducible exact Below.refl _ _ | (with_reducible refine Below.setCell ?_ (by first | exact Nat.le_refl _ | omega | (simp; done) | (simp; omega)) _) | (with_reducible refine Below.alloc ?_ (by first | exact Nat.le_refl _ | omega | (simp; done) | (simp; omega)) _) | with_reducible refine Below.drew ?_ | with_reducible refine bel_drewN ?_ _ | (with_reducible refine bel_by (by with_reducible assumption) (by first | exact Nat.le_refl _ | omega | (simp; done) | (simp; omega)) ?_)))⟩

theorem eg_make (w : World) : Calls Tryd.prog 12 #[.int .i64 6, .int .i64 (-4)] w fun e w' => e = .returned (fracE (-3, 2, 0)) ∧ Below w.heap.size w w' := by
  refine (make_any 6 (-4) (by decide) (by decide) (by decide) (by decide) w).mono ?_
  rintro e w' ⟨rfl, hb⟩
  exact ⟨by rw [show makeS 6 (-4) = (-3, 2, 0) from by decide +kernel], hb⟩
theorem eg_add (an ad bn bd : Int) (t : Int × Int × Int) (h : addS an ad bn bd = t) (W1 : Wf64 (an, ad)) (W2 : Wf64 (bn, bd)) (w : World) :
    Calls Tryd.prog 22 #[.agg #[.int .i64 an, .int .i64 ad], .agg #[.int .i64 bn, .int .i64 bd]] w fun e w' => e = .returned (fracE t) ∧ Below w.heap.size w w' := by
  rw [← h]; exact add_any an ad bn bd W1 W2 w
theorem eg_add1 (w : World) : Calls Tryd.prog 22 #[.agg #[.int .i64 1, .int .i64 3], .agg #[.int .i64 1, .int .i64 6]] w fun e w' => e = .returned (fracE (1, 2, 0)) ∧ Below w.heap.size w w' :=
  eg_add 1 3 1 6 (1, 2, 0) (by decide +kernel) ⟨by decide, by decide, by decide, by decide⟩ ⟨by decide, by decide, by decide, by decide⟩ w
theorem eg_add2 (w : World) : Calls Tryd.prog 22 #[.agg #[.int .i64 999999999999999999, .int .i64 1000000000000000000], .agg #[.int .i64 1, .int .i64 1000000000000000000]] w fun e w' => e = .returned (fracE (1, 1, 0)) ∧ Below w.heap.size w w' :=
  eg_add 999999999999999999 1000000000000000000 1 1000000000000000000 (1, 1, 0) (by decide +kernel) ⟨by decide, by decide, by decide, by decide⟩ ⟨by decide, by decide, by decide, by decide⟩ w
theorem eg_add3 (w : World) : Calls Tryd.prog 22 #[.agg #[.int .i64 1000000000000000000, .int .i64 1], .agg #[.int .i64 1, .int .i64 1]] w fun e w' => e = .returned (fracE (0, 0, 5)) ∧ Below w.heap.size w w' :=
  eg_add 1000000000000000000 1 1 1 (0, 0, 5) (by decide +kernel) ⟨by decide, by decide, by decide, by decide⟩ ⟨by decide, by decide, by decide, by decide⟩ w
theorem eg_mul (w : World) : Calls Tryd.prog 26 #[.agg #[.int .i64 2, .int .i64 3], .agg #[.int .i64 9, .int .i64 4]] w fun e w' => e = .returned (fracE (3, 2, 0)) ∧ Below w.heap.size w w' := by
  refine (mul_any 2 3 9 4 ⟨by decide, by decide, by decide, by decide⟩ ⟨by decide, by decide, by decide, by decide⟩ w).mono ?_
  rintro e w' ⟨rfl, hb⟩
  exact ⟨by rw [show mulS 2 3 9 4 = (3, 2, 0) from by decide +kernel], hb⟩
end Go.Proofs.YtfdalnkdeeminaaDoor
