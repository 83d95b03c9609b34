/- The examples of the chapter on fractions, first part: Parse. -/
import Derived.Test.YtfdalnkdeeminaaDoorRunB
import Derived.Test.YtfdalnkdeeminaaDoorNumJ
set_option linter.unusedSimpArgs false
set_option linter.unusedVariables false
namespace Go.Proofs.YtfdalnkdeeminaaDoor
open Go.RowKit

theorem eg_cut1 (w : World) : Calls Tryd.prog 62 #[.string ⟨#[48, 46, 49, 50, 53]⟩, .string ⟨#[45]⟩] w fun e w' => e = .returned (.tuple #[.string ⟨#[48, 46, 49, 50, 53]⟩, .bool false]) ∧ w = w' := by
  refine (Tryd.strings_CutPrefix ⟨#[48, 46, 49, 50, 53]⟩ ⟨#[45]⟩ w).mono ?_
  rintro e w' ⟨rfl, rfl⟩
  exact ⟨by kernel_rfl, rfl⟩
theorem eg_cut2 (w : World) : Calls Tryd.prog 62 #[.string ⟨#[49, 46]⟩, .string ⟨#[45]⟩] w fun e w' => e = .returned (.tuple #[.string ⟨#[49, 46]⟩, .bool false]) ∧ w = w' := by
  refine (Tryd.strings_CutPrefix ⟨#[49, 46]⟩ ⟨#[45]⟩ w).mono ?_
  rintro e w' ⟨rfl, rfl⟩
  exact ⟨by kernel_rfl, rfl⟩
theorem eg_run1 (w : World) : Calls Tryd.prog 63 #[.string ⟨#[48, 46, 49, 50, 53]⟩] w fun e w' => e = .returned (.tuple #[.string ⟨#[48]⟩, .string ⟨#[46, 49, 50, 53]⟩, .bool true]) ∧ ∃ n, w' = w.drewN n := by
  refine (cutRun_any ⟨#[48, 46, 49, 50, 53]⟩ w (by decide)).mono ?_
  rintro e w' ⟨rfl, n, rfl⟩
  exact ⟨by kernel_rfl, n, rfl⟩
theorem eg_run2 (w : World) : Calls Tryd.prog 63 #[.string ⟨#[49, 50, 53]⟩] w fun e w' => e = .returned (.tuple #[.string ⟨#[49, 50, 53]⟩, .string ⟨#[]⟩, .bool true]) ∧ ∃ n, w' = w.drewN n := by
  refine (cutRun_any ⟨#[49, 50, 53]⟩ w (by decide)).mono ?_
  rintro e w' ⟨rfl, n, rfl⟩
  exact ⟨by kernel_rfl, n, rfl⟩
theorem eg_run3 (w : World) : Calls Tryd.prog 63 #[.string ⟨#[49, 46]⟩] w fun e w' => e = .returned (.tuple #[.string ⟨#[49]⟩, .string ⟨#[46]⟩, .bool true]) ∧ ∃ n, w' = w.drewN n := by
  refine (cutRun_any ⟨#[49, 46]⟩ w (by decide)).mono ?_
  rintro e w' ⟨rfl, n, rfl⟩
  exact ⟨by kernel_rfl, n, rfl⟩
theorem eg_run4 (w : World) : Calls Tryd.prog 63 #[.string ⟨#[]⟩] w fun e w' => e = .returned (.tuple #[.string ⟨#[]⟩, .string ⟨#[]⟩, .bool false]) ∧ ∃ n, w' = w.drewN n := by
  refine (cutRun_any ⟨#[]⟩ w (by decide)).mono ?_
  rintro e w' ⟨rfl, n, rfl⟩
  exact ⟨by kernel_rfl, n, rfl⟩
theorem eg_num1 (w : World) : Calls Tryd.prog 64 #[.string ⟨#[48, 49, 50, 53]⟩] w fun e w' => e = .returned (.int .u64 125) ∧ w = w' := by
  refine (number_any ⟨#[48, 49, 50, 53]⟩ w (by decide) (by intro c hc; simp at hc; rcases hc with rfl | rfl | rfl | rfl <;> decide)).mono ?_
  rintro e w' ⟨rfl, rfl⟩
  exact ⟨by kernel_rfl, rfl⟩
theorem eg_pow1 (w : World) : Calls Tryd.prog 72 #[.int .i64 3] w fun e w' => e = .returned (.int .u64 1000) ∧ w = w' := by
  refine (power_any 3 (by decide) (by decide) w).mono ?_
  rintro e w' ⟨rfl, rfl⟩
  exact ⟨by kernel_rfl, rfl⟩
theorem eg_red1 (w : World) : Calls Tryd.prog 42 #[.bool false, .int .u64 125, .int .u64 1000] w fun e w' => e = .returned (fracE (1, 8, 0)) ∧ Below w.heap.size w w' := by
  refine (reduced_any false 125 1000 (by decide) (by decide) (by decide) (by decide) w).mono ?_
  rintro e w' ⟨rfl, hb⟩
  exact ⟨by rw [show bndI false 125 1000 = (1, 8, 0) from by decide +kernel], hb⟩

set_option maxHeartbeats 400000 in
theorem eg_pdec (w : World) : Calls Tryd.prog 66 #[.bool false, .string ⟨#[48]⟩, .string ⟨#[49, 50, 53]⟩] w fun e w' => e = .returned (fracE (1, 8, 0)) ∧ Below w.heap.size w w' := by
  go_enter Tryd.func66, Tryd.ntmps66
  go_wp2_with fail
  refine (eg_num1 _).mono ?_
  rintro e w1 ⟨rfl, rfl⟩
  go_wp2_with fail
  refine (eg_pow1 _).mono ?_
  rintro e w1 ⟨rfl, rfl⟩
  go_wp2_with fail
  refine (eg_red1 _).mono ?_
  rintro e w2 ⟨rfl, hb2⟩
  obtain ⟨hc2, hf2⟩ := bcell hb2
  have hz2 := bsize hb2
  simp at hz2
  go_wp2
  refine bodyPost_ret (v := fracE (1, 8, 0)) (by simp [results, Tryd.results66, go_sem, hc2, hf2]) rfl ⟨rfl, (by repeat (first | with_reducible exact Below.refl _ _ | (with_reducible refine Below.setCell ?_ (by first | exact Nat.le_refl _ | omega | (simp; done) | (simp; omega)) _) | (with_reducible refine Below.alloc ?_ (by first | exact Nat.le_refl _ | omega | (simp; done) | (simp; omega)) _) | with_reducible refine Below.drew ?_ | with_reducible refine bel_drewN ?_ _ | (with_reducible refine bel_by (by with_reducible assumption) (by first | exact Nat.le_refl _ | omega | (simp; done) | (simp; omega)) ?_)))⟩

set_option maxHeartbeats 400000 in
theorem eg_parse1 (w : World) : Calls Tryd.prog 38 #[.string ⟨#[48, 46, 49, 50, 53]⟩] w fun e w' => e = .returned (fracE (1, 8, 0)) ∧ Below w.heap.size w w' := by
  go_enter Tryd.func38, Tryd.ntmps38
  go_wp2_with fail
  refine (eg_cut1 _).mono ?_
  rintro e w1 ⟨rfl, rfl⟩
  go_wp2_with fail
  refine (eg_run1 _).mono ?_
  rintro e w1 ⟨rfl, n1, rfl⟩
  go_wp2_with fail
  refine (eg_run2 _).mono ?_
  rintro e w1 ⟨rfl, n2, rfl⟩
  go_wp2_with fail
  refine (eg_pdec _).mono ?_
  rintro e w2 ⟨rfl, hb2⟩
  obtain ⟨hc2, hf2⟩ := bcell hb2
  have hz2 := bsize hb2
  simp at hz2
  go_wp2
  refine bodyPost_ret (v := fracE (1, 8, 0)) (by simp [results, Tryd.results38, go_sem, hc2, hf2]) rfl ⟨rfl, (by repeat (first | with_reducible exact Below.refl _ _ | (with_reducible refine Below.setCell ?_ (by first | exact Nat.le_refl _ | omega | (simp; done) | (simp; omega)) _) | (with_reducible refine Below.alloc ?_ (by first | exact Nat.le_refl _ | omega | (simp; done) | (simp; omega)) _) | with_reducible refine Below.drew ?_ | with_reducible refine bel_drewN ?_ _ | (with_reducible refine bel_by (by with_reducible assumption) (by first | exact Nat.le_refl _ | omega | (simp; done) | (simp; omega)) ?_)))⟩

set_option maxHeartbeats 400000 in
theorem eg_parse2 (w : World) : Calls Tryd.prog 38 #[.string ⟨#[49, 46]⟩] w fun e w' => e = .returned (fracE (0, 0, 2)) ∧ Below w.heap.size w w' := by
  go_enter Tryd.func38, Tryd.ntmps38
  go_wp2_with fail
  refine (eg_cut2 _).mono ?_
  rintro e w1 ⟨rfl, rfl⟩
  go_wp2_with fail
  refine (eg_run3 _).mono ?_
  rintro e w1 ⟨rfl, n1, rfl⟩
  go_wp2_with fail
  refine (eg_run4 _).mono ?_
  rintro e w1 ⟨rfl, n2, rfl⟩
  go_wp2
  refine bodyPost_ret (v := fracE (0, 0, 2)) (by simp [results, Tryd.results38, go_sem]) rfl ⟨rfl, (by repeat (first | with_reducible exact Below.refl _ _ | (with_reducible refine Below.setCell ?_ (by first | exact Nat.le_refl _ | omega | (simp; done) | (simp; omega)) _) | (with_reducible refine Below.alloc ?_ (by first | exact Nat.le_refl _ | omega | (simp; done) | (simp; omega)) _) | with_reducible refine Below.drew ?_ | with_reducible refine bel_drewN ?_ _ | (with_reducible refine bel_by (by with_reducible assumption) (by first | exact Nat.le_refl _ | omega | (simp; done) | (simp; omega)) ?_)))⟩
end Go.Proofs.YtfdalnkdeeminaaDoor
