/- Contracts of package fraction, tenth part: Add, Sub, and rounding's small functions. -/
import Derived.Test.YtbjmibaepccbeaaNumI
set_option linter.unusedSimpArgs false
set_option linter.unusedVariables false
namespace Go.Proofs.Ytbjmibaepccbeaa
open Go.RowKit

def addS (an ad bn bd : Int) : Int × Int × Int := if (vldI an ad && vldI bn bd) = true then sumS an ad bn bd else (0, 0, 1)

set_option maxHeartbeats 1000000 in
set_option maxRecDepth 100000 in
theorem add_any (an ad bn bd : Int) (W1 : Wf64 (an, ad)) (W2 : Wf64 (bn, bd)) (w : World) :
    Calls Try.prog 68 #[.agg #[.int .i64 an, .int .i64 ad], .agg #[.int .i64 bn, .int .i64 bd]] w fun e w' => e = .returned (fracE (addS an ad bn bd)) ∧ Below w.heap.size w w' := by
  have HV := Lib.hid (fun b W h h1 h2 h3 h4 => valid2_any b an ad bn bd W h W1 W2 h1 h2 h3 h4)
  clear W1 W2
  unfold addS
  by_cases hv : (vldI an ad && vldI bn bd) = true
  · rw [if_pos hv]
    rw [hv] at HV
    simp only [Bool.and_eq_true] at hv
    have HS := Lib.hid (fun W => sum_any an ad bn bd hv.1 hv.2 W)
    clear hv
    generalize sumS an ad bn bd = t at *
    go_enter Try.func68, Try.ntmps68
    go_wp2_with fail
    refine (HV.out _ _ ?_ ?_ ?_ ?_ ?_).mono ?_
    · simp
    · simp [go_sem]
    · simp [go_sem]
    · simp [go_sem]
    · simp [go_sem]
    rintro e w1 ⟨rfl, hb1⟩
    obtain ⟨hc1, hf1⟩ := bcell hb1
    have hz1 := bsize hb1
    simp at hz1
    have k0 : w.heap.size < w1.heap.size := by omega
    have k1 : w.heap.size + 1 < w1.heap.size := by omega
    have k2 : w.heap.size + 1 + 1 < w1.heap.size := by omega
    go_wp2_with fail
    refine (HS.out _).mono ?_
    rintro e w2 ⟨rfl, hb2⟩
    obtain ⟨hc2, hf2⟩ := bcell hb2
    have hz2 := bsize hb2
    go_wp2
    refine bodyPost_ret (v := fracE t) (by simp [results, Try.results68, go_sem, hc1, hf1, hc2, hf2, k0, k1, k2]) rfl ⟨rfl, (by repeat (first | with_reducible exact Below.refl _ _ | (with_reducible refine Below.setCell ?_ (by first | exact Nat.le_refl _ | omega | (simp; done) | (simp; omega)) _) | (with_reducible refine Below.alloc ?_ (by first | exact Nat.le_refl _ | omega | (simp; done) | (simp; omega)) _) | with_reducible refine Below.drew ?_ | with_reducible refine bel_drewN ?_ _ | (with_reducible refine bel_by (by with_reducible assumption) (by first | exact Nat.le_refl _ | omega | (simp; done) | (simp; omega)) ?_)))⟩
  · rw [if_neg hv]
    rw [Bool.not_eq_true] at hv
    rw [hv] at HV
    clear hv
    go_enter Try.func68, Try.ntmps68
    go_wp2_with fail
    refine (HV.out _ _ ?_ ?_ ?_ ?_ ?_).mono ?_
    · simp
    · simp [go_sem]
    · simp [go_sem]
    · simp [go_sem]
    · simp [go_sem]
    rintro e w1 ⟨rfl, hb1⟩
    obtain ⟨hc1, hf1⟩ := bcell hb1
    have hz1 := bsize hb1
    simp at hz1
    have k0 : w.heap.size < w1.heap.size := by omega
    have k1 : w.heap.size + 1 < w1.heap.size := by omega
    have k2 : w.heap.size + 1 + 1 < w1.heap.size := by omega
    go_wp2
    refine bodyPost_ret (v := fracE (0, 0, 1)) (by simp [results, Try.results68, go_sem, hc1, hf1, k0, k1, k2]) rfl ⟨rfl, (by repeat (first | with_reducible exact Below.refl _ _ | (with_reducible refine Below.setCell ?_ (by first | exact Nat.le_refl _ | omega | (simp; done) | (simp; omega)) _) | (with_reducible refine Below.alloc ?_ (by first | exact Nat.le_refl _ | omega | (simp; done) | (simp; omega)) _) | with_reducible refine Below.drew ?_ | with_reducible refine bel_drewN ?_ _ | (with_reducible refine bel_by (by with_reducible assumption) (by first | exact Nat.le_refl _ | omega | (simp; done) | (simp; omega)) ?_)))⟩

end Go.Proofs.Ytbjmibaepccbeaa
