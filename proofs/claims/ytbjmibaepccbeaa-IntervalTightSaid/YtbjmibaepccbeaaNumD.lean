/- Contracts of package fraction, fourth part: Milli, Neg, Mul, Div. -/
import Derived.Test.YtbjmibaepccbeaaNumC
set_option linter.unusedSimpArgs false
set_option linter.unusedVariables false
namespace Go.Proofs.Ytbjmibaepccbeaa
open Go.RowKit

/-- fraction.Milli -/
def milliS (n : Int) : Int × Int := if -1000000000000000000 ≤ n ∧ n ≤ 1000000000000000000 then ((makeS n 1000).1, (makeS n 1000).2.1) else (0, 0)
/-- fraction.Neg -/
def negS (n d : Int) : Int × Int := if vldI n d = true then (-n, d) else (0, 0)
theorem neg_any (n d : Int) (h1 : -9223372036854775808 ≤ n) (h1' : n ≤ 9223372036854775807) (h2 : -9223372036854775808 ≤ d) (h2' : d ≤ 9223372036854775807) (w : World) :
    Calls Try.prog 50 #[.agg #[.int .i64 n, .int .i64 d]] w fun e w' => e = .returned (.agg #[.int .i64 (negS n d).1, .int .i64 (negS n d).2]) ∧ Below w.heap.size w w' := by
  have V := fun W => valid_any n d h1 h1' h2 h2' W
  unfold negS
  by_cases hv : vldI n d = true
  · rw [hv] at V ⊢
    obtain ⟨v1, v2, v3, v4, _⟩ := vldI_out hv
    rw [if_pos rfl]
    clear hv
    have HV := Lib.hid V
    clear V
    go_enter Try.func50, Try.ntmps50
    go_wp2_with fail
    refine (HV.out _).mono ?_
    rintro e w1 ⟨rfl, hb1⟩
    obtain ⟨hc1, hf1⟩ := bcell hb1
    have hz1 := bsize hb1
    simp at hz1
    go_wp2
    refine bodyPost_ret (v := .agg #[.int .i64 (-n), .int .i64 d]) (by simp [results, Try.results50, go_sem, hc1, hf1, hz1]) rfl ⟨rfl, (by repeat (first | with_reducible exact Below.refl _ _ | (with_reducible refine Below.setCell ?_ (by first | exact Nat.le_refl _ | omega | (simp; done) | (simp; omega)) _) | (with_reducible refine Below.alloc ?_ (by first | exact Nat.le_refl _ | omega | (simp; done) | (simp; omega)) _) | with_reducible refine Below.drew ?_ | with_reducible refine bel_drewN ?_ _ | (with_reducible refine bel_by (by with_reducible assumption) (by first | exact Nat.le_refl _ | omega | (simp; done) | (simp; omega)) ?_)))⟩
  · rw [Bool.not_eq_true] at hv
    rw [hv] at V ⊢
    rw [if_neg (by simp)]
    clear hv
    have HV := Lib.hid V
    clear V
    go_enter Try.func50, Try.ntmps50
    go_wp2_with fail
    refine (HV.out _).mono ?_
    rintro e w1 ⟨rfl, hb1⟩
    obtain ⟨hc1, hf1⟩ := bcell hb1
    have hz1 := bsize hb1
    simp at hz1
    go_wp2
    refine bodyPost_ret (v := .agg #[.int .i64 0, .int .i64 0]) (by simp [results, Try.results50, go_sem, hc1, hf1, hz1]) rfl ⟨rfl, (by repeat (first | with_reducible exact Below.refl _ _ | (with_reducible refine Below.setCell ?_ (by first | exact Nat.le_refl _ | omega | (simp; done) | (simp; omega)) _) | (with_reducible refine Below.alloc ?_ (by first | exact Nat.le_refl _ | omega | (simp; done) | (simp; omega)) _) | with_reducible refine Below.drew ?_ | with_reducible refine bel_drewN ?_ _ | (with_reducible refine bel_by (by with_reducible assumption) (by first | exact Nat.le_refl _ | omega | (simp; done) | (simp; omega)) ?_)))⟩
end Go.Proofs.Ytbjmibaepccbeaa
