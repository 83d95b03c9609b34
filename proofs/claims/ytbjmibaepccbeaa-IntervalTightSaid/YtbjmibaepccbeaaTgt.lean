/- Intervals: both ends of a result among four results. -/
import Derived.Test.YtbjmibaepccbeaaBoxes
set_option linter.unusedSimpArgs false
set_option linter.unusedVariables false
namespace Go.Proofs.Ytbjmibaepccbeaa
open Go.RowKit
open Iv

/-- a result without error that is this number -/
def hit (r : R) (z : F) : Bool := decide (r.2 = 0) && ((r.1.1 == z.1) && (r.1.2 == z.2))
theorem hit_yes {r : R} {z : F} (h : r.2 = 0) (e : r.1 = z) : hit r z = true := by
  subst e
  unfold hit
  simp [h]
/-- what has been met of four -/
def accI (p q r t : Bool) (i : Int) : Bool := if i = 0 then false else if i = 1 then p else if i = 2 then (p || q) else if i = 3 then (p || q || r) else (p || q || r || t)
theorem four_hit {op : Nat} {a b : V} {z : F} (h : ∃ p ∈ ends op a b, (opR op p.1 p.2).2 = 0 ∧ (opR op p.1 p.2).1 = z) :
    accI (hit (opR op a.1 b.1) z) (hit (opR op a.2 b.1) z) (hit (opR op a.1 b.2) z) (hit (opR op a.2 b.2) z) 4 = true := by
  obtain ⟨⟨p, r⟩, hp, h0, e⟩ := h
  obtain ⟨h1, h2⟩ := ends_mem hp
  simp only at h1 h2 h0 e
  have k := hit_yes h0 e
  rcases h1 with rfl | rfl <;> rcases h2 with rfl | rfl <;> simp [accI, k]
theorem tight_both {op : Nat} (h5 : op < 5) {a b : V} (h : (doV op a b).2 = 0) :
    accI (hit (opR op a.1 b.1) (doV op a b).1.1) (hit (opR op a.2 b.1) (doV op a b).1.1) (hit (opR op a.1 b.2) (doV op a b).1.1) (hit (opR op a.2 b.2) (doV op a b).1.1) 4 = true ∧
    accI (hit (opR op a.1 b.1) (doV op a b).1.2) (hit (opR op a.2 b.1) (doV op a b).1.2) (hit (opR op a.1 b.2) (doV op a b).1.2) (hit (opR op a.2 b.2) (doV op a b).1.2) 4 = true :=
  ⟨four_hit (do_tight h5 h).1, four_hit (do_tight h5 h).2⟩
theorem two_fr (w : World) (x1 x2 y1 y2 : Int) : FrB (((w.alloc (.cells #[.int .i64 x1, .int .i64 x2] 23)).alloc (.cells #[.int .i64 y1, .int .i64 y2] 23)).drew) w.heap.size (x1, x2) ∧ FrB (((w.alloc (.cells #[.int .i64 x1, .int .i64 x2] 23)).alloc (.cells #[.int .i64 y1, .int .i64 y2] 23)).drew) (w.heap.size + 1) (y1, y2) ∧ Below w.heap.size w (((w.alloc (.cells #[.int .i64 x1, .int .i64 x2] 23)).alloc (.cells #[.int .i64 y1, .int .i64 y2] 23)).drew) :=
  ⟨⟨by simp [go_sem], by simp [go_sem], by simp; try omega, fun o => by simp [go_sem]⟩, ⟨by simp [go_sem], by simp [go_sem], by simp; try omega, fun o => by simp [go_sem]⟩, (by repeat (first | with_reducible exact Below.refl _ _ | (with_reducible refine Below.setCell ?_ (by first | exact Nat.le_refl _ | omega | (simp; done) | (simp; omega)) _) | (with_reducible refine Below.alloc ?_ (by first | exact Nat.le_refl _ | omega | (simp; done) | (simp; omega)) _) | with_reducible refine Below.drew ?_ | with_reducible refine bel_drewN ?_ _ | (with_reducible refine bel_by (by with_reducible assumption) (by first | exact Nat.le_refl _ | omega | (simp; done) | (simp; omega)) ?_)))⟩
end Go.Proofs.Ytbjmibaepccbeaa
