/- The size of a graph. -/
import Derived.Test.YtpcdbnlljdfogaaSam
set_option linter.unusedSimpArgs false
set_option linter.unusedVariables false
namespace Go.Proofs.Ytpcdbnlljdfogaa
open Go.RowKit

/-- the sum of two lengths may be out of an int's range -/
def smallB (g : Gph) (v e : Nat) : Bool := decide (wrap64 ((g.L.length : Int) + (g.R.length : Int)) ≤ (v : Int)) && decide ((g.E.length : Int) ≤ (e : Int))
set_option maxHeartbeats 1000000 in
set_option maxRecDepth 100000 in
theorem small_any (g : Gph) (w : World) (v e : Nat) : Calls Try.prog 12 #[g.val, .int .i64 (v : Int), .int .i64 (e : Int)] w fun r w' => r = .returned (.bool (smallB g v e)) ∧ Below w.heap.size w w' := by
  have HB := Lib.hid ((Below.refl w.heap.size w).alloc (Nat.le_refl _) (gBox g))
  have HGB := Lib.hid (gb_new w g 25)
  have HE := Lib.hid (show smallB g v e = (decide (wrap64 ((g.L.length : Int) + (g.R.length : Int)) ≤ (v : Int)) && decide ((g.E.length : Int) ≤ (e : Int))) from rfl)
  unfold Gph.val
  generalize smallB g v e = r at *
  obtain ⟨g0, g1, g2, gl⟩ := HGB.out
  by_cases h : wrap64 ((g.L.length : Int) + (g.R.length : Int)) ≤ (v : Int)
  · have k1 : decide (wrap64 ((g.L.length : Int) + (g.R.length : Int)) ≤ (v : Int)) = true := decide_eq_true h
    have HF := Lib.hid (show decide ((g.E.length : Int) ≤ (e : Int)) = r by rw [HE.out, k1]; rfl)
    clear HE
    go_enter Try.func12, Try.ntmps12
    go_wp2_with fail
    go_ret
    exact ⟨ret_bool (by first | exact HF.out | (rw [← HF.out]; rfl) | (rw [← HF.out]; simp)), HB.out⟩
  · have k1 : decide (wrap64 ((g.L.length : Int) + (g.R.length : Int)) ≤ (v : Int)) = false := decide_eq_false h
    have HF := Lib.hid (show r = false by rw [HE.out, k1]; rfl)
    clear HE
    go_enter Try.func12, Try.ntmps12
    go_wp2_with fail
    go_ret
    exact ⟨ret_bool HF.out.symm, HB.out⟩
end Go.Proofs.Ytpcdbnlljdfogaa
