/- Classes of a graph that is not valid. -/
import Derived.Test.YtpcdbnlljdfogaaGre
set_option linter.unusedSimpArgs false
set_option linter.unusedVariables false
namespace Go.Proofs.Ytpcdbnlljdfogaa
open Go.RowKit

set_option maxHeartbeats 8000000 in
set_option maxRecDepth 100000 in
theorem cls_no (g : Gph) (w : World) (hg : GpAt w g) (hc : chk g ≠ 0) :
    Calls Try.prog 21 #[g.val] w fun e w' => e = .returned (.tuple #[.slice none 0 0, .int .i64 (chk g)]) ∧ Below w.heap.size w w' := by
  have HB := Lib.hid ((Below.refl w.heap.size w).alloc (Nat.le_refl _) (gBox g))
  have HCk := Lib.hid (check_any g _ (hg.keep HB.out))
  have hz : (chk g != 0) = true := by simpa using hc
  have hs0 : w.heap.size ≤ (w.alloc (gBox g)).heap.size := HB.out.size
  clear hg hc
  unfold Gph.val at HCk ⊢
  unfold gBox at HB HCk hs0
  generalize chk g = f at *
  go_enter Try.func21, Try.ntmps21
  go_wp2_with fail
  refine HCk.out.mono ?_
  rintro e w1 ⟨rfl, hb1⟩
  have HB1 := Lib.hid (HB.out.trans (hb1.mono hs0))
  clear hb1
  go_wp2_with fail
  go_ret2
  exact ⟨rfl, HB1.out⟩
end Go.Proofs.Ytpcdbnlljdfogaa
