/- Contracts of the reference's reader: End. -/
import Derived.Test.YtljeialaefmbmaaInB
set_option linter.unusedSimpArgs false
set_option linter.unusedVariables false
namespace Go.Proofs.Ytljeialaefmbmaa
open Go.RowKit


def endB (r : RSt) : Bool := decide (endR r = 0)
set_option maxHeartbeats 3000000 in
set_option maxRecDepth 100000 in
theorem inEnd_any (b : Nat) (r : RSt) (w : World) (hI : InAt w b r) (ok : ROk r) (he : r.err = 0 ∨ r.err = 2) :
    Calls Try.prog 30 #[.pointer (some ⟨b, 0, none⟩)] w fun e w' => e = .returned (.bool (endB r)) ∧ ∃ n, w' = w.drewN n := by
  obtain ⟨s, a, o, er⟩ := r
  obtain ⟨c0, c1, c2, c3, ff, lt⟩ := hI
  obtain ⟨h1, h2, h3⟩ := ok
  simp only at *
  rcases he with rfl | rfl
  · replace c3 : w.cell? ⟨b, 3, none⟩ = some (.bool false) := c3
    by_cases hat : a = s.size
    · subst hat
      by_cases ho : o = 0
      · subst ho
        have HM := Lib.hid (show endB ⟨s, s.size, 0, 0⟩ = true by unfold endB endR; simp)
        go_enter Try.func30, Try.ntmps30
        go_wp2_with fail
        go_quiet (fail)
        go_wp2
        go_ret
        exact ⟨by rw [HM.out]; rfl, _, rfl⟩
      · have y0 : ((o : Int) == 0) = false := by simp; omega
        have HM := Lib.hid (show endB ⟨s, s.size, o, 0⟩ = false by unfold endB endR; simp [ho])
        clear ho
        go_enter Try.func30, Try.ntmps30
        go_wp2_with fail
        go_quiet (fail)
        go_wp2
        go_ret
        exact ⟨by rw [HM.out]; rfl, _, rfl⟩
    · have y0 : ((a : Int) == (s.size : Int)) = false := by simp; omega
      have y0b : (a == s.size) = false := by simp; omega
      have HM := Lib.hid (show endB ⟨s, a, o, 0⟩ = false by unfold endB endR; simp [hat])
      clear hat
      go_enter Try.func30, Try.ntmps30
      go_wp2_with fail
      go_quiet (fail)
      go_wp2
      go_ret
      exact ⟨by rw [HM.out]; rfl, _, rfl⟩
  · replace c3 : w.cell? ⟨b, 3, none⟩ = some (.bool true) := c3
    have HM := Lib.hid (show endB ⟨s, a, o, 2⟩ = false by unfold endB endR; simp)
    go_enter Try.func30, Try.ntmps30
    go_wp2_with fail
    go_quiet (fail)
    go_wp2
    go_ret
    exact ⟨by rw [HM.out]; rfl, _, rfl⟩
end Go.Proofs.Ytljeialaefmbmaa
