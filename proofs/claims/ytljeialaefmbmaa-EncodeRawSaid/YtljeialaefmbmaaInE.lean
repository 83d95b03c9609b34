/- Contracts of the reference's reader: More. -/
import Derived.Test.YtljeialaefmbmaaInB
set_option linter.unusedSimpArgs false
set_option linter.unusedVariables false
namespace Go.Proofs.Ytljeialaefmbmaa
open Go.RowKit


set_option maxHeartbeats 3000000 in
set_option maxRecDepth 100000 in
theorem inMore_any (b : Nat) (r : RSt) (w : World) (hI : InAt w b r) (ok : ROk r) (he : r.err = 0 ∨ r.err = 2) :
    Calls Try.prog 29 #[.pointer (some ⟨b, 0, none⟩)] w fun e w' => e = .returned (.bool (moreR r)) ∧ ∃ n, w' = w.drewN n := by
  obtain ⟨s, a, o, er⟩ := r
  obtain ⟨c0, c1, c2, c3, ff, lt⟩ := hI
  obtain ⟨h1, h2, h3⟩ := ok
  simp only at *
  rcases he with rfl | rfl
  · replace c3 : w.cell? ⟨b, 3, none⟩ = some (.bool false) := c3
    by_cases hlt : a < s.size
    · have x1 : (a : Int) < (s.size : Int) := by omega
      by_cases ho : o = 0
      · subst ho
        have HM := Lib.hid (show moreR ⟨s, a, 0, 0⟩ = true by unfold moreR; simp [hlt])
        go_enter Try.func29, Try.ntmps29
        go_wp2_with fail
        go_quiet (fail)
        go_wp2
        go_ret
        exact ⟨by rw [HM.out]; rfl, _, rfl⟩
      · have y0 : ((o : Int) == 0) = false := by simp; omega
        have e8 := at8_eq hlt
        by_cases hc : at8 s a = 101
        · have HM := Lib.hid (show moreR ⟨s, a, o, 0⟩ = false by unfold moreR; simp [hlt, ho, hc])
          have y1 : ((((s[a]'hlt).toNat : Int)) != 101) = false := by rw [← e8, hc]; rfl
          clear e8 hc ho
          go_enter Try.func29, Try.ntmps29
          go_wp2_with fail
          go_quiet (fail)
          go_wp2
          go_ret
          exact ⟨by rw [HM.out]; rfl, _, rfl⟩
        · have HM := Lib.hid (show moreR ⟨s, a, o, 0⟩ = true by unfold moreR; simp [hlt, ho, hc])
          have y1 : ((((s[a]'hlt).toNat : Int)) != 101) = true := by rw [← e8]; simp [bne]; omega
          clear e8 hc ho
          go_enter Try.func29, Try.ntmps29
          go_wp2_with fail
          go_quiet (fail)
          go_wp2
          go_ret
          exact ⟨by rw [HM.out]; rfl, _, rfl⟩
    · have x0 : ¬ (a : Int) < (s.size : Int) := by omega
      have x0b : decide (a < s.size) = false := decide_eq_false (by omega)
      have HM := Lib.hid (show moreR ⟨s, a, o, 0⟩ = false by unfold moreR; simp [hlt])
      clear hlt
      go_enter Try.func29, Try.ntmps29
      go_wp2_with fail
      go_quiet (fail)
      go_wp2
      go_ret
      exact ⟨by rw [HM.out]; rfl, _, rfl⟩
  · replace c3 : w.cell? ⟨b, 3, none⟩ = some (.bool true) := c3
    have HM := Lib.hid (show moreR ⟨s, a, o, 2⟩ = false by unfold moreR; simp)
    go_enter Try.func29, Try.ntmps29
    go_wp2_with fail
    go_quiet (fail)
    go_wp2
    go_ret
    exact ⟨by rw [HM.out]; rfl, _, rfl⟩
end Go.Proofs.Ytljeialaefmbmaa
