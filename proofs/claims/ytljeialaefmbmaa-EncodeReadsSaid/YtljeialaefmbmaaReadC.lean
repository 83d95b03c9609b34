/- Contracts of package encode: Fail and End of a Reader. -/
import Derived.Test.YtljeialaefmbmaaReadB
set_option linter.unusedSimpArgs false
set_option linter.unusedVariables false
namespace Go.Proofs.Ytljeialaefmbmaa
open Go.RowKit

set_option maxRecDepth 100000 in
theorem rdFail_any (b : Nat) (r : RSt) (w : World) (hR : RAt w b r) :
    Calls Try.prog 28 #[.pointer (some ⟨b, 0, none⟩)] w fun e w' => e = .returned (.tuple #[]) ∧ RAt w' b (if r.err = 0 then { r with err := 2 } else r) ∧ But b w w' := by
  have HR := Lib.hid hR
  obtain ⟨s, a, o, er⟩ := r
  obtain ⟨c0, c1, c2, c3, ff, lt⟩ := hR
  simp only at *
  by_cases he : er = 0
  · rw [if_pos he]
    subst he
    go_enter Try.func28, Try.ntmps28
    go_wp2
    simp [bodyPost, results, Try.results28]
    refine ⟨⟨?_, ?_, ?_, ?_, fun o => ?_, ?_⟩, But.set (But.of (Below.refl _ _)) _ _⟩
    · simp (maxDischargeDepth := 6) [go_sem, c0, c1, c2, c3, ff, lt]
    · simp (maxDischargeDepth := 6) [go_sem, c0, c1, c2, c3, ff, lt]
    · simp (maxDischargeDepth := 6) [go_sem, c0, c1, c2, c3, ff, lt]
    · simp (maxDischargeDepth := 6) [go_sem, c0, c1, c2, c3, ff, lt]
    · simp (maxDischargeDepth := 6) [go_sem, c0, c1, c2, c3, ff, lt]
    · simp (maxDischargeDepth := 6) [go_sem, c0, c1, c2, c3, ff, lt]
  · rw [if_neg he]
    have y0 : (er == 0) = false := by simpa using he
    clear he
    go_enter Try.func28, Try.ntmps28
    go_wp2
    simp [bodyPost, results, Try.results28]
    exact ⟨HR.out, But.of (Below.refl _ _)⟩

/-- End -/
def endR (r : RSt) : Int := if r.err = 0 then (if r.at' = r.s.size ∧ r.opn = 0 then 0 else 2) else r.err
set_option maxHeartbeats 1000000 in
set_option maxRecDepth 100000 in
theorem rdEnd_any (b : Nat) (r : RSt) (w : World) (hR : RAt w b r) (ok : ROk r) :
    Calls Try.prog 22 #[.pointer (some ⟨b, 0, none⟩)] w fun e w' => e = .returned (.int .i64 (endR r)) ∧ ∃ n, w' = w.drewN n := by
  obtain ⟨s, a, o, er⟩ := r
  obtain ⟨c0, c1, c2, c3, ff, lt⟩ := hR
  obtain ⟨h1, h2, h3⟩ := ok
  unfold endR
  simp only at *
  by_cases he : er = 0
  · subst he
    rw [if_pos rfl]
    by_cases hat : a = s.size
    · subst hat
      by_cases ho : o = 0
      · subst ho
        rw [if_pos ⟨rfl, rfl⟩]
        go_enter Try.func22, Try.ntmps22
        go_wp2_with fail
        go_quiet (fail)
        go_wp2
        go_ret
        exact ⟨rfl, _, rfl⟩
      · rw [if_neg (fun h => ho h.2)]
        have y0 : (0 : Int) < (o : Int) := by omega
        clear ho
        go_enter Try.func22, Try.ntmps22
        go_wp2_with fail
        go_quiet (fail)
        go_wp2
        go_ret
        exact ⟨rfl, _, rfl⟩
    · rw [if_neg (fun h => hat h.1)]
      have y0 : ((a : Int) != (s.size : Int)) = true := by simp; omega
      clear hat
      go_enter Try.func22, Try.ntmps22
      go_wp2_with fail
      go_quiet (fail)
      go_wp2
      go_ret
      exact ⟨rfl, _, rfl⟩
  · rw [if_neg he]
    have y0 : (er != 0) = true := by simpa using he
    clear he
    go_enter Try.func22, Try.ntmps22
    go_wp2
    go_ret
    exact ⟨rfl, 0, by simp [World.drewN_zero]⟩
end Go.Proofs.Ytljeialaefmbmaa
