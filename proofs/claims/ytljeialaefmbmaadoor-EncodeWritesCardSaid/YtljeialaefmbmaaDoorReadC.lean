/- Contracts of package encode: End of a Reader. -/
import Derived.Test.YtljeialaefmbmaaDoorReadB
set_option linter.unusedSimpArgs false
set_option linter.unusedVariables false
namespace Go.Proofs.YtljeialaefmbmaaDoor
open Go.RowKit

/-- End -/
def endR (r : RSt) : Int := if r.err = 0 then (if r.at' = r.s.size ∧ r.opn = 0 then 0 else 2) else r.err
set_option maxHeartbeats 1000000 in
set_option maxRecDepth 100000 in
theorem rdEnd_any (b : Nat) (r : RSt) (w : World) (hR : RAt w b r) (ok : ROk r) :
    Calls Tryd.prog 21 #[.pointer (some ⟨b, 0, none⟩)] w fun e w' => e = .returned (.int .i64 (endR r)) ∧ ∃ n, w' = w.drewN n := by
  obtain ⟨s, a, o, er⟩ := r
  obtain ⟨c0, c1, c2, c3, ff, lt⟩ := hR
  obtain ⟨h1, h2, h3⟩ := ok
  unfold endR
  simp only at *
  by_cases he : er = 0
  · subst he
    rw [if_pos rfl]
    by_cases hat : a = s.size
    · subst hat
      by_cases ho : o = 0
      · subst ho
        rw [if_pos ⟨rfl, rfl⟩]
        go_enter Tryd.func21, Tryd.ntmps21
        go_wp2_with fail
        go_quiet (fail)
        go_wp2
        go_ret
        exact ⟨rfl, _, rfl⟩
      · rw [if_neg (fun h => ho h.2)]
        have y0 : (0 : Int) < (o : Int) := by omega
        clear ho
        go_enter Tryd.func21, Tryd.ntmps21
        go_wp2_with fail
        go_quiet (fail)
        go_wp2
        go_ret
        exact ⟨rfl, _, rfl⟩
    · rw [if_neg (fun h => hat h.1)]
      have y0 : ((a : Int) != (s.size : Int)) = true := by simp; omega
      clear hat
      go_enter Tryd.func21, Tryd.ntmps21
      go_wp2_with fail
      go_quiet (fail)
      go_wp2
      go_ret
      exact ⟨rfl, _, rfl⟩
  · rw [if_neg he]
    have y0 : (er != 0) = true := by simpa using he
    clear he
    go_enter Tryd.func21, Tryd.ntmps21
    go_wp2
    go_ret
    exact ⟨rfl, 0, by simp [World.drewN_zero]⟩
end Go.Proofs.YtljeialaefmbmaaDoor
