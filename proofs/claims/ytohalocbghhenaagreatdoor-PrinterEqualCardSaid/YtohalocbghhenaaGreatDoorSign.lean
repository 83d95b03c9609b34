/- Contracts of layer 10: isSign, isAtom. -/
import Derived.Test.YtohalocbghhenaaGreatDoorVal
import Derived.Test.YtohalocbghhenaaGreatDoorParP
set_option linter.unusedSimpArgs false
set_option linter.unusedVariables false
namespace Go.Proofs.YtohalocbghhenaaGreatDoor
open Go.RowKit

theorem str_beq (s x : ByteArray) : (s.toList == x.toList) = decide (s = x) := by
  rw [empty_list, empty_list]
  by_cases h : s = x
  · subst h; simp
  · have : s.data.toList ≠ x.data.toList := fun e => h (bs_inj e)
    rw [beq_eq_false_iff_ne.2 this, decide_eq_false h]
def sgnS (t : Tk) (x : ByteArray) : Bool := t.k == 4 && decide (t.t = x)
theorem sgnS_bs (t : Tk) (c : UInt8) : sgnS t (bs [c]) = sgn t c := rfl
set_option maxHeartbeats 2000000 in
set_option maxRecDepth 100000 in
theorem isSign_any (t : Tk) (x : ByteArray) (w : World) : Calls Tryz.prog 72 #[t.val, .string x] w fun e w' => e = .returned (.bool (sgnS t x)) ∧ Below w.heap.size w w' := by
  unfold sgnS
  obtain ⟨k, s, n, a⟩ := t
  simp only [Tk.val]
  by_cases h : k = 4
  · subst h
    go_enter Tryz.func72, Tryz.ntmps72
    go_wp2_with fail
    obtain ⟨c0, c1, c2, c3, cf, cl⟩ := tk_new w ⟨4, s, n, a⟩ 51
    go_wp2_with fail
    go_ret
    exact ⟨ret_bool (str_beq _ _), (by repeat (first | with_reducible exact Below.refl _ _ | (with_reducible refine Below.setCell ?_ (by first | exact Nat.le_refl _ | omega | (simp; done) | (simp; omega)) _) | (with_reducible refine Below.alloc ?_ (by first | exact Nat.le_refl _ | omega | (simp; done) | (simp; omega)) _) | with_reducible refine Below.drew ?_ | with_reducible refine bel_drewN ?_ _ | (with_reducible refine bel_by (by with_reducible assumption) (by first | exact Nat.le_refl _ | omega | (simp; done) | (simp; omega)) ?_)))⟩
  · have hk : (k == 4) = false := by simpa using h
    go_enter Tryz.func72, Tryz.ntmps72
    go_wp2_with fail
    obtain ⟨c0, c1, c2, c3, cf, cl⟩ := tk_new w ⟨k, s, n, a⟩ 51
    go_wp2_with fail
    go_ret
    exact ⟨rfl, (by repeat (first | with_reducible exact Below.refl _ _ | (with_reducible refine Below.setCell ?_ (by first | exact Nat.le_refl _ | omega | (simp; done) | (simp; omega)) _) | (with_reducible refine Below.alloc ?_ (by first | exact Nat.le_refl _ | omega | (simp; done) | (simp; omega)) _) | with_reducible refine Below.drew ?_ | with_reducible refine bel_drewN ?_ _ | (with_reducible refine bel_by (by with_reducible assumption) (by first | exact Nat.le_refl _ | omega | (simp; done) | (simp; omega)) ?_)))⟩
end Go.Proofs.YtohalocbghhenaaGreatDoor
