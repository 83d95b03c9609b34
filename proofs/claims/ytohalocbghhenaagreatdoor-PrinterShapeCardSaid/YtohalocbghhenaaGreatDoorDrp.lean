/- Plain facts: what is left of entries. -/
import Derived.Test.YtohalocbghhenaaGreatDoorSmc
import Derived.Test.YtohalocbghhenaaGreatDoorPrl
set_option linter.unusedSimpArgs false
set_option linter.unusedVariables false
namespace Go.Proofs.YtohalocbghhenaaGreatDoor
open Go.RowKit

theorem drop_next : ∀ (c : Cls) (i : Nat) {wd : ByteArray} {xs : List Tk} {bl : Bool} {k : Cls} {a : Int} {r : Cls}, c.drop i = .cons wd xs bl k a r → c.drop (i + 1) = r
  | .nil, 0, _, _, _, _, _, _, h => by simp [Cls.drop] at h
  | .nil, _ + 1, _, _, _, _, _, _, h => by simp [Cls.drop] at h
  | .cons _ _ _ _ _ r, 0, _, _, _, _, _, _, h => by
    simp only [Cls.drop, Cls.cons.injEq] at h
    obtain ⟨_, _, _, _, _, rfl⟩ := h
    cases r <;> rfl
  | .cons _ _ _ _ _ r, i + 1, _, _, _, _, _, _, h => drop_next r i h
theorem drop_all : ∀ (c : Cls), c.drop c.len = .nil
  | .nil => rfl
  | .cons _ _ _ _ _ r => drop_all r
end Go.Proofs.YtohalocbghhenaaGreatDoor
