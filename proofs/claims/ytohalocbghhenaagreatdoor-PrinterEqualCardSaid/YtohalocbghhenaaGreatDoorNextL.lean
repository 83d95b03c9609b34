/- what Next gives. -/
import Derived.Test.YtohalocbghhenaaGreatDoorFirst
set_option linter.unusedSimpArgs false
set_option linter.unusedVariables false
namespace Go.Proofs.YtohalocbghhenaaGreatDoor
open Go.RowKit

def nextV (x : Tk × Nat × Int × Int) : Value := firstV x
/-- what Next gives -/
def nextL (s : ByteArray) (a : Int) : Tk × Nat × Int × Int :=
  if 65536 < s.size then (noTk, 0, 6, 65536) else if a < 0 ∨ (s.size : Int) < a then (noTk, 0, 1, 0) else firstL (s.data.toList.drop a.toNat) a.toNat
end Go.Proofs.YtohalocbghhenaaGreatDoor
