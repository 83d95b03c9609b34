/- What the rows of layer 9 share. -/
import Derived.Test.YtmokeegebbmdhaaGreatDoorPost
import Derived.Test.YtmokeegebbmdhaaGreatDoorLaid
import Derived.Test.YtmokeegebbmdhaaGreatDoorCards
import Derived.Test.YtmokeegebbmdhaaGreatDoorTie
import Derived.ChangeMaps5
import Derived.OpenShut
import Derived.SevenTiedAt
import Derived.Lib.SmallJoins
import Derived.Deep.SlicePairs
import Derived.Carry
set_option linter.unusedSimpArgs false
set_option linter.unusedVariables false
namespace Go.Proofs.YtmokeegebbmdhaaGreatDoor
open Go.ChangeShapes Go.WideShapes Go.ChangeAt Go.RowKit Go.Joins

theorem bd64 {a : Int} (h : (Lit.int .i64 a).wf = true) : -9223372036854775808 ≤ a ∧ a ≤ 9223372036854775807 := bounds_i64 h
end Go.Proofs.YtmokeegebbmdhaaGreatDoor
