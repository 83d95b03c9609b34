/- What the rows of layer 10 share. -/
import Derived.Test.YtepigooldelgnaaDoorPost
import Derived.Test.YtepigooldelgnaaDoorLaid
import Derived.Test.YtepigooldelgnaaDoorCards
import Derived.Test.YtepigooldelgnaaDoorTie
import Derived.ChangeMaps5
import Derived.OpenShut
import Derived.SevenTiedAt
import Derived.Lib.SmallJoins
import Derived.Deep.SlicePairs
import Derived.Carry
set_option linter.unusedSimpArgs false
set_option linter.unusedVariables false
namespace Go.Proofs.YtepigooldelgnaaDoor
open Go.ChangeShapes Go.WideShapes Go.ChangeAt Go.RowKit Go.Joins

theorem bd64 {a : Int} (h : (Lit.int .i64 a).wf = true) : -9223372036854775808 ≤ a ∧ a ≤ 9223372036854775807 := bounds_i64 h
end Go.Proofs.YtepigooldelgnaaDoor
