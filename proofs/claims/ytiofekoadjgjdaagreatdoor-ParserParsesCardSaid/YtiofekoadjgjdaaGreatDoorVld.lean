/- Contract of layer 9: Valid (it stands with Spell here). -/
import Derived.Test.YtiofekoadjgjdaaGreatDoorSpl
set_option linter.unusedSimpArgs false
set_option linter.unusedVariables false
namespace Go.Proofs.YtiofekoadjgjdaaGreatDoor
end Go.Proofs.YtiofekoadjgjdaaGreatDoor
