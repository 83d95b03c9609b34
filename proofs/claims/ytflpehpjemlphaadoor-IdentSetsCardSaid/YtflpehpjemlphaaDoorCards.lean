/-
  DERIVED. GIVEN WITH THE SEED: THE CARDS: each row of YtflpehpjemlphaaDoorRows.lean that lists a variable, with what it lists TIED to the program's text (the seventh form; the later family's looks); each row that meets fmt, with fmt's text TOLD by the authors' own Lean function (tested against real Go, not proved from fmt's source: count such statements apart). THE CARD IS WHAT COUNTS. Prove the row's statement (the work); the ties are given (YtflpehpjemlphaaDoorTie.lean); close each card by the builder's one call (the guide's Derived/Test/ToyasCard.lean, 'card_holds'). Laid BY PROGRAM, IN A SANDBOX (cutbox-door.mjs). By AI agents, Wed Nov 11 2026. No macro, syntax, notation, axiom, sorry.
-/
import Derived.Test.YtflpehpjemlphaaDoorRows
import GoSem.ClaimSeven
namespace Go.Proofs.YtflpehpjemlphaaDoor
namespace Rows

/-- THE TIED CARD OF 'salchowlaw04.IdentSets'. -/
def identSetsCard : Claim7 := { stood := { row := identSetsRow, standIns := [], harness := (true, "6926d5be6a5193a74489b8e96c76505afd34af8de92093c484bcd3ea6837e794"), looks := false }, kinds := [], alts := [], laidByText := true, laidKinds := [.data, .pinned], laidTests := true, laidLooks := .later }
def IdentSetsCardSaid : Prop := Claim7.holds Tryd.pinned (.plain (OpenSpec.ofChange identSetsSpec)) identSetsCard

/-- THE SECOND FORM's CARD OF 'salchowlaw04.IdentSets'. -/
def identSetsUptoCard : Claim7 := { stood := { row := identSetsUptoRow, standIns := [], harness := (true, "6926d5be6a5193a74489b8e96c76505afd34af8de92093c484bcd3ea6837e794"), looks := false }, kinds := [], alts := [], laidByText := true, laidKinds := [.data, .pinned], laidTests := true, laidLooks := .later }
def IdentSetsUptoCardSaid : Prop := Claim7.holds Tryd.pinned (.plain (OpenSpec.upto identSetsSpec)) identSetsUptoCard
end Rows
end Go.Proofs.YtflpehpjemlphaaDoor
