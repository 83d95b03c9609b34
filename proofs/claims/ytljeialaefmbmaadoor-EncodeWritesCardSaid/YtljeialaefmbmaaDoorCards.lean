/-
  DERIVED. GIVEN WITH THE SEED: THE CARDS: each row of YtljeialaefmbmaaDoorRows.lean that lists a variable, with what it lists TIED to the program's text (the seventh form; the later family's looks); each row that meets fmt, with fmt's text TOLD by the authors' own Lean function (tested against real Go, not proved from fmt's source: count such statements apart). THE CARD IS WHAT COUNTS. Prove the row's statement (the work); the ties are given (YtljeialaefmbmaaDoorTie.lean); close each card by the builder's one call (the guide's Derived/Test/ToyasCard.lean, 'card_holds'). Laid BY PROGRAM, IN A SANDBOX (cutbox-door.mjs). By AI agents, Wed Nov 11 2026. No macro, syntax, notation, axiom, sorry.
-/
import Derived.Test.YtljeialaefmbmaaDoorRows
import GoSem.ClaimSeven
namespace Go.Proofs.YtljeialaefmbmaaDoor
namespace Rows

/-- THE TIED CARD OF 'salchowlaw02.EncodeWrites'. -/
def encodeWritesCard : Claim7 := { stood := { row := encodeWritesRow, standIns := [], harness := (true, "6f321bce12e809faafc8da0e6b533d5018416f941043bd324dd753df2cec801a"), looks := false }, kinds := [], alts := [], laidByText := true, laidKinds := [.data, .data, .data], laidTests := true, laidLooks := .later }
def EncodeWritesCardSaid : Prop := Claim7.holds Tryd.pinned (.plain (OpenSpec.ofChange encodeWritesSpec)) encodeWritesCard

/-- THE SECOND FORM's CARD OF 'salchowlaw02.EncodeWrites'. -/
def encodeWritesUptoCard : Claim7 := { stood := { row := encodeWritesUptoRow, standIns := [], harness := (true, "6f321bce12e809faafc8da0e6b533d5018416f941043bd324dd753df2cec801a"), looks := false }, kinds := [], alts := [], laidByText := true, laidKinds := [.data, .data, .data], laidTests := true, laidLooks := .later }
def EncodeWritesUptoCardSaid : Prop := Claim7.holds Tryd.pinned (.plain (OpenSpec.upto encodeWritesSpec)) encodeWritesUptoCard
end Rows
end Go.Proofs.YtljeialaefmbmaaDoor
