/-
  DERIVED. GIVEN WITH THE SEED: THE CARDS: each row of YtiofekoadjgjdaaGreatDoorRows.lean that lists a variable, with what it lists TIED to the program's text (the seventh form; the later family's looks); each row that meets fmt, with fmt's text TOLD by the authors' own Lean function (tested against real Go, not proved from fmt's source: count such statements apart). THE CARD IS WHAT COUNTS. Prove the row's statement (the work); the ties are given (YtiofekoadjgjdaaGreatDoorTie.lean); close each card by the builder's one call (the guide's Derived/Test/ToyasCard.lean, 'card_holds'). Laid BY PROGRAM, IN A SANDBOX (cutbox-door.mjs). By AI agents, Wed Nov 11 2026. No macro, syntax, notation, axiom, sorry.
-/
import Derived.Test.YtiofekoadjgjdaaGreatDoorRows
import GoSem.ClaimSeven
namespace Go.Proofs.YtiofekoadjgjdaaGreatDoor
namespace Rows

/-- THE TIED CARD OF 'salchowlaw10.ParserParses'. -/
def parserParsesCard : Claim7 := { stood := { row := parserParsesRow, standIns := [], harness := (true, "d4665f7a14a584554c4c1c1a6a3edc9032e0d2130fadcb2806f9616c0ba21d64"), looks := true }, kinds := [], alts := [], laidByText := true, laidKinds := [.data, .data, .data, .sentinel, .sentinel, .data], laidTests := true, laidLooks := .later }
def ParserParsesCardSaid : Prop := Claim7.holds Tryz.pinned (.plain (OpenSpec.ofChange parserParsesSpec)) parserParsesCard

/-- THE TIED CARD OF 'salchowlaw10.ParserSpelled'. -/
def parserSpelledCard : Claim7 := { stood := { row := parserSpelledRow, standIns := [], harness := (true, "d4665f7a14a584554c4c1c1a6a3edc9032e0d2130fadcb2806f9616c0ba21d64"), looks := true }, kinds := [], alts := [], laidByText := true, laidKinds := [.data, .data, .data, .data, .sentinel, .sentinel, .data, .pinned], laidTests := true, laidLooks := .later }
def ParserSpelledCardSaid : Prop := Claim7.holds Tryz.pinned (.plain (OpenSpec.ofChange parserSpelledSpec)) parserSpelledCard

/-- THE SECOND FORM's CARD OF 'salchowlaw10.ParserParses'. -/
def parserParsesUptoCard : Claim7 := { stood := { row := parserParsesUptoRow, standIns := [], harness := (true, "d4665f7a14a584554c4c1c1a6a3edc9032e0d2130fadcb2806f9616c0ba21d64"), looks := true }, kinds := [], alts := [], laidByText := true, laidKinds := [.data, .data, .data, .sentinel, .sentinel, .data], laidTests := true, laidLooks := .later }
def ParserParsesUptoCardSaid : Prop := Claim7.holds Tryz.pinned (.plain (OpenSpec.upto parserParsesSpec)) parserParsesUptoCard

/-- THE SECOND FORM's CARD OF 'salchowlaw10.ParserSpelled'. -/
def parserSpelledUptoCard : Claim7 := { stood := { row := parserSpelledUptoRow, standIns := [], harness := (true, "d4665f7a14a584554c4c1c1a6a3edc9032e0d2130fadcb2806f9616c0ba21d64"), looks := true }, kinds := [], alts := [], laidByText := true, laidKinds := [.data, .data, .data, .data, .sentinel, .sentinel, .data, .pinned], laidTests := true, laidLooks := .later }
def ParserSpelledUptoCardSaid : Prop := Claim7.holds Tryz.pinned (.plain (OpenSpec.upto parserSpelledSpec)) parserSpelledUptoCard
end Rows
end Go.Proofs.YtiofekoadjgjdaaGreatDoor
