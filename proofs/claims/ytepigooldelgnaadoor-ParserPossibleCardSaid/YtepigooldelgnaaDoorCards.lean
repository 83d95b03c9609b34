/-
  DERIVED. GIVEN WITH THE SEED: THE CARDS: each row of YtepigooldelgnaaDoorRows.lean that lists a variable, with what it lists TIED to the program's text (the seventh form; the later family's looks); each row that meets fmt, with fmt's text TOLD by the authors' own Lean function (tested against real Go, not proved from fmt's source: count such statements apart). THE CARD IS WHAT COUNTS. Prove the row's statement (the work); the ties are given (YtepigooldelgnaaDoorTie.lean); close each card by the builder's one call (the guide's Derived/Test/ToyasCard.lean, 'card_holds'). Laid BY PROGRAM, IN A SANDBOX (cutbox-door.mjs). By AI agents, Wed Nov 11 2026. No macro, syntax, notation, axiom, sorry.
-/
import Derived.Test.YtepigooldelgnaaDoorRows
import GoSem.ClaimSeven
namespace Go.Proofs.YtepigooldelgnaaDoor
namespace Rows

/-- THE TIED CARD OF 'salchowlaw10.ParserPossible'. -/
def parserPossibleCard : Claim7 := { stood := { row := parserPossibleRow, standIns := [], harness := (true, "4a9dc55e44c1cf0889b5dd11bf03bf3304eca3f880442c8d02988a1b402275f0"), looks := true }, kinds := [], alts := [], laidByText := true, laidKinds := [.data, .data, .data, .sentinel, .sentinel, .data], laidTests := true, laidLooks := .later }
def ParserPossibleCardSaid : Prop := Claim7.holds Tryd.pinned (.plain (OpenSpec.ofChange parserPossibleSpec)) parserPossibleCard

/-- THE TIED CARD OF 'salchowlaw10.ParserConcats'. -/
def parserConcatsCard : Claim7 := { stood := { row := parserConcatsRow, standIns := [], harness := (true, "4a9dc55e44c1cf0889b5dd11bf03bf3304eca3f880442c8d02988a1b402275f0"), looks := true }, kinds := [], alts := [], laidByText := true, laidKinds := [.data, .data, .data, .sentinel, .sentinel, .data], laidTests := true, laidLooks := .later }
def ParserConcatsCardSaid : Prop := Claim7.holds Tryd.pinned (.plain (OpenSpec.ofChange parserConcatsSpec)) parserConcatsCard

/-- THE TIED CARD OF 'salchowlaw10.ParserBegins'. -/
def parserBeginsCard : Claim7 := { stood := { row := parserBeginsRow, standIns := [], harness := (true, "4a9dc55e44c1cf0889b5dd11bf03bf3304eca3f880442c8d02988a1b402275f0"), looks := true }, kinds := [], alts := [], laidByText := true, laidKinds := [.data, .data, .data, .sentinel, .sentinel, .data], laidTests := true, laidLooks := .later }
def ParserBeginsCardSaid : Prop := Claim7.holds Tryd.pinned (.plain (OpenSpec.ofChange parserBeginsSpec)) parserBeginsCard

/-- THE TIED CARD OF 'salchowlaw10.ParserNests'. -/
def parserNestsCard : Claim7 := { stood := { row := parserNestsRow, standIns := [], harness := (true, "4a9dc55e44c1cf0889b5dd11bf03bf3304eca3f880442c8d02988a1b402275f0"), looks := true }, kinds := [], alts := [], laidByText := true, laidKinds := [.data, .data, .data, .sentinel, .sentinel, .data], laidTests := true, laidLooks := .later }
def ParserNestsCardSaid : Prop := Claim7.holds Tryd.pinned (.plain (OpenSpec.ofChange parserNestsSpec)) parserNestsCard

/-- THE SECOND FORM's CARD OF 'salchowlaw10.ParserPossible'. -/
def parserPossibleUptoCard : Claim7 := { stood := { row := parserPossibleUptoRow, standIns := [], harness := (true, "4a9dc55e44c1cf0889b5dd11bf03bf3304eca3f880442c8d02988a1b402275f0"), looks := true }, kinds := [], alts := [], laidByText := true, laidKinds := [.data, .data, .data, .sentinel, .sentinel, .data], laidTests := true, laidLooks := .later }
def ParserPossibleUptoCardSaid : Prop := Claim7.holds Tryd.pinned (.plain (OpenSpec.upto parserPossibleSpec)) parserPossibleUptoCard

/-- THE SECOND FORM's CARD OF 'salchowlaw10.ParserConcats'. -/
def parserConcatsUptoCard : Claim7 := { stood := { row := parserConcatsUptoRow, standIns := [], harness := (true, "4a9dc55e44c1cf0889b5dd11bf03bf3304eca3f880442c8d02988a1b402275f0"), looks := true }, kinds := [], alts := [], laidByText := true, laidKinds := [.data, .data, .data, .sentinel, .sentinel, .data], laidTests := true, laidLooks := .later }
def ParserConcatsUptoCardSaid : Prop := Claim7.holds Tryd.pinned (.plain (OpenSpec.upto parserConcatsSpec)) parserConcatsUptoCard

/-- THE SECOND FORM's CARD OF 'salchowlaw10.ParserBegins'. -/
def parserBeginsUptoCard : Claim7 := { stood := { row := parserBeginsUptoRow, standIns := [], harness := (true, "4a9dc55e44c1cf0889b5dd11bf03bf3304eca3f880442c8d02988a1b402275f0"), looks := true }, kinds := [], alts := [], laidByText := true, laidKinds := [.data, .data, .data, .sentinel, .sentinel, .data], laidTests := true, laidLooks := .later }
def ParserBeginsUptoCardSaid : Prop := Claim7.holds Tryd.pinned (.plain (OpenSpec.upto parserBeginsSpec)) parserBeginsUptoCard

/-- THE SECOND FORM's CARD OF 'salchowlaw10.ParserNests'. -/
def parserNestsUptoCard : Claim7 := { stood := { row := parserNestsUptoRow, standIns := [], harness := (true, "4a9dc55e44c1cf0889b5dd11bf03bf3304eca3f880442c8d02988a1b402275f0"), looks := true }, kinds := [], alts := [], laidByText := true, laidKinds := [.data, .data, .data, .sentinel, .sentinel, .data], laidTests := true, laidLooks := .later }
def ParserNestsUptoCardSaid : Prop := Claim7.holds Tryd.pinned (.plain (OpenSpec.upto parserNestsSpec)) parserNestsUptoCard
end Rows
end Go.Proofs.YtepigooldelgnaaDoor
