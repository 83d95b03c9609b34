/-
  DERIVED. GIVEN WITH THE SEED: THE CARDS: each row of YtohalocbghhenaaGreatDoorRows.lean that lists a variable, with what it lists TIED to the program's text (the seventh form; the later family's looks); each row that meets fmt, with fmt's text TOLD by the authors' own Lean function (tested against real Go, not proved from fmt's source: count such statements apart). THE CARD IS WHAT COUNTS. Prove the row's statement (the work); the ties are given (YtohalocbghhenaaGreatDoorTie.lean); close each card by the builder's one call (the guide's Derived/Test/ToyasCard.lean, 'card_holds'). Laid BY PROGRAM, IN A SANDBOX (cutbox-door.mjs). By AI agents, Wed Nov 11 2026. No macro, syntax, notation, axiom, sorry.
-/
import Derived.Test.YtohalocbghhenaaGreatDoorRows
import GoSem.ClaimSeven
namespace Go.Proofs.YtohalocbghhenaaGreatDoor
namespace Rows

/-- THE TIED CARD OF 'salchowlaw11.PrinterLine'. -/
def printerLineCard : Claim7 := { stood := { row := printerLineRow, standIns := [], harness := (true, "b9fd84081522fb3297b026d1187963efa5220e7d954ef8b3971539a48cb9c3ca"), looks := true }, kinds := [], alts := [], laidByText := true, laidKinds := [.data, .data, .data, .data, .sentinel, .sentinel, .data, .pinned], laidTests := true, laidLooks := .later }
def PrinterLineCardSaid : Prop := Claim7.holds Tryz.pinned (.plain (OpenSpec.ofChange printerLineSpec)) printerLineCard

/-- THE TIED CARD OF 'salchowlaw11.PrinterPrints'. -/
def printerPrintsCard : Claim7 := { stood := { row := printerPrintsRow, standIns := [], harness := (true, "b9fd84081522fb3297b026d1187963efa5220e7d954ef8b3971539a48cb9c3ca"), looks := true }, kinds := [], alts := [], laidByText := true, laidKinds := [.data, .data, .data, .data, .sentinel, .sentinel, .data, .pinned], laidTests := true, laidLooks := .later }
def PrinterPrintsCardSaid : Prop := Claim7.holds Tryz.pinned (.plain (OpenSpec.ofChange printerPrintsSpec)) printerPrintsCard

/-- THE TIED CARD OF 'salchowlaw11.PrinterReads'. -/
def printerReadsCard : Claim7 := { stood := { row := printerReadsRow, standIns := [], harness := (true, "b9fd84081522fb3297b026d1187963efa5220e7d954ef8b3971539a48cb9c3ca"), looks := true }, kinds := [], alts := [], laidByText := true, laidKinds := [.data, .data, .data, .data, .sentinel, .sentinel, .data, .pinned], laidTests := true, laidLooks := .later }
def PrinterReadsCardSaid : Prop := Claim7.holds Tryz.pinned (.plain (OpenSpec.ofChange printerReadsSpec)) printerReadsCard

/-- THE TIED CARD OF 'salchowlaw11.PrinterNormalizes'. -/
def printerNormalizesCard : Claim7 := { stood := { row := printerNormalizesRow, standIns := [], harness := (true, "b9fd84081522fb3297b026d1187963efa5220e7d954ef8b3971539a48cb9c3ca"), looks := true }, kinds := [], alts := [], laidByText := true, laidKinds := [.data, .data, .data, .data, .sentinel, .sentinel, .data, .pinned], laidTests := true, laidLooks := .later }
def PrinterNormalizesCardSaid : Prop := Claim7.holds Tryz.pinned (.plain (OpenSpec.ofChange printerNormalizesSpec)) printerNormalizesCard

/-- THE TIED CARD OF 'salchowlaw11.PrinterEqual'. -/
def printerEqualCard : Claim7 := { stood := { row := printerEqualRow, standIns := [], harness := (true, "b9fd84081522fb3297b026d1187963efa5220e7d954ef8b3971539a48cb9c3ca"), looks := true }, kinds := [], alts := [], laidByText := true, laidKinds := [.data, .data, .data, .data, .sentinel, .sentinel, .data, .pinned], laidTests := true, laidLooks := .later }
def PrinterEqualCardSaid : Prop := Claim7.holds Tryz.pinned (.plain (OpenSpec.ofChange printerEqualSpec)) printerEqualCard

/-- THE TIED CARD OF 'salchowlaw11.PrinterJoins'. -/
def printerJoinsCard : Claim7 := { stood := { row := printerJoinsRow, standIns := [], harness := (true, "b9fd84081522fb3297b026d1187963efa5220e7d954ef8b3971539a48cb9c3ca"), looks := true }, kinds := [], alts := [], laidByText := true, laidKinds := [.data, .data, .data, .data, .sentinel, .sentinel, .data, .pinned], laidTests := true, laidLooks := .later }
def PrinterJoinsCardSaid : Prop := Claim7.holds Tryz.pinned (.plain (OpenSpec.ofChange printerJoinsSpec)) printerJoinsCard

/-- THE TIED CARD OF 'salchowlaw11.PrinterShape'. -/
def printerShapeCard : Claim7 := { stood := { row := printerShapeRow, standIns := [], harness := (true, "b9fd84081522fb3297b026d1187963efa5220e7d954ef8b3971539a48cb9c3ca"), looks := true }, kinds := [], alts := [], laidByText := true, laidKinds := [.data, .data, .data, .data, .sentinel, .sentinel, .data, .pinned], laidTests := true, laidLooks := .later }
def PrinterShapeCardSaid : Prop := Claim7.holds Tryz.pinned (.plain (OpenSpec.ofChange printerShapeSpec)) printerShapeCard

/-- THE SECOND FORM's CARD OF 'salchowlaw11.PrinterLine'. -/
def printerLineUptoCard : Claim7 := { stood := { row := printerLineUptoRow, standIns := [], harness := (true, "b9fd84081522fb3297b026d1187963efa5220e7d954ef8b3971539a48cb9c3ca"), looks := true }, kinds := [], alts := [], laidByText := true, laidKinds := [.data, .data, .data, .data, .sentinel, .sentinel, .data, .pinned], laidTests := true, laidLooks := .later }
def PrinterLineUptoCardSaid : Prop := Claim7.holds Tryz.pinned (.plain (OpenSpec.upto printerLineSpec)) printerLineUptoCard

/-- THE SECOND FORM's CARD OF 'salchowlaw11.PrinterPrints'. -/
def printerPrintsUptoCard : Claim7 := { stood := { row := printerPrintsUptoRow, standIns := [], harness := (true, "b9fd84081522fb3297b026d1187963efa5220e7d954ef8b3971539a48cb9c3ca"), looks := true }, kinds := [], alts := [], laidByText := true, laidKinds := [.data, .data, .data, .data, .sentinel, .sentinel, .data, .pinned], laidTests := true, laidLooks := .later }
def PrinterPrintsUptoCardSaid : Prop := Claim7.holds Tryz.pinned (.plain (OpenSpec.upto printerPrintsSpec)) printerPrintsUptoCard

/-- THE SECOND FORM's CARD OF 'salchowlaw11.PrinterReads'. -/
def printerReadsUptoCard : Claim7 := { stood := { row := printerReadsUptoRow, standIns := [], harness := (true, "b9fd84081522fb3297b026d1187963efa5220e7d954ef8b3971539a48cb9c3ca"), looks := true }, kinds := [], alts := [], laidByText := true, laidKinds := [.data, .data, .data, .data, .sentinel, .sentinel, .data, .pinned], laidTests := true, laidLooks := .later }
def PrinterReadsUptoCardSaid : Prop := Claim7.holds Tryz.pinned (.plain (OpenSpec.upto printerReadsSpec)) printerReadsUptoCard

/-- THE SECOND FORM's CARD OF 'salchowlaw11.PrinterNormalizes'. -/
def printerNormalizesUptoCard : Claim7 := { stood := { row := printerNormalizesUptoRow, standIns := [], harness := (true, "b9fd84081522fb3297b026d1187963efa5220e7d954ef8b3971539a48cb9c3ca"), looks := true }, kinds := [], alts := [], laidByText := true, laidKinds := [.data, .data, .data, .data, .sentinel, .sentinel, .data, .pinned], laidTests := true, laidLooks := .later }
def PrinterNormalizesUptoCardSaid : Prop := Claim7.holds Tryz.pinned (.plain (OpenSpec.upto printerNormalizesSpec)) printerNormalizesUptoCard

/-- THE SECOND FORM's CARD OF 'salchowlaw11.PrinterEqual'. -/
def printerEqualUptoCard : Claim7 := { stood := { row := printerEqualUptoRow, standIns := [], harness := (true, "b9fd84081522fb3297b026d1187963efa5220e7d954ef8b3971539a48cb9c3ca"), looks := true }, kinds := [], alts := [], laidByText := true, laidKinds := [.data, .data, .data, .data, .sentinel, .sentinel, .data, .pinned], laidTests := true, laidLooks := .later }
def PrinterEqualUptoCardSaid : Prop := Claim7.holds Tryz.pinned (.plain (OpenSpec.upto printerEqualSpec)) printerEqualUptoCard

/-- THE SECOND FORM's CARD OF 'salchowlaw11.PrinterJoins'. -/
def printerJoinsUptoCard : Claim7 := { stood := { row := printerJoinsUptoRow, standIns := [], harness := (true, "b9fd84081522fb3297b026d1187963efa5220e7d954ef8b3971539a48cb9c3ca"), looks := true }, kinds := [], alts := [], laidByText := true, laidKinds := [.data, .data, .data, .data, .sentinel, .sentinel, .data, .pinned], laidTests := true, laidLooks := .later }
def PrinterJoinsUptoCardSaid : Prop := Claim7.holds Tryz.pinned (.plain (OpenSpec.upto printerJoinsSpec)) printerJoinsUptoCard

/-- THE SECOND FORM's CARD OF 'salchowlaw11.PrinterShape'. -/
def printerShapeUptoCard : Claim7 := { stood := { row := printerShapeUptoRow, standIns := [], harness := (true, "b9fd84081522fb3297b026d1187963efa5220e7d954ef8b3971539a48cb9c3ca"), looks := true }, kinds := [], alts := [], laidByText := true, laidKinds := [.data, .data, .data, .data, .sentinel, .sentinel, .data, .pinned], laidTests := true, laidLooks := .later }
def PrinterShapeUptoCardSaid : Prop := Claim7.holds Tryz.pinned (.plain (OpenSpec.upto printerShapeSpec)) printerShapeUptoCard
end Rows
end Go.Proofs.YtohalocbghhenaaGreatDoor
