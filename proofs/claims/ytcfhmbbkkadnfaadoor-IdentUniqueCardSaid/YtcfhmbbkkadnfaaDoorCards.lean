/-
  DERIVED. GIVEN WITH THE SEED: THE CARDS: each row of YtcfhmbbkkadnfaaDoorRows.lean that lists a variable, with what it lists TIED to the program's text (the seventh form; the later family's looks); each row that meets fmt, with fmt's text TOLD by the authors' own Lean function (tested against real Go, not proved from fmt's source: count such statements apart). THE CARD IS WHAT COUNTS. Prove the row's statement (the work); the ties are given (YtcfhmbbkkadnfaaDoorTie.lean); close each card by the builder's one call (the guide's Derived/Test/ToyasCard.lean, 'card_holds'). Laid BY PROGRAM, IN A SANDBOX (cutbox-door.mjs). By AI agents, Wed Nov 11 2026. No macro, syntax, notation, axiom, sorry.
-/
import Derived.Test.YtcfhmbbkkadnfaaDoorRows
import GoSem.ClaimSeven
namespace Go.Proofs.YtcfhmbbkkadnfaaDoor
namespace Rows

/-- THE TIED CARD OF 'salchowlaw04.IdentChecks'. -/
def identChecksCard : Claim7 := { stood := { row := identChecksRow, standIns := [], harness := (true, "09ec0bdb7bc2831205ee5b6c41a067e7a722fa732701a85af2b6183e50b4ccf1"), looks := false }, kinds := [], alts := [], laidByText := true, laidKinds := [.data, .pinned], laidTests := true, laidLooks := .later }
def IdentChecksCardSaid : Prop := Claim7.holds Tryd.pinned (.plain (OpenSpec.ofChange identChecksSpec)) identChecksCard

/-- THE TIED CARD OF 'salchowlaw04.IdentSets'. -/
def identSetsCard : Claim7 := { stood := { row := identSetsRow, standIns := [], harness := (true, "09ec0bdb7bc2831205ee5b6c41a067e7a722fa732701a85af2b6183e50b4ccf1"), looks := false }, kinds := [], alts := [], laidByText := true, laidKinds := [.data, .pinned], laidTests := true, laidLooks := .later }
def IdentSetsCardSaid : Prop := Claim7.holds Tryd.pinned (.plain (OpenSpec.ofChange identSetsSpec)) identSetsCard

/-- THE TIED CARD OF 'salchowlaw04.IdentUnions'. -/
def identUnionsCard : Claim7 := { stood := { row := identUnionsRow, standIns := [], harness := (true, "09ec0bdb7bc2831205ee5b6c41a067e7a722fa732701a85af2b6183e50b4ccf1"), looks := false }, kinds := [], alts := [], laidByText := true, laidKinds := [.data, .pinned], laidTests := true, laidLooks := .later }
def IdentUnionsCardSaid : Prop := Claim7.holds Tryd.pinned (.plain (OpenSpec.ofChange identUnionsSpec)) identUnionsCard

/-- THE TIED CARD OF 'salchowlaw04.IdentNatural'. -/
def identNaturalCard : Claim7 := { stood := { row := identNaturalRow, standIns := [], harness := (true, "09ec0bdb7bc2831205ee5b6c41a067e7a722fa732701a85af2b6183e50b4ccf1"), looks := false }, kinds := [], alts := [], laidByText := true, laidKinds := [.data, .pinned], laidTests := true, laidLooks := .later }
def IdentNaturalCardSaid : Prop := Claim7.holds Tryd.pinned (.plain (OpenSpec.ofChange identNaturalSpec)) identNaturalCard

/-- THE TIED CARD OF 'salchowlaw04.IdentOrders'. -/
def identOrdersCard : Claim7 := { stood := { row := identOrdersRow, standIns := [], harness := (true, "09ec0bdb7bc2831205ee5b6c41a067e7a722fa732701a85af2b6183e50b4ccf1"), looks := false }, kinds := [], alts := [], laidByText := true, laidKinds := [.data, .pinned], laidTests := true, laidLooks := .later }
def IdentOrdersCardSaid : Prop := Claim7.holds Tryd.pinned (.plain (OpenSpec.ofChange identOrdersSpec)) identOrdersCard

/-- THE TIED CARD OF 'salchowlaw04.IdentNumbers'. -/
def identNumbersCard : Claim7 := { stood := { row := identNumbersRow, standIns := [], harness := (true, "09ec0bdb7bc2831205ee5b6c41a067e7a722fa732701a85af2b6183e50b4ccf1"), looks := false }, kinds := [], alts := [], laidByText := true, laidKinds := [.data, .pinned], laidTests := true, laidLooks := .later }
def IdentNumbersCardSaid : Prop := Claim7.holds Tryd.pinned (.plain (OpenSpec.ofChange identNumbersSpec)) identNumbersCard

/-- THE TIED CARD OF 'salchowlaw04.IdentAbbreviates'. -/
def identAbbreviatesCard : Claim7 := { stood := { row := identAbbreviatesRow, standIns := [], harness := (true, "09ec0bdb7bc2831205ee5b6c41a067e7a722fa732701a85af2b6183e50b4ccf1"), looks := false }, kinds := [], alts := [], laidByText := true, laidKinds := [.data, .pinned], laidTests := true, laidLooks := .later }
def IdentAbbreviatesCardSaid : Prop := Claim7.holds Tryd.pinned (.plain (OpenSpec.ofChange identAbbreviatesSpec)) identAbbreviatesCard

/-- THE TIED CARD OF 'salchowlaw04.IdentUnique'. -/
def identUniqueCard : Claim7 := { stood := { row := identUniqueRow, standIns := [], harness := (true, "09ec0bdb7bc2831205ee5b6c41a067e7a722fa732701a85af2b6183e50b4ccf1"), looks := false }, kinds := [], alts := [], laidByText := true, laidKinds := [.data, .pinned], laidTests := true, laidLooks := .later }
def IdentUniqueCardSaid : Prop := Claim7.holds Tryd.pinned (.plain (OpenSpec.ofChange identUniqueSpec)) identUniqueCard

/-- THE SECOND FORM's CARD OF 'salchowlaw04.IdentChecks'. -/
def identChecksUptoCard : Claim7 := { stood := { row := identChecksUptoRow, standIns := [], harness := (true, "09ec0bdb7bc2831205ee5b6c41a067e7a722fa732701a85af2b6183e50b4ccf1"), looks := false }, kinds := [], alts := [], laidByText := true, laidKinds := [.data, .pinned], laidTests := true, laidLooks := .later }
def IdentChecksUptoCardSaid : Prop := Claim7.holds Tryd.pinned (.plain (OpenSpec.upto identChecksSpec)) identChecksUptoCard

/-- THE SECOND FORM's CARD OF 'salchowlaw04.IdentSets'. -/
def identSetsUptoCard : Claim7 := { stood := { row := identSetsUptoRow, standIns := [], harness := (true, "09ec0bdb7bc2831205ee5b6c41a067e7a722fa732701a85af2b6183e50b4ccf1"), looks := false }, kinds := [], alts := [], laidByText := true, laidKinds := [.data, .pinned], laidTests := true, laidLooks := .later }
def IdentSetsUptoCardSaid : Prop := Claim7.holds Tryd.pinned (.plain (OpenSpec.upto identSetsSpec)) identSetsUptoCard

/-- THE SECOND FORM's CARD OF 'salchowlaw04.IdentUnions'. -/
def identUnionsUptoCard : Claim7 := { stood := { row := identUnionsUptoRow, standIns := [], harness := (true, "09ec0bdb7bc2831205ee5b6c41a067e7a722fa732701a85af2b6183e50b4ccf1"), looks := false }, kinds := [], alts := [], laidByText := true, laidKinds := [.data, .pinned], laidTests := true, laidLooks := .later }
def IdentUnionsUptoCardSaid : Prop := Claim7.holds Tryd.pinned (.plain (OpenSpec.upto identUnionsSpec)) identUnionsUptoCard

/-- THE SECOND FORM's CARD OF 'salchowlaw04.IdentNatural'. -/
def identNaturalUptoCard : Claim7 := { stood := { row := identNaturalUptoRow, standIns := [], harness := (true, "09ec0bdb7bc2831205ee5b6c41a067e7a722fa732701a85af2b6183e50b4ccf1"), looks := false }, kinds := [], alts := [], laidByText := true, laidKinds := [.data, .pinned], laidTests := true, laidLooks := .later }
def IdentNaturalUptoCardSaid : Prop := Claim7.holds Tryd.pinned (.plain (OpenSpec.upto identNaturalSpec)) identNaturalUptoCard

/-- THE SECOND FORM's CARD OF 'salchowlaw04.IdentOrders'. -/
def identOrdersUptoCard : Claim7 := { stood := { row := identOrdersUptoRow, standIns := [], harness := (true, "09ec0bdb7bc2831205ee5b6c41a067e7a722fa732701a85af2b6183e50b4ccf1"), looks := false }, kinds := [], alts := [], laidByText := true, laidKinds := [.data, .pinned], laidTests := true, laidLooks := .later }
def IdentOrdersUptoCardSaid : Prop := Claim7.holds Tryd.pinned (.plain (OpenSpec.upto identOrdersSpec)) identOrdersUptoCard

/-- THE SECOND FORM's CARD OF 'salchowlaw04.IdentNumbers'. -/
def identNumbersUptoCard : Claim7 := { stood := { row := identNumbersUptoRow, standIns := [], harness := (true, "09ec0bdb7bc2831205ee5b6c41a067e7a722fa732701a85af2b6183e50b4ccf1"), looks := false }, kinds := [], alts := [], laidByText := true, laidKinds := [.data, .pinned], laidTests := true, laidLooks := .later }
def IdentNumbersUptoCardSaid : Prop := Claim7.holds Tryd.pinned (.plain (OpenSpec.upto identNumbersSpec)) identNumbersUptoCard

/-- THE SECOND FORM's CARD OF 'salchowlaw04.IdentAbbreviates'. -/
def identAbbreviatesUptoCard : Claim7 := { stood := { row := identAbbreviatesUptoRow, standIns := [], harness := (true, "09ec0bdb7bc2831205ee5b6c41a067e7a722fa732701a85af2b6183e50b4ccf1"), looks := false }, kinds := [], alts := [], laidByText := true, laidKinds := [.data, .pinned], laidTests := true, laidLooks := .later }
def IdentAbbreviatesUptoCardSaid : Prop := Claim7.holds Tryd.pinned (.plain (OpenSpec.upto identAbbreviatesSpec)) identAbbreviatesUptoCard

/-- THE SECOND FORM's CARD OF 'salchowlaw04.IdentUnique'. -/
def identUniqueUptoCard : Claim7 := { stood := { row := identUniqueUptoRow, standIns := [], harness := (true, "09ec0bdb7bc2831205ee5b6c41a067e7a722fa732701a85af2b6183e50b4ccf1"), looks := false }, kinds := [], alts := [], laidByText := true, laidKinds := [.data, .pinned], laidTests := true, laidLooks := .later }
def IdentUniqueUptoCardSaid : Prop := Claim7.holds Tryd.pinned (.plain (OpenSpec.upto identUniqueSpec)) identUniqueUptoCard
end Rows
end Go.Proofs.YtcfhmbbkkadnfaaDoor
