/-
  No cell of these rows narrows 'for every input' (looked for: loops, veiled, ifaces, maps, wideKeys, modest, calm, conditions, laid).
  DERIVED. THE GIVEN ROWS OF THIS SEAT. 8 by the template 'for every input the law returns true; each argument reads behind the call as it read before'; 0 by the template 'total and deterministic' (their statements: YtpcdbnlljdfogaaTotals.lean).
  GIVEN WITH THE SEED: the statements are not yours to turn. If you find one false, say at which input.
  Laid BY PROGRAM, IN A SANDBOX (cutbox-rows.mjs): the forced cells as the released guide's own fill.sh prints them over the translation 54095941224ccb51… (all of the seat's roots in one cut). By AI agents, Wed Nov 11 2026. No macro, syntax, notation, axiom, sorry.
-/
import Derived.Test.YtpcdbnlljdfogaaChecked
import GoSem.Claim
import GoSem.ClaimJoined
import GoSem.ClaimMapViews
import Derived.JoinedTies
import Derived.KernelRfl
namespace Go.Proofs.Ytpcdbnlljdfogaa
/- THE CELL 'sum', in the pinned program and in every row, IS THE sha256 OF THE DUMP (.gsa) THAT YtpcdbnlljdfogaaProg.lean LOADS. Nothing in Lean hashes anything: it is a label: what it is worth is what the hold of that sum in a sandbox is worth. -/
noncomputable def Try.pinned : Pinned := { name := "ytpcdbnlljdfogaa", sum := "54095941224ccb51a47899c411ec3473e0d33b110cb14e5c1717489952efcba7", checked := Try.checked }
namespace Rows
def none {H : Type} : Left H := { results := [], args := [] }

/-- 'salchowlaw07.MatchingChecks': WHATEVER THE INPUT: true; the input reads as it did. -/
def matchingChecksSpec : ChangeSpec := { name := "matchingChecks", fn := fun _ => fun
  | [d1, d2] => { results := [.lit (.bool true)], args := [d1, d2] }
  | _ => none }
def matchingChecksRow : OpenClaim := { program := "ytpcdbnlljdfogaa", sum := "54095941224ccb51a47899c411ec3473e0d33b110cb14e5c1717489952efcba7", func := "salchow/salchowlaw07.MatchingChecks", spec := "matchingChecks", unfollowed := true, recurses := true, plainKeys := false, apart := false }
def MatchingChecksSaid : Prop := matchingChecksRow.holds Try.pinned (OpenSpec.ofChange matchingChecksSpec)

/-- ITS FALSE NEIGHBOUR: 'it returns false'. Refute it at one input. -/
def matchingChecksWrong : ChangeSpec := { name := "matchingChecks", fn := fun _ => fun
  | [d1, d2] => { results := [.lit (.bool false)], args := [d1, d2] }
  | _ => none }
def MatchingChecksWrongFalsely : Prop := matchingChecksRow.holds Try.pinned (OpenSpec.ofChange matchingChecksWrong)

/-- 'salchowlaw07.MatchingGreatest': WHATEVER THE INPUT: true; the input reads as it did. -/
def matchingGreatestSpec : ChangeSpec := { name := "matchingGreatest", fn := fun _ => fun
  | [d] => { results := [.lit (.bool true)], args := [d] }
  | _ => none }
def matchingGreatestRow : OpenClaim := { program := "ytpcdbnlljdfogaa", sum := "54095941224ccb51a47899c411ec3473e0d33b110cb14e5c1717489952efcba7", func := "salchow/salchowlaw07.MatchingGreatest", spec := "matchingGreatest", unfollowed := true, recurses := true, plainKeys := false, apart := false }
def MatchingGreatestSaid : Prop := matchingGreatestRow.holds Try.pinned (OpenSpec.ofChange matchingGreatestSpec)

/-- ITS FALSE NEIGHBOUR: 'it returns false'. Refute it at one input. -/
def matchingGreatestWrong : ChangeSpec := { name := "matchingGreatest", fn := fun _ => fun
  | [d] => { results := [.lit (.bool false)], args := [d] }
  | _ => none }
def MatchingGreatestWrongFalsely : Prop := matchingGreatestRow.holds Try.pinned (OpenSpec.ofChange matchingGreatestWrong)

/-- 'salchowlaw07.MatchingKonig': WHATEVER THE INPUT: true; the input reads as it did. -/
def matchingKonigSpec : ChangeSpec := { name := "matchingKonig", fn := fun _ => fun
  | [d] => { results := [.lit (.bool true)], args := [d] }
  | _ => none }
def matchingKonigRow : OpenClaim := { program := "ytpcdbnlljdfogaa", sum := "54095941224ccb51a47899c411ec3473e0d33b110cb14e5c1717489952efcba7", func := "salchow/salchowlaw07.MatchingKonig", spec := "matchingKonig", unfollowed := true, recurses := true, plainKeys := false, apart := false }
def MatchingKonigSaid : Prop := matchingKonigRow.holds Try.pinned (OpenSpec.ofChange matchingKonigSpec)

/-- ITS FALSE NEIGHBOUR: 'it returns false'. Refute it at one input. -/
def matchingKonigWrong : ChangeSpec := { name := "matchingKonig", fn := fun _ => fun
  | [d] => { results := [.lit (.bool false)], args := [d] }
  | _ => none }
def MatchingKonigWrongFalsely : Prop := matchingKonigRow.holds Try.pinned (OpenSpec.ofChange matchingKonigWrong)

/-- 'salchowlaw07.MatchingBounds': WHATEVER THE INPUT: true; the input reads as it did. -/
def matchingBoundsSpec : ChangeSpec := { name := "matchingBounds", fn := fun _ => fun
  | [d1, d2, d3] => { results := [.lit (.bool true)], args := [d1, d2, d3] }
  | _ => none }
def matchingBoundsRow : OpenClaim := { program := "ytpcdbnlljdfogaa", sum := "54095941224ccb51a47899c411ec3473e0d33b110cb14e5c1717489952efcba7", func := "salchow/salchowlaw07.MatchingBounds", spec := "matchingBounds", unfollowed := true, recurses := true, plainKeys := false, apart := false }
def MatchingBoundsSaid : Prop := matchingBoundsRow.holds Try.pinned (OpenSpec.ofChange matchingBoundsSpec)

/-- ITS FALSE NEIGHBOUR: 'it returns false'. Refute it at one input. -/
def matchingBoundsWrong : ChangeSpec := { name := "matchingBounds", fn := fun _ => fun
  | [d1, d2, d3] => { results := [.lit (.bool false)], args := [d1, d2, d3] }
  | _ => none }
def MatchingBoundsWrongFalsely : Prop := matchingBoundsRow.holds Try.pinned (OpenSpec.ofChange matchingBoundsWrong)

/-- 'salchowlaw07.MatchingCover': WHATEVER THE INPUT: true; the input reads as it did. -/
def matchingCoverSpec : ChangeSpec := { name := "matchingCover", fn := fun _ => fun
  | [d] => { results := [.lit (.bool true)], args := [d] }
  | _ => none }
def matchingCoverRow : OpenClaim := { program := "ytpcdbnlljdfogaa", sum := "54095941224ccb51a47899c411ec3473e0d33b110cb14e5c1717489952efcba7", func := "salchow/salchowlaw07.MatchingCover", spec := "matchingCover", unfollowed := true, recurses := true, plainKeys := false, apart := false }
def MatchingCoverSaid : Prop := matchingCoverRow.holds Try.pinned (OpenSpec.ofChange matchingCoverSpec)

/-- ITS FALSE NEIGHBOUR: 'it returns false'. Refute it at one input. -/
def matchingCoverWrong : ChangeSpec := { name := "matchingCover", fn := fun _ => fun
  | [d] => { results := [.lit (.bool false)], args := [d] }
  | _ => none }
def MatchingCoverWrongFalsely : Prop := matchingCoverRow.holds Try.pinned (OpenSpec.ofChange matchingCoverWrong)

/-- 'salchowlaw07.MatchingHall': WHATEVER THE INPUT: true; the input reads as it did. -/
def matchingHallSpec : ChangeSpec := { name := "matchingHall", fn := fun _ => fun
  | [d] => { results := [.lit (.bool true)], args := [d] }
  | _ => none }
def matchingHallRow : OpenClaim := { program := "ytpcdbnlljdfogaa", sum := "54095941224ccb51a47899c411ec3473e0d33b110cb14e5c1717489952efcba7", func := "salchow/salchowlaw07.MatchingHall", spec := "matchingHall", unfollowed := true, recurses := true, plainKeys := false, apart := false }
def MatchingHallSaid : Prop := matchingHallRow.holds Try.pinned (OpenSpec.ofChange matchingHallSpec)

/-- ITS FALSE NEIGHBOUR: 'it returns false'. Refute it at one input. -/
def matchingHallWrong : ChangeSpec := { name := "matchingHall", fn := fun _ => fun
  | [d] => { results := [.lit (.bool false)], args := [d] }
  | _ => none }
def MatchingHallWrongFalsely : Prop := matchingHallRow.holds Try.pinned (OpenSpec.ofChange matchingHallWrong)

/-- 'salchowlaw07.MatchingClasses': WHATEVER THE INPUT: true; the input reads as it did. -/
def matchingClassesSpec : ChangeSpec := { name := "matchingClasses", fn := fun _ => fun
  | [d] => { results := [.lit (.bool true)], args := [d] }
  | _ => none }
def matchingClassesRow : OpenClaim := { program := "ytpcdbnlljdfogaa", sum := "54095941224ccb51a47899c411ec3473e0d33b110cb14e5c1717489952efcba7", func := "salchow/salchowlaw07.MatchingClasses", spec := "matchingClasses", unfollowed := true, recurses := true, plainKeys := false, apart := false }
def MatchingClassesSaid : Prop := matchingClassesRow.holds Try.pinned (OpenSpec.ofChange matchingClassesSpec)

/-- ITS FALSE NEIGHBOUR: 'it returns false'. Refute it at one input. -/
def matchingClassesWrong : ChangeSpec := { name := "matchingClasses", fn := fun _ => fun
  | [d] => { results := [.lit (.bool false)], args := [d] }
  | _ => none }
def MatchingClassesWrongFalsely : Prop := matchingClassesRow.holds Try.pinned (OpenSpec.ofChange matchingClassesWrong)

/-- 'salchowlaw07.MatchingGrows': WHATEVER THE INPUT: true; the input reads as it did. -/
def matchingGrowsSpec : ChangeSpec := { name := "matchingGrows", fn := fun _ => fun
  | [d1, d2] => { results := [.lit (.bool true)], args := [d1, d2] }
  | _ => none }
def matchingGrowsRow : OpenClaim := { program := "ytpcdbnlljdfogaa", sum := "54095941224ccb51a47899c411ec3473e0d33b110cb14e5c1717489952efcba7", func := "salchow/salchowlaw07.MatchingGrows", spec := "matchingGrows", unfollowed := true, recurses := true, plainKeys := false, apart := false }
def MatchingGrowsSaid : Prop := matchingGrowsRow.holds Try.pinned (OpenSpec.ofChange matchingGrowsSpec)

/-- ITS FALSE NEIGHBOUR: 'it returns false'. Refute it at one input. -/
def matchingGrowsWrong : ChangeSpec := { name := "matchingGrows", fn := fun _ => fun
  | [d1, d2] => { results := [.lit (.bool false)], args := [d1, d2] }
  | _ => none }
def MatchingGrowsWrongFalsely : Prop := matchingGrowsRow.holds Try.pinned (OpenSpec.ofChange matchingGrowsWrong)

/- THE SECOND FORM. 'bulk': how many values and letters a reading holds, each counted each time it is reached (what is shared counts as often as it is met; a slice's spare places count too). A statement '..UptoSaid' is the law's where the arguments, and the package variables that the reading takes, are together of bulk at most 1048576: NARROWER than '..Said'. Prove '..Said' where nothing that the law and all that it calls make is longer than what came in: it says more and counts as full. Else prove '..UptoSaid'. A law counts once. -/
mutual
def uptoBulk {H : Type} : DataW H → Nat
  | .lit (.string bytes) => bytes.length + 1
  | .lit _ => 1
  | .nil => 1
  | .ptr d => uptoBulk d + 1
  | .slice elems spare => uptoBulkAll elems + uptoBulkAll spare + 1
  | .agg parts => uptoBulkAll parts + 1
  | .iface _ d => uptoBulk d + 1
  | .map entries => uptoBulkEntries entries + 1
  | .held _ => 1
def uptoBulkAll {H : Type} : List (DataW H) → Nat
  | [] => 0
  | d :: r => uptoBulk d + uptoBulkAll r
def uptoBulkEntries {H : Type} : List (Lit × DataW H) → Nat
  | [] => 0
  | x :: r => uptoBulkEntry x + uptoBulkEntries r
def uptoBulkEntry {H : Type} : Lit × DataW H → Nat
  | (.string bytes, d) => bytes.length + uptoBulk d + 1
  | (_, d) => uptoBulk d + 1
 end
def uptoSmall : (H : Type) → List (DataW H) → Bool := fun _ ds => decide (uptoBulkAll ds ≤ 1048576)
def OpenSpec.upto (s : _root_.Go.ChangeSpec) : _root_.Go.OpenSpec := { _root_.Go.OpenSpec.ofChange s with cond := some uptoSmall }

/-- 'salchowlaw07.MatchingChecks', WHERE WHAT IT READS IS OF BULK AT MOST 1048576: true; the input reads as it did. -/
def matchingChecksUptoRow : OpenClaim := { program := "ytpcdbnlljdfogaa", sum := "54095941224ccb51a47899c411ec3473e0d33b110cb14e5c1717489952efcba7", func := "salchow/salchowlaw07.MatchingChecks", spec := "matchingChecks", unfollowed := true, recurses := true, plainKeys := false, apart := false, narrowed := true }
def MatchingChecksUptoSaid : Prop := matchingChecksUptoRow.holds Try.pinned (OpenSpec.upto matchingChecksSpec)

/-- 'salchowlaw07.MatchingGreatest', WHERE WHAT IT READS IS OF BULK AT MOST 1048576: true; the input reads as it did. -/
def matchingGreatestUptoRow : OpenClaim := { program := "ytpcdbnlljdfogaa", sum := "54095941224ccb51a47899c411ec3473e0d33b110cb14e5c1717489952efcba7", func := "salchow/salchowlaw07.MatchingGreatest", spec := "matchingGreatest", unfollowed := true, recurses := true, plainKeys := false, apart := false, narrowed := true }
def MatchingGreatestUptoSaid : Prop := matchingGreatestUptoRow.holds Try.pinned (OpenSpec.upto matchingGreatestSpec)

/-- 'salchowlaw07.MatchingKonig', WHERE WHAT IT READS IS OF BULK AT MOST 1048576: true; the input reads as it did. -/
def matchingKonigUptoRow : OpenClaim := { program := "ytpcdbnlljdfogaa", sum := "54095941224ccb51a47899c411ec3473e0d33b110cb14e5c1717489952efcba7", func := "salchow/salchowlaw07.MatchingKonig", spec := "matchingKonig", unfollowed := true, recurses := true, plainKeys := false, apart := false, narrowed := true }
def MatchingKonigUptoSaid : Prop := matchingKonigUptoRow.holds Try.pinned (OpenSpec.upto matchingKonigSpec)

/-- 'salchowlaw07.MatchingBounds', WHERE WHAT IT READS IS OF BULK AT MOST 1048576: true; the input reads as it did. -/
def matchingBoundsUptoRow : OpenClaim := { program := "ytpcdbnlljdfogaa", sum := "54095941224ccb51a47899c411ec3473e0d33b110cb14e5c1717489952efcba7", func := "salchow/salchowlaw07.MatchingBounds", spec := "matchingBounds", unfollowed := true, recurses := true, plainKeys := false, apart := false, narrowed := true }
def MatchingBoundsUptoSaid : Prop := matchingBoundsUptoRow.holds Try.pinned (OpenSpec.upto matchingBoundsSpec)

/-- 'salchowlaw07.MatchingCover', WHERE WHAT IT READS IS OF BULK AT MOST 1048576: true; the input reads as it did. -/
def matchingCoverUptoRow : OpenClaim := { program := "ytpcdbnlljdfogaa", sum := "54095941224ccb51a47899c411ec3473e0d33b110cb14e5c1717489952efcba7", func := "salchow/salchowlaw07.MatchingCover", spec := "matchingCover", unfollowed := true, recurses := true, plainKeys := false, apart := false, narrowed := true }
def MatchingCoverUptoSaid : Prop := matchingCoverUptoRow.holds Try.pinned (OpenSpec.upto matchingCoverSpec)

/-- 'salchowlaw07.MatchingHall', WHERE WHAT IT READS IS OF BULK AT MOST 1048576: true; the input reads as it did. -/
def matchingHallUptoRow : OpenClaim := { program := "ytpcdbnlljdfogaa", sum := "54095941224ccb51a47899c411ec3473e0d33b110cb14e5c1717489952efcba7", func := "salchow/salchowlaw07.MatchingHall", spec := "matchingHall", unfollowed := true, recurses := true, plainKeys := false, apart := false, narrowed := true }
def MatchingHallUptoSaid : Prop := matchingHallUptoRow.holds Try.pinned (OpenSpec.upto matchingHallSpec)

/-- 'salchowlaw07.MatchingClasses', WHERE WHAT IT READS IS OF BULK AT MOST 1048576: true; the input reads as it did. -/
def matchingClassesUptoRow : OpenClaim := { program := "ytpcdbnlljdfogaa", sum := "54095941224ccb51a47899c411ec3473e0d33b110cb14e5c1717489952efcba7", func := "salchow/salchowlaw07.MatchingClasses", spec := "matchingClasses", unfollowed := true, recurses := true, plainKeys := false, apart := false, narrowed := true }
def MatchingClassesUptoSaid : Prop := matchingClassesUptoRow.holds Try.pinned (OpenSpec.upto matchingClassesSpec)

/-- 'salchowlaw07.MatchingGrows', WHERE WHAT IT READS IS OF BULK AT MOST 1048576: true; the input reads as it did. -/
def matchingGrowsUptoRow : OpenClaim := { program := "ytpcdbnlljdfogaa", sum := "54095941224ccb51a47899c411ec3473e0d33b110cb14e5c1717489952efcba7", func := "salchow/salchowlaw07.MatchingGrows", spec := "matchingGrows", unfollowed := true, recurses := true, plainKeys := false, apart := false, narrowed := true }
def MatchingGrowsUptoSaid : Prop := matchingGrowsUptoRow.holds Try.pinned (OpenSpec.upto matchingGrowsSpec)

end Rows
end Go.Proofs.Ytpcdbnlljdfogaa
