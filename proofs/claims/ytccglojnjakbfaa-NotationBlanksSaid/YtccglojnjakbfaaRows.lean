/-
  No cell of these rows narrows 'for every input' (looked for: loops, veiled, ifaces, maps, wideKeys, modest, calm, conditions, laid).
  DERIVED. THE GIVEN ROWS OF THIS SEAT. 7 by the template 'for every input the law returns true; each argument reads behind the call as it read before'; 0 by the template 'total and deterministic' (their statements: YtccglojnjakbfaaTotals.lean).
  GIVEN WITH THE SEED: the statements are not yours to turn. If you find one false, say at which input.
  Laid BY PROGRAM, IN A SANDBOX (cutbox-rows.mjs): the forced cells as the released guide's own fill.sh prints them over the translation 6105776742bc7f99… (all of the seat's roots in one cut). By AI agents, Wed Nov 11 2026. No macro, syntax, notation, axiom, sorry.
-/
import Derived.Test.YtccglojnjakbfaaChecked
import GoSem.Claim
import GoSem.ClaimJoined
import GoSem.ClaimMapViews
import Derived.JoinedTies
import Derived.KernelRfl
namespace Go.Proofs.Ytccglojnjakbfaa
/- THE CELL 'sum', in the pinned program and in every row, IS THE sha256 OF THE DUMP (.gsa) THAT YtccglojnjakbfaaProg.lean LOADS. Nothing in Lean hashes anything: it is a label: what it is worth is what the hold of that sum in a sandbox is worth. -/
noncomputable def Try.pinned : Pinned := { name := "ytccglojnjakbfaa", sum := "6105776742bc7f996ae146b9e6ca71ad55487d72e2733c3bbadf2469f47e623b", checked := Try.checked }
namespace Rows
def none {H : Type} : Left H := { results := [], args := [] }

/-- 'salchowlaw19.NotationParses': WHATEVER THE INPUT: true; the input reads as it did. -/
def notationParsesSpec : ChangeSpec := { name := "notationParses", fn := fun _ => fun
  | [d] => { results := [.lit (.bool true)], args := [d] }
  | _ => none }
def notationParsesRow : OpenClaim := { program := "ytccglojnjakbfaa", sum := "6105776742bc7f996ae146b9e6ca71ad55487d72e2733c3bbadf2469f47e623b", func := "salchow/salchowlaw19.NotationParses", spec := "notationParses", inPlace := ["internal/abi.NoEscape", "internal/bytealg.MakeNoZero"], unfollowed := true, recurses := true, apart := false }
def NotationParsesSaid : Prop := notationParsesRow.holds Try.pinned (OpenSpec.ofChange notationParsesSpec)

/-- ITS FALSE NEIGHBOUR: 'it returns false'. Refute it at one input. -/
def notationParsesWrong : ChangeSpec := { name := "notationParses", fn := fun _ => fun
  | [d] => { results := [.lit (.bool false)], args := [d] }
  | _ => none }
def NotationParsesWrongFalsely : Prop := notationParsesRow.holds Try.pinned (OpenSpec.ofChange notationParsesWrong)

/-- 'salchowlaw19.NotationChecks': WHATEVER THE INPUT: true; the input reads as it did. -/
def notationChecksSpec : ChangeSpec := { name := "notationChecks", fn := fun _ => fun
  | [d] => { results := [.lit (.bool true)], args := [d] }
  | _ => none }
def notationChecksRow : OpenClaim := { program := "ytccglojnjakbfaa", sum := "6105776742bc7f996ae146b9e6ca71ad55487d72e2733c3bbadf2469f47e623b", func := "salchow/salchowlaw19.NotationChecks", spec := "notationChecks", inPlace := ["internal/abi.NoEscape", "internal/bytealg.MakeNoZero"], unfollowed := true, recurses := true, apart := false }
def NotationChecksSaid : Prop := notationChecksRow.holds Try.pinned (OpenSpec.ofChange notationChecksSpec)

/-- ITS FALSE NEIGHBOUR: 'it returns false'. Refute it at one input. -/
def notationChecksWrong : ChangeSpec := { name := "notationChecks", fn := fun _ => fun
  | [d] => { results := [.lit (.bool false)], args := [d] }
  | _ => none }
def NotationChecksWrongFalsely : Prop := notationChecksRow.holds Try.pinned (OpenSpec.ofChange notationChecksWrong)

/-- 'salchowlaw19.NotationPrints': WHATEVER THE INPUT: true; the input reads as it did. -/
def notationPrintsSpec : ChangeSpec := { name := "notationPrints", fn := fun _ => fun
  | [d] => { results := [.lit (.bool true)], args := [d] }
  | _ => none }
def notationPrintsRow : OpenClaim := { program := "ytccglojnjakbfaa", sum := "6105776742bc7f996ae146b9e6ca71ad55487d72e2733c3bbadf2469f47e623b", func := "salchow/salchowlaw19.NotationPrints", spec := "notationPrints", inPlace := ["internal/abi.NoEscape", "internal/bytealg.MakeNoZero"], unfollowed := true, recurses := true, apart := false }
def NotationPrintsSaid : Prop := notationPrintsRow.holds Try.pinned (OpenSpec.ofChange notationPrintsSpec)

/-- ITS FALSE NEIGHBOUR: 'it returns false'. Refute it at one input. -/
def notationPrintsWrong : ChangeSpec := { name := "notationPrints", fn := fun _ => fun
  | [d] => { results := [.lit (.bool false)], args := [d] }
  | _ => none }
def NotationPrintsWrongFalsely : Prop := notationPrintsRow.holds Try.pinned (OpenSpec.ofChange notationPrintsWrong)

/-- 'salchowlaw19.NotationNormalizes': WHATEVER THE INPUT: true; the input reads as it did. -/
def notationNormalizesSpec : ChangeSpec := { name := "notationNormalizes", fn := fun _ => fun
  | [d] => { results := [.lit (.bool true)], args := [d] }
  | _ => none }
def notationNormalizesRow : OpenClaim := { program := "ytccglojnjakbfaa", sum := "6105776742bc7f996ae146b9e6ca71ad55487d72e2733c3bbadf2469f47e623b", func := "salchow/salchowlaw19.NotationNormalizes", spec := "notationNormalizes", inPlace := ["internal/abi.NoEscape", "internal/bytealg.MakeNoZero"], unfollowed := true, recurses := true, apart := false }
def NotationNormalizesSaid : Prop := notationNormalizesRow.holds Try.pinned (OpenSpec.ofChange notationNormalizesSpec)

/-- ITS FALSE NEIGHBOUR: 'it returns false'. Refute it at one input. -/
def notationNormalizesWrong : ChangeSpec := { name := "notationNormalizes", fn := fun _ => fun
  | [d] => { results := [.lit (.bool false)], args := [d] }
  | _ => none }
def NotationNormalizesWrongFalsely : Prop := notationNormalizesRow.holds Try.pinned (OpenSpec.ofChange notationNormalizesWrong)

/-- 'salchowlaw19.NotationChains': WHATEVER THE INPUT: true; the input reads as it did. -/
def notationChainsSpec : ChangeSpec := { name := "notationChains", fn := fun _ => fun
  | [d] => { results := [.lit (.bool true)], args := [d] }
  | _ => none }
def notationChainsRow : OpenClaim := { program := "ytccglojnjakbfaa", sum := "6105776742bc7f996ae146b9e6ca71ad55487d72e2733c3bbadf2469f47e623b", func := "salchow/salchowlaw19.NotationChains", spec := "notationChains", inPlace := ["internal/abi.NoEscape", "internal/bytealg.MakeNoZero"], unfollowed := true, recurses := true, apart := false }
def NotationChainsSaid : Prop := notationChainsRow.holds Try.pinned (OpenSpec.ofChange notationChainsSpec)

/-- ITS FALSE NEIGHBOUR: 'it returns false'. Refute it at one input. -/
def notationChainsWrong : ChangeSpec := { name := "notationChains", fn := fun _ => fun
  | [d] => { results := [.lit (.bool false)], args := [d] }
  | _ => none }
def NotationChainsWrongFalsely : Prop := notationChainsRow.holds Try.pinned (OpenSpec.ofChange notationChainsWrong)

/-- 'salchowlaw19.NotationMerges': WHATEVER THE INPUT: true; the input reads as it did. -/
def notationMergesSpec : ChangeSpec := { name := "notationMerges", fn := fun _ => fun
  | [d1, d2] => { results := [.lit (.bool true)], args := [d1, d2] }
  | _ => none }
def notationMergesRow : OpenClaim := { program := "ytccglojnjakbfaa", sum := "6105776742bc7f996ae146b9e6ca71ad55487d72e2733c3bbadf2469f47e623b", func := "salchow/salchowlaw19.NotationMerges", spec := "notationMerges", inPlace := ["internal/abi.NoEscape", "internal/bytealg.MakeNoZero"], unfollowed := true, recurses := true, apart := false }
def NotationMergesSaid : Prop := notationMergesRow.holds Try.pinned (OpenSpec.ofChange notationMergesSpec)

/-- ITS FALSE NEIGHBOUR: 'it returns false'. Refute it at one input. -/
def notationMergesWrong : ChangeSpec := { name := "notationMerges", fn := fun _ => fun
  | [d1, d2] => { results := [.lit (.bool false)], args := [d1, d2] }
  | _ => none }
def NotationMergesWrongFalsely : Prop := notationMergesRow.holds Try.pinned (OpenSpec.ofChange notationMergesWrong)

/-- 'salchowlaw19.NotationBlanks': WHATEVER THE INPUT: true; the input reads as it did. -/
def notationBlanksSpec : ChangeSpec := { name := "notationBlanks", fn := fun _ => fun
  | [d1, d2] => { results := [.lit (.bool true)], args := [d1, d2] }
  | _ => none }
def notationBlanksRow : OpenClaim := { program := "ytccglojnjakbfaa", sum := "6105776742bc7f996ae146b9e6ca71ad55487d72e2733c3bbadf2469f47e623b", func := "salchow/salchowlaw19.NotationBlanks", spec := "notationBlanks", inPlace := ["internal/abi.NoEscape", "internal/bytealg.MakeNoZero"], unfollowed := true, recurses := true, apart := false }
def NotationBlanksSaid : Prop := notationBlanksRow.holds Try.pinned (OpenSpec.ofChange notationBlanksSpec)

/-- ITS FALSE NEIGHBOUR: 'it returns false'. Refute it at one input. -/
def notationBlanksWrong : ChangeSpec := { name := "notationBlanks", fn := fun _ => fun
  | [d1, d2] => { results := [.lit (.bool false)], args := [d1, d2] }
  | _ => none }
def NotationBlanksWrongFalsely : Prop := notationBlanksRow.holds Try.pinned (OpenSpec.ofChange notationBlanksWrong)

/- THE SECOND FORM. 'bulk': how many values and letters a reading holds, each counted each time it is reached (what is shared counts as often as it is met; a slice's spare places count too). A statement '..UptoSaid' is the law's where the arguments, and the package variables that the reading takes, are together of bulk at most 1048576: NARROWER than '..Said'. Prove '..Said' where nothing that the law and all that it calls make is longer than what came in: it says more and counts as full. Else prove '..UptoSaid'. A law counts once. -/
mutual
def uptoBulk {H : Type} : DataW H → Nat
  | .lit (.string bytes) => bytes.length + 1
  | .lit _ => 1
  | .nil => 1
  | .ptr d => uptoBulk d + 1
  | .slice elems spare => uptoBulkAll elems + uptoBulkAll spare + 1
  | .agg parts => uptoBulkAll parts + 1
  | .iface _ d => uptoBulk d + 1
  | .map entries => uptoBulkEntries entries + 1
  | .held _ => 1
def uptoBulkAll {H : Type} : List (DataW H) → Nat
  | [] => 0
  | d :: r => uptoBulk d + uptoBulkAll r
def uptoBulkEntries {H : Type} : List (Lit × DataW H) → Nat
  | [] => 0
  | x :: r => uptoBulkEntry x + uptoBulkEntries r
def uptoBulkEntry {H : Type} : Lit × DataW H → Nat
  | (.string bytes, d) => bytes.length + uptoBulk d + 1
  | (_, d) => uptoBulk d + 1
 end
def uptoSmall : (H : Type) → List (DataW H) → Bool := fun _ ds => decide (uptoBulkAll ds ≤ 1048576)
def OpenSpec.upto (s : _root_.Go.ChangeSpec) : _root_.Go.OpenSpec := { _root_.Go.OpenSpec.ofChange s with cond := some uptoSmall }

/-- 'salchowlaw19.NotationParses', WHERE WHAT IT READS IS OF BULK AT MOST 1048576: true; the input reads as it did. -/
def notationParsesUptoRow : OpenClaim := { program := "ytccglojnjakbfaa", sum := "6105776742bc7f996ae146b9e6ca71ad55487d72e2733c3bbadf2469f47e623b", func := "salchow/salchowlaw19.NotationParses", spec := "notationParses", inPlace := ["internal/abi.NoEscape", "internal/bytealg.MakeNoZero"], unfollowed := true, recurses := true, apart := false, narrowed := true }
def NotationParsesUptoSaid : Prop := notationParsesUptoRow.holds Try.pinned (OpenSpec.upto notationParsesSpec)

/-- 'salchowlaw19.NotationChecks', WHERE WHAT IT READS IS OF BULK AT MOST 1048576: true; the input reads as it did. -/
def notationChecksUptoRow : OpenClaim := { program := "ytccglojnjakbfaa", sum := "6105776742bc7f996ae146b9e6ca71ad55487d72e2733c3bbadf2469f47e623b", func := "salchow/salchowlaw19.NotationChecks", spec := "notationChecks", inPlace := ["internal/abi.NoEscape", "internal/bytealg.MakeNoZero"], unfollowed := true, recurses := true, apart := false, narrowed := true }
def NotationChecksUptoSaid : Prop := notationChecksUptoRow.holds Try.pinned (OpenSpec.upto notationChecksSpec)

/-- 'salchowlaw19.NotationPrints', WHERE WHAT IT READS IS OF BULK AT MOST 1048576: true; the input reads as it did. -/
def notationPrintsUptoRow : OpenClaim := { program := "ytccglojnjakbfaa", sum := "6105776742bc7f996ae146b9e6ca71ad55487d72e2733c3bbadf2469f47e623b", func := "salchow/salchowlaw19.NotationPrints", spec := "notationPrints", inPlace := ["internal/abi.NoEscape", "internal/bytealg.MakeNoZero"], unfollowed := true, recurses := true, apart := false, narrowed := true }
def NotationPrintsUptoSaid : Prop := notationPrintsUptoRow.holds Try.pinned (OpenSpec.upto notationPrintsSpec)

/-- 'salchowlaw19.NotationNormalizes', WHERE WHAT IT READS IS OF BULK AT MOST 1048576: true; the input reads as it did. -/
def notationNormalizesUptoRow : OpenClaim := { program := "ytccglojnjakbfaa", sum := "6105776742bc7f996ae146b9e6ca71ad55487d72e2733c3bbadf2469f47e623b", func := "salchow/salchowlaw19.NotationNormalizes", spec := "notationNormalizes", inPlace := ["internal/abi.NoEscape", "internal/bytealg.MakeNoZero"], unfollowed := true, recurses := true, apart := false, narrowed := true }
def NotationNormalizesUptoSaid : Prop := notationNormalizesUptoRow.holds Try.pinned (OpenSpec.upto notationNormalizesSpec)

/-- 'salchowlaw19.NotationChains', WHERE WHAT IT READS IS OF BULK AT MOST 1048576: true; the input reads as it did. -/
def notationChainsUptoRow : OpenClaim := { program := "ytccglojnjakbfaa", sum := "6105776742bc7f996ae146b9e6ca71ad55487d72e2733c3bbadf2469f47e623b", func := "salchow/salchowlaw19.NotationChains", spec := "notationChains", inPlace := ["internal/abi.NoEscape", "internal/bytealg.MakeNoZero"], unfollowed := true, recurses := true, apart := false, narrowed := true }
def NotationChainsUptoSaid : Prop := notationChainsUptoRow.holds Try.pinned (OpenSpec.upto notationChainsSpec)

/-- 'salchowlaw19.NotationMerges', WHERE WHAT IT READS IS OF BULK AT MOST 1048576: true; the input reads as it did. -/
def notationMergesUptoRow : OpenClaim := { program := "ytccglojnjakbfaa", sum := "6105776742bc7f996ae146b9e6ca71ad55487d72e2733c3bbadf2469f47e623b", func := "salchow/salchowlaw19.NotationMerges", spec := "notationMerges", inPlace := ["internal/abi.NoEscape", "internal/bytealg.MakeNoZero"], unfollowed := true, recurses := true, apart := false, narrowed := true }
def NotationMergesUptoSaid : Prop := notationMergesUptoRow.holds Try.pinned (OpenSpec.upto notationMergesSpec)

/-- 'salchowlaw19.NotationBlanks', WHERE WHAT IT READS IS OF BULK AT MOST 1048576: true; the input reads as it did. -/
def notationBlanksUptoRow : OpenClaim := { program := "ytccglojnjakbfaa", sum := "6105776742bc7f996ae146b9e6ca71ad55487d72e2733c3bbadf2469f47e623b", func := "salchow/salchowlaw19.NotationBlanks", spec := "notationBlanks", inPlace := ["internal/abi.NoEscape", "internal/bytealg.MakeNoZero"], unfollowed := true, recurses := true, apart := false, narrowed := true }
def NotationBlanksUptoSaid : Prop := notationBlanksUptoRow.holds Try.pinned (OpenSpec.upto notationBlanksSpec)

end Rows
end Go.Proofs.Ytccglojnjakbfaa
