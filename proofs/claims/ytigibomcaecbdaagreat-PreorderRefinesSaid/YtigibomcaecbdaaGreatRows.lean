/-
  No cell of these rows narrows 'for every input' (looked for: loops, veiled, ifaces, maps, wideKeys, modest, calm, conditions, laid).
  DERIVED. THE GIVEN ROWS OF THIS SEAT. 11 by the template 'for every input the law returns true; each argument reads behind the call as it read before'; 0 by the template 'total and deterministic' (their statements: YtigibomcaecbdaaGreatTotals.lean).
  GIVEN WITH THE SEED: the statements are not yours to turn. If you find one false, say at which input.
  Laid BY PROGRAM, IN A SANDBOX (cutbox-rows.mjs): the forced cells as the released guide's own fill.sh prints them over the translation e74a0cd33a6e244d… (all of the seat's roots in one cut). By AI agents, Wed Nov 11 2026. No macro, syntax, notation, axiom, sorry.
-/
import Derived.Test.YtigibomcaecbdaaGreatChecked
import GoSem.Claim
import GoSem.ClaimJoined
import GoSem.ClaimMapViews
import Derived.JoinedTies
import Derived.KernelRfl
namespace Go.Proofs.YtigibomcaecbdaaGreat
/- THE CELL 'sum', in the pinned program and in every row, IS THE sha256 OF THE DUMP (.gsa) THAT YtigibomcaecbdaaGreatProg.lean LOADS. Nothing in Lean hashes anything: it is a label: what it is worth is what the hold of that sum in a sandbox is worth. -/
noncomputable def Tryz.pinned : Pinned := { name := "ytigibomcaecbdaagreat", sum := "e74a0cd33a6e244d52c57865fb5d646729957ec1ecd7efeba66e6a74e9e536ff", checked := Tryz.checked }
namespace Rows
def none {H : Type} : Left H := { results := [], args := [] }

/-- 'salchowlaw05.PreorderCompares': WHATEVER THE INPUT: true; the input reads as it did. -/
def preorderComparesSpec : ChangeSpec := { name := "preorderCompares", fn := fun _ => fun
  | [d1, d2] => { results := [.lit (.bool true)], args := [d1, d2] }
  | _ => none }
def preorderComparesRow : OpenClaim := { program := "ytigibomcaecbdaagreat", sum := "e74a0cd33a6e244d52c57865fb5d646729957ec1ecd7efeba66e6a74e9e536ff", func := "salchow/salchowlaw05.PreorderCompares", spec := "preorderCompares", inPlace := ["math/bits.Sub64"], unfollowed := true, recurses := true, plainKeys := false, apart := false }
def PreorderComparesSaid : Prop := preorderComparesRow.holds Tryz.pinned (OpenSpec.ofChange preorderComparesSpec)

/-- ITS FALSE NEIGHBOUR: 'it returns false'. Refute it at one input. -/
def preorderComparesWrong : ChangeSpec := { name := "preorderCompares", fn := fun _ => fun
  | [d1, d2] => { results := [.lit (.bool false)], args := [d1, d2] }
  | _ => none }
def PreorderComparesWrongFalsely : Prop := preorderComparesRow.holds Tryz.pinned (OpenSpec.ofChange preorderComparesWrong)

/-- 'salchowlaw05.PreorderPlaces': WHATEVER THE INPUT: true; the input reads as it did. -/
def preorderPlacesSpec : ChangeSpec := { name := "preorderPlaces", fn := fun _ => fun
  | [d] => { results := [.lit (.bool true)], args := [d] }
  | _ => none }
def preorderPlacesRow : OpenClaim := { program := "ytigibomcaecbdaagreat", sum := "e74a0cd33a6e244d52c57865fb5d646729957ec1ecd7efeba66e6a74e9e536ff", func := "salchow/salchowlaw05.PreorderPlaces", spec := "preorderPlaces", inPlace := ["math/bits.Sub64"], unfollowed := true, recurses := true, plainKeys := false, apart := false }
def PreorderPlacesSaid : Prop := preorderPlacesRow.holds Tryz.pinned (OpenSpec.ofChange preorderPlacesSpec)

/-- ITS FALSE NEIGHBOUR: 'it returns false'. Refute it at one input. -/
def preorderPlacesWrong : ChangeSpec := { name := "preorderPlaces", fn := fun _ => fun
  | [d] => { results := [.lit (.bool false)], args := [d] }
  | _ => none }
def PreorderPlacesWrongFalsely : Prop := preorderPlacesRow.holds Tryz.pinned (OpenSpec.ofChange preorderPlacesWrong)

/-- 'salchowlaw05.PreorderOrder': WHATEVER THE INPUT: true; the input reads as it did. -/
def preorderOrderSpec : ChangeSpec := { name := "preorderOrder", fn := fun _ => fun
  | [d] => { results := [.lit (.bool true)], args := [d] }
  | _ => none }
def preorderOrderRow : OpenClaim := { program := "ytigibomcaecbdaagreat", sum := "e74a0cd33a6e244d52c57865fb5d646729957ec1ecd7efeba66e6a74e9e536ff", func := "salchow/salchowlaw05.PreorderOrder", spec := "preorderOrder", unfollowed := true, recurses := true, plainKeys := false, apart := false }
def PreorderOrderSaid : Prop := preorderOrderRow.holds Tryz.pinned (OpenSpec.ofChange preorderOrderSpec)

/-- ITS FALSE NEIGHBOUR: 'it returns false'. Refute it at one input. -/
def preorderOrderWrong : ChangeSpec := { name := "preorderOrder", fn := fun _ => fun
  | [d] => { results := [.lit (.bool false)], args := [d] }
  | _ => none }
def PreorderOrderWrongFalsely : Prop := preorderOrderRow.holds Tryz.pinned (OpenSpec.ofChange preorderOrderWrong)

/-- 'salchowlaw05.PreorderGroups': WHATEVER THE INPUT: true; the input reads as it did. -/
def preorderGroupsSpec : ChangeSpec := { name := "preorderGroups", fn := fun _ => fun
  | [d] => { results := [.lit (.bool true)], args := [d] }
  | _ => none }
def preorderGroupsRow : OpenClaim := { program := "ytigibomcaecbdaagreat", sum := "e74a0cd33a6e244d52c57865fb5d646729957ec1ecd7efeba66e6a74e9e536ff", func := "salchow/salchowlaw05.PreorderGroups", spec := "preorderGroups", unfollowed := true, recurses := true, plainKeys := false, apart := false }
def PreorderGroupsSaid : Prop := preorderGroupsRow.holds Tryz.pinned (OpenSpec.ofChange preorderGroupsSpec)

/-- ITS FALSE NEIGHBOUR: 'it returns false'. Refute it at one input. -/
def preorderGroupsWrong : ChangeSpec := { name := "preorderGroups", fn := fun _ => fun
  | [d] => { results := [.lit (.bool false)], args := [d] }
  | _ => none }
def PreorderGroupsWrongFalsely : Prop := preorderGroupsRow.holds Tryz.pinned (OpenSpec.ofChange preorderGroupsWrong)

/-- 'salchowlaw05.PreorderRanking': WHATEVER THE INPUT: true; the input reads as it did. -/
def preorderRankingSpec : ChangeSpec := { name := "preorderRanking", fn := fun _ => fun
  | [d] => { results := [.lit (.bool true)], args := [d] }
  | _ => none }
def preorderRankingRow : OpenClaim := { program := "ytigibomcaecbdaagreat", sum := "e74a0cd33a6e244d52c57865fb5d646729957ec1ecd7efeba66e6a74e9e536ff", func := "salchow/salchowlaw05.PreorderRanking", spec := "preorderRanking", unfollowed := true, recurses := true, plainKeys := false, apart := false }
def PreorderRankingSaid : Prop := preorderRankingRow.holds Tryz.pinned (OpenSpec.ofChange preorderRankingSpec)

/-- ITS FALSE NEIGHBOUR: 'it returns false'. Refute it at one input. -/
def preorderRankingWrong : ChangeSpec := { name := "preorderRanking", fn := fun _ => fun
  | [d] => { results := [.lit (.bool false)], args := [d] }
  | _ => none }
def PreorderRankingWrongFalsely : Prop := preorderRankingRow.holds Tryz.pinned (OpenSpec.ofChange preorderRankingWrong)

/-- 'salchowlaw05.PreorderRefine': WHATEVER THE INPUT: true; the input reads as it did. -/
def preorderRefineSpec : ChangeSpec := { name := "preorderRefine", fn := fun _ => fun
  | [d1, d2] => { results := [.lit (.bool true)], args := [d1, d2] }
  | _ => none }
def preorderRefineRow : OpenClaim := { program := "ytigibomcaecbdaagreat", sum := "e74a0cd33a6e244d52c57865fb5d646729957ec1ecd7efeba66e6a74e9e536ff", func := "salchow/salchowlaw05.PreorderRefine", spec := "preorderRefine", unfollowed := true, recurses := true, plainKeys := false, apart := false }
def PreorderRefineSaid : Prop := preorderRefineRow.holds Tryz.pinned (OpenSpec.ofChange preorderRefineSpec)

/-- ITS FALSE NEIGHBOUR: 'it returns false'. Refute it at one input. -/
def preorderRefineWrong : ChangeSpec := { name := "preorderRefine", fn := fun _ => fun
  | [d1, d2] => { results := [.lit (.bool false)], args := [d1, d2] }
  | _ => none }
def PreorderRefineWrongFalsely : Prop := preorderRefineRow.holds Tryz.pinned (OpenSpec.ofChange preorderRefineWrong)

/-- 'salchowlaw05.PreorderRefines': WHATEVER THE INPUT: true; the input reads as it did. -/
def preorderRefinesSpec : ChangeSpec := { name := "preorderRefines", fn := fun _ => fun
  | [d1, d2] => { results := [.lit (.bool true)], args := [d1, d2] }
  | _ => none }
def preorderRefinesRow : OpenClaim := { program := "ytigibomcaecbdaagreat", sum := "e74a0cd33a6e244d52c57865fb5d646729957ec1ecd7efeba66e6a74e9e536ff", func := "salchow/salchowlaw05.PreorderRefines", spec := "preorderRefines", inPlace := ["math/bits.Sub64"], unfollowed := true, recurses := true, plainKeys := false, apart := false }
def PreorderRefinesSaid : Prop := preorderRefinesRow.holds Tryz.pinned (OpenSpec.ofChange preorderRefinesSpec)

/-- ITS FALSE NEIGHBOUR: 'it returns false'. Refute it at one input. -/
def preorderRefinesWrong : ChangeSpec := { name := "preorderRefines", fn := fun _ => fun
  | [d1, d2] => { results := [.lit (.bool false)], args := [d1, d2] }
  | _ => none }
def PreorderRefinesWrongFalsely : Prop := preorderRefinesRow.holds Tryz.pinned (OpenSpec.ofChange preorderRefinesWrong)

/-- 'salchowlaw05.PreorderInversions': WHATEVER THE INPUT: true; the input reads as it did. -/
def preorderInversionsSpec : ChangeSpec := { name := "preorderInversions", fn := fun _ => fun
  | [d1, d2, d3] => { results := [.lit (.bool true)], args := [d1, d2, d3] }
  | _ => none }
def preorderInversionsRow : OpenClaim := { program := "ytigibomcaecbdaagreat", sum := "e74a0cd33a6e244d52c57865fb5d646729957ec1ecd7efeba66e6a74e9e536ff", func := "salchow/salchowlaw05.PreorderInversions", spec := "preorderInversions", unfollowed := true, recurses := true, plainKeys := false, apart := false }
def PreorderInversionsSaid : Prop := preorderInversionsRow.holds Tryz.pinned (OpenSpec.ofChange preorderInversionsSpec)

/-- ITS FALSE NEIGHBOUR: 'it returns false'. Refute it at one input. -/
def preorderInversionsWrong : ChangeSpec := { name := "preorderInversions", fn := fun _ => fun
  | [d1, d2, d3] => { results := [.lit (.bool false)], args := [d1, d2, d3] }
  | _ => none }
def PreorderInversionsWrongFalsely : Prop := preorderInversionsRow.holds Tryz.pinned (OpenSpec.ofChange preorderInversionsWrong)

/-- 'salchowlaw05.PreorderAgreed': WHATEVER THE INPUT: true; the input reads as it did. -/
def preorderAgreedSpec : ChangeSpec := { name := "preorderAgreed", fn := fun _ => fun
  | [d] => { results := [.lit (.bool true)], args := [d] }
  | _ => none }
def preorderAgreedRow : OpenClaim := { program := "ytigibomcaecbdaagreat", sum := "e74a0cd33a6e244d52c57865fb5d646729957ec1ecd7efeba66e6a74e9e536ff", func := "salchow/salchowlaw05.PreorderAgreed", spec := "preorderAgreed", unfollowed := true, recurses := true, plainKeys := false, apart := false }
def PreorderAgreedSaid : Prop := preorderAgreedRow.holds Tryz.pinned (OpenSpec.ofChange preorderAgreedSpec)

/-- ITS FALSE NEIGHBOUR: 'it returns false'. Refute it at one input. -/
def preorderAgreedWrong : ChangeSpec := { name := "preorderAgreed", fn := fun _ => fun
  | [d] => { results := [.lit (.bool false)], args := [d] }
  | _ => none }
def PreorderAgreedWrongFalsely : Prop := preorderAgreedRow.holds Tryz.pinned (OpenSpec.ofChange preorderAgreedWrong)

/-- 'salchowlaw05.PreorderMedian': WHATEVER THE INPUT: true; the input reads as it did. -/
def preorderMedianSpec : ChangeSpec := { name := "preorderMedian", fn := fun _ => fun
  | [d] => { results := [.lit (.bool true)], args := [d] }
  | _ => none }
def preorderMedianRow : OpenClaim := { program := "ytigibomcaecbdaagreat", sum := "e74a0cd33a6e244d52c57865fb5d646729957ec1ecd7efeba66e6a74e9e536ff", func := "salchow/salchowlaw05.PreorderMedian", spec := "preorderMedian", unfollowed := true, recurses := true, plainKeys := false, apart := false }
def PreorderMedianSaid : Prop := preorderMedianRow.holds Tryz.pinned (OpenSpec.ofChange preorderMedianSpec)

/-- ITS FALSE NEIGHBOUR: 'it returns false'. Refute it at one input. -/
def preorderMedianWrong : ChangeSpec := { name := "preorderMedian", fn := fun _ => fun
  | [d] => { results := [.lit (.bool false)], args := [d] }
  | _ => none }
def PreorderMedianWrongFalsely : Prop := preorderMedianRow.holds Tryz.pinned (OpenSpec.ofChange preorderMedianWrong)

/-- 'salchowlaw05.PreorderRenames': WHATEVER THE INPUT: true; the input reads as it did. -/
def preorderRenamesSpec : ChangeSpec := { name := "preorderRenames", fn := fun _ => fun
  | [d1, d2, d3] => { results := [.lit (.bool true)], args := [d1, d2, d3] }
  | _ => none }
def preorderRenamesRow : OpenClaim := { program := "ytigibomcaecbdaagreat", sum := "e74a0cd33a6e244d52c57865fb5d646729957ec1ecd7efeba66e6a74e9e536ff", func := "salchow/salchowlaw05.PreorderRenames", spec := "preorderRenames", unfollowed := true, recurses := true, plainKeys := false, apart := false }
def PreorderRenamesSaid : Prop := preorderRenamesRow.holds Tryz.pinned (OpenSpec.ofChange preorderRenamesSpec)

/-- ITS FALSE NEIGHBOUR: 'it returns false'. Refute it at one input. -/
def preorderRenamesWrong : ChangeSpec := { name := "preorderRenames", fn := fun _ => fun
  | [d1, d2, d3] => { results := [.lit (.bool false)], args := [d1, d2, d3] }
  | _ => none }
def PreorderRenamesWrongFalsely : Prop := preorderRenamesRow.holds Tryz.pinned (OpenSpec.ofChange preorderRenamesWrong)

/- THE SECOND FORM. 'bulk': how many values and letters a reading holds, each counted each time it is reached (what is shared counts as often as it is met; a slice's spare places count too). A statement '..UptoSaid' is the law's where the arguments, and the package variables that the reading takes, are together of bulk at most 1048576: NARROWER than '..Said'. Prove '..Said' where nothing that the law and all that it calls make is longer than what came in: it says more and counts as full. Else prove '..UptoSaid'. A law counts once. -/
mutual
def uptoBulk {H : Type} : DataW H → Nat
  | .lit (.string bytes) => bytes.length + 1
  | .lit _ => 1
  | .nil => 1
  | .ptr d => uptoBulk d + 1
  | .slice elems spare => uptoBulkAll elems + uptoBulkAll spare + 1
  | .agg parts => uptoBulkAll parts + 1
  | .iface _ d => uptoBulk d + 1
  | .map entries => uptoBulkEntries entries + 1
  | .held _ => 1
def uptoBulkAll {H : Type} : List (DataW H) → Nat
  | [] => 0
  | d :: r => uptoBulk d + uptoBulkAll r
def uptoBulkEntries {H : Type} : List (Lit × DataW H) → Nat
  | [] => 0
  | x :: r => uptoBulkEntry x + uptoBulkEntries r
def uptoBulkEntry {H : Type} : Lit × DataW H → Nat
  | (.string bytes, d) => bytes.length + uptoBulk d + 1
  | (_, d) => uptoBulk d + 1
 end
def uptoSmall : (H : Type) → List (DataW H) → Bool := fun _ ds => decide (uptoBulkAll ds ≤ 1048576)
def OpenSpec.upto (s : _root_.Go.ChangeSpec) : _root_.Go.OpenSpec := { _root_.Go.OpenSpec.ofChange s with cond := some uptoSmall }

/-- 'salchowlaw05.PreorderCompares', WHERE WHAT IT READS IS OF BULK AT MOST 1048576: true; the input reads as it did. -/
def preorderComparesUptoRow : OpenClaim := { program := "ytigibomcaecbdaagreat", sum := "e74a0cd33a6e244d52c57865fb5d646729957ec1ecd7efeba66e6a74e9e536ff", func := "salchow/salchowlaw05.PreorderCompares", spec := "preorderCompares", inPlace := ["math/bits.Sub64"], unfollowed := true, recurses := true, plainKeys := false, apart := false, narrowed := true }
def PreorderComparesUptoSaid : Prop := preorderComparesUptoRow.holds Tryz.pinned (OpenSpec.upto preorderComparesSpec)

/-- 'salchowlaw05.PreorderPlaces', WHERE WHAT IT READS IS OF BULK AT MOST 1048576: true; the input reads as it did. -/
def preorderPlacesUptoRow : OpenClaim := { program := "ytigibomcaecbdaagreat", sum := "e74a0cd33a6e244d52c57865fb5d646729957ec1ecd7efeba66e6a74e9e536ff", func := "salchow/salchowlaw05.PreorderPlaces", spec := "preorderPlaces", inPlace := ["math/bits.Sub64"], unfollowed := true, recurses := true, plainKeys := false, apart := false, narrowed := true }
def PreorderPlacesUptoSaid : Prop := preorderPlacesUptoRow.holds Tryz.pinned (OpenSpec.upto preorderPlacesSpec)

/-- 'salchowlaw05.PreorderOrder', WHERE WHAT IT READS IS OF BULK AT MOST 1048576: true; the input reads as it did. -/
def preorderOrderUptoRow : OpenClaim := { program := "ytigibomcaecbdaagreat", sum := "e74a0cd33a6e244d52c57865fb5d646729957ec1ecd7efeba66e6a74e9e536ff", func := "salchow/salchowlaw05.PreorderOrder", spec := "preorderOrder", unfollowed := true, recurses := true, plainKeys := false, apart := false, narrowed := true }
def PreorderOrderUptoSaid : Prop := preorderOrderUptoRow.holds Tryz.pinned (OpenSpec.upto preorderOrderSpec)

/-- 'salchowlaw05.PreorderGroups', WHERE WHAT IT READS IS OF BULK AT MOST 1048576: true; the input reads as it did. -/
def preorderGroupsUptoRow : OpenClaim := { program := "ytigibomcaecbdaagreat", sum := "e74a0cd33a6e244d52c57865fb5d646729957ec1ecd7efeba66e6a74e9e536ff", func := "salchow/salchowlaw05.PreorderGroups", spec := "preorderGroups", unfollowed := true, recurses := true, plainKeys := false, apart := false, narrowed := true }
def PreorderGroupsUptoSaid : Prop := preorderGroupsUptoRow.holds Tryz.pinned (OpenSpec.upto preorderGroupsSpec)

/-- 'salchowlaw05.PreorderRanking', WHERE WHAT IT READS IS OF BULK AT MOST 1048576: true; the input reads as it did. -/
def preorderRankingUptoRow : OpenClaim := { program := "ytigibomcaecbdaagreat", sum := "e74a0cd33a6e244d52c57865fb5d646729957ec1ecd7efeba66e6a74e9e536ff", func := "salchow/salchowlaw05.PreorderRanking", spec := "preorderRanking", unfollowed := true, recurses := true, plainKeys := false, apart := false, narrowed := true }
def PreorderRankingUptoSaid : Prop := preorderRankingUptoRow.holds Tryz.pinned (OpenSpec.upto preorderRankingSpec)

/-- 'salchowlaw05.PreorderRefine', WHERE WHAT IT READS IS OF BULK AT MOST 1048576: true; the input reads as it did. -/
def preorderRefineUptoRow : OpenClaim := { program := "ytigibomcaecbdaagreat", sum := "e74a0cd33a6e244d52c57865fb5d646729957ec1ecd7efeba66e6a74e9e536ff", func := "salchow/salchowlaw05.PreorderRefine", spec := "preorderRefine", unfollowed := true, recurses := true, plainKeys := false, apart := false, narrowed := true }
def PreorderRefineUptoSaid : Prop := preorderRefineUptoRow.holds Tryz.pinned (OpenSpec.upto preorderRefineSpec)

/-- 'salchowlaw05.PreorderRefines', WHERE WHAT IT READS IS OF BULK AT MOST 1048576: true; the input reads as it did. -/
def preorderRefinesUptoRow : OpenClaim := { program := "ytigibomcaecbdaagreat", sum := "e74a0cd33a6e244d52c57865fb5d646729957ec1ecd7efeba66e6a74e9e536ff", func := "salchow/salchowlaw05.PreorderRefines", spec := "preorderRefines", inPlace := ["math/bits.Sub64"], unfollowed := true, recurses := true, plainKeys := false, apart := false, narrowed := true }
def PreorderRefinesUptoSaid : Prop := preorderRefinesUptoRow.holds Tryz.pinned (OpenSpec.upto preorderRefinesSpec)

/-- 'salchowlaw05.PreorderInversions', WHERE WHAT IT READS IS OF BULK AT MOST 1048576: true; the input reads as it did. -/
def preorderInversionsUptoRow : OpenClaim := { program := "ytigibomcaecbdaagreat", sum := "e74a0cd33a6e244d52c57865fb5d646729957ec1ecd7efeba66e6a74e9e536ff", func := "salchow/salchowlaw05.PreorderInversions", spec := "preorderInversions", unfollowed := true, recurses := true, plainKeys := false, apart := false, narrowed := true }
def PreorderInversionsUptoSaid : Prop := preorderInversionsUptoRow.holds Tryz.pinned (OpenSpec.upto preorderInversionsSpec)

/-- 'salchowlaw05.PreorderAgreed', WHERE WHAT IT READS IS OF BULK AT MOST 1048576: true; the input reads as it did. -/
def preorderAgreedUptoRow : OpenClaim := { program := "ytigibomcaecbdaagreat", sum := "e74a0cd33a6e244d52c57865fb5d646729957ec1ecd7efeba66e6a74e9e536ff", func := "salchow/salchowlaw05.PreorderAgreed", spec := "preorderAgreed", unfollowed := true, recurses := true, plainKeys := false, apart := false, narrowed := true }
def PreorderAgreedUptoSaid : Prop := preorderAgreedUptoRow.holds Tryz.pinned (OpenSpec.upto preorderAgreedSpec)

/-- 'salchowlaw05.PreorderMedian', WHERE WHAT IT READS IS OF BULK AT MOST 1048576: true; the input reads as it did. -/
def preorderMedianUptoRow : OpenClaim := { program := "ytigibomcaecbdaagreat", sum := "e74a0cd33a6e244d52c57865fb5d646729957ec1ecd7efeba66e6a74e9e536ff", func := "salchow/salchowlaw05.PreorderMedian", spec := "preorderMedian", unfollowed := true, recurses := true, plainKeys := false, apart := false, narrowed := true }
def PreorderMedianUptoSaid : Prop := preorderMedianUptoRow.holds Tryz.pinned (OpenSpec.upto preorderMedianSpec)

/-- 'salchowlaw05.PreorderRenames', WHERE WHAT IT READS IS OF BULK AT MOST 1048576: true; the input reads as it did. -/
def preorderRenamesUptoRow : OpenClaim := { program := "ytigibomcaecbdaagreat", sum := "e74a0cd33a6e244d52c57865fb5d646729957ec1ecd7efeba66e6a74e9e536ff", func := "salchow/salchowlaw05.PreorderRenames", spec := "preorderRenames", unfollowed := true, recurses := true, plainKeys := false, apart := false, narrowed := true }
def PreorderRenamesUptoSaid : Prop := preorderRenamesUptoRow.holds Tryz.pinned (OpenSpec.upto preorderRenamesSpec)

end Rows
end Go.Proofs.YtigibomcaecbdaaGreat
