/-
  No cell of these rows narrows 'for every input' (looked for: loops, veiled, ifaces, maps, wideKeys, modest, calm, conditions, laid).
  DERIVED. THE GIVEN ROWS OF THIS SEAT. 7 by the template 'for every input the law returns true; each argument reads behind the call as it read before'; 0 by the template 'total and deterministic' (their statements: YtljeialaefmbmaaTotals.lean).
  GIVEN WITH THE SEED: the statements are not yours to turn. If you find one false, say at which input.
  Laid BY PROGRAM, IN A SANDBOX (cutbox-rows.mjs): the forced cells as the released guide's own fill.sh prints them over the translation dc303598c3429b6d… (all of the seat's roots in one cut). By AI agents, Wed Nov 11 2026. No macro, syntax, notation, axiom, sorry.
-/
import Derived.Test.YtljeialaefmbmaaChecked
import GoSem.Claim
import GoSem.ClaimJoined
import GoSem.ClaimMapViews
import Derived.JoinedTies
import Derived.KernelRfl
namespace Go.Proofs.Ytljeialaefmbmaa
/- THE CELL 'sum', in the pinned program and in every row, IS THE sha256 OF THE DUMP (.gsa) THAT YtljeialaefmbmaaProg.lean LOADS. Nothing in Lean hashes anything: it is a label: what it is worth is what the hold of that sum in a sandbox is worth. -/
noncomputable def Try.pinned : Pinned := { name := "ytljeialaefmbmaa", sum := "dc303598c3429b6de429adced88a64923f7574b1ac9194d37ff5d6c7b33ca040", checked := Try.checked }
namespace Rows
def none {H : Type} : Left H := { results := [], args := [] }

/-- 'salchowlaw02.EncodeReads': WHATEVER THE INPUT: true; the input reads as it did. -/
def encodeReadsSpec : ChangeSpec := { name := "encodeReads", fn := fun _ => fun
  | [d] => { results := [.lit (.bool true)], args := [d] }
  | _ => none }
def encodeReadsRow : OpenClaim := { program := "ytljeialaefmbmaa", sum := "dc303598c3429b6de429adced88a64923f7574b1ac9194d37ff5d6c7b33ca040", func := "salchow/salchowlaw02.EncodeReads", spec := "encodeReads", inPlace := ["internal/bytealg.MakeNoZero"], apart := false }
def EncodeReadsSaid : Prop := encodeReadsRow.holds Try.pinned (OpenSpec.ofChange encodeReadsSpec)

/-- ITS FALSE NEIGHBOUR: 'it returns false'. Refute it at one input. -/
def encodeReadsWrong : ChangeSpec := { name := "encodeReads", fn := fun _ => fun
  | [d] => { results := [.lit (.bool false)], args := [d] }
  | _ => none }
def EncodeReadsWrongFalsely : Prop := encodeReadsRow.holds Try.pinned (OpenSpec.ofChange encodeReadsWrong)

/-- 'salchowlaw02.EncodeRaw': WHATEVER THE INPUT: true; the input reads as it did. -/
def encodeRawSpec : ChangeSpec := { name := "encodeRaw", fn := fun _ => fun
  | [d1, d2] => { results := [.lit (.bool true)], args := [d1, d2] }
  | _ => none }
def encodeRawRow : OpenClaim := { program := "ytljeialaefmbmaa", sum := "dc303598c3429b6de429adced88a64923f7574b1ac9194d37ff5d6c7b33ca040", func := "salchow/salchowlaw02.EncodeRaw", spec := "encodeRaw", inPlace := ["internal/bytealg.MakeNoZero"], apart := false }
def EncodeRawSaid : Prop := encodeRawRow.holds Try.pinned (OpenSpec.ofChange encodeRawSpec)

/-- ITS FALSE NEIGHBOUR: 'it returns false'. Refute it at one input. -/
def encodeRawWrong : ChangeSpec := { name := "encodeRaw", fn := fun _ => fun
  | [d1, d2] => { results := [.lit (.bool false)], args := [d1, d2] }
  | _ => none }
def EncodeRawWrongFalsely : Prop := encodeRawRow.holds Try.pinned (OpenSpec.ofChange encodeRawWrong)

/-- 'salchowlaw02.EncodeSkips': WHATEVER THE INPUT: true; the input reads as it did. -/
def encodeSkipsSpec : ChangeSpec := { name := "encodeSkips", fn := fun _ => fun
  | [d1, d2] => { results := [.lit (.bool true)], args := [d1, d2] }
  | _ => none }
def encodeSkipsRow : OpenClaim := { program := "ytljeialaefmbmaa", sum := "dc303598c3429b6de429adced88a64923f7574b1ac9194d37ff5d6c7b33ca040", func := "salchow/salchowlaw02.EncodeSkips", spec := "encodeSkips", inPlace := ["internal/bytealg.MakeNoZero"], recurses := true, apart := false }
def EncodeSkipsSaid : Prop := encodeSkipsRow.holds Try.pinned (OpenSpec.ofChange encodeSkipsSpec)

/-- ITS FALSE NEIGHBOUR: 'it returns false'. Refute it at one input. -/
def encodeSkipsWrong : ChangeSpec := { name := "encodeSkips", fn := fun _ => fun
  | [d1, d2] => { results := [.lit (.bool false)], args := [d1, d2] }
  | _ => none }
def EncodeSkipsWrongFalsely : Prop := encodeSkipsRow.holds Try.pinned (OpenSpec.ofChange encodeSkipsWrong)

/-- 'salchowlaw02.EncodeCanonical': WHATEVER THE INPUT: true; the input reads as it did. -/
def encodeCanonicalSpec : ChangeSpec := { name := "encodeCanonical", fn := fun _ => fun
  | [d] => { results := [.lit (.bool true)], args := [d] }
  | _ => none }
def encodeCanonicalRow : OpenClaim := { program := "ytljeialaefmbmaa", sum := "dc303598c3429b6de429adced88a64923f7574b1ac9194d37ff5d6c7b33ca040", func := "salchow/salchowlaw02.EncodeCanonical", spec := "encodeCanonical", inPlace := ["internal/bytealg.MakeNoZero"], recurses := true, apart := false }
def EncodeCanonicalSaid : Prop := encodeCanonicalRow.holds Try.pinned (OpenSpec.ofChange encodeCanonicalSpec)

/-- ITS FALSE NEIGHBOUR: 'it returns false'. Refute it at one input. -/
def encodeCanonicalWrong : ChangeSpec := { name := "encodeCanonical", fn := fun _ => fun
  | [d] => { results := [.lit (.bool false)], args := [d] }
  | _ => none }
def EncodeCanonicalWrongFalsely : Prop := encodeCanonicalRow.holds Try.pinned (OpenSpec.ofChange encodeCanonicalWrong)

/-- 'salchowlaw02.EncodePrefix': WHATEVER THE INPUT: true; the input reads as it did. -/
def encodePrefixSpec : ChangeSpec := { name := "encodePrefix", fn := fun _ => fun
  | [d1, d2] => { results := [.lit (.bool true)], args := [d1, d2] }
  | _ => none }
def encodePrefixRow : OpenClaim := { program := "ytljeialaefmbmaa", sum := "dc303598c3429b6de429adced88a64923f7574b1ac9194d37ff5d6c7b33ca040", func := "salchow/salchowlaw02.EncodePrefix", spec := "encodePrefix", inPlace := ["internal/bytealg.MakeNoZero"], apart := false }
def EncodePrefixSaid : Prop := encodePrefixRow.holds Try.pinned (OpenSpec.ofChange encodePrefixSpec)

/-- ITS FALSE NEIGHBOUR: 'it returns false'. Refute it at one input. -/
def encodePrefixWrong : ChangeSpec := { name := "encodePrefix", fn := fun _ => fun
  | [d1, d2] => { results := [.lit (.bool false)], args := [d1, d2] }
  | _ => none }
def EncodePrefixWrongFalsely : Prop := encodePrefixRow.holds Try.pinned (OpenSpec.ofChange encodePrefixWrong)

/-- 'salchowlaw02.EncodeSplits': WHATEVER THE INPUT: true; the input reads as it did. -/
def encodeSplitsSpec : ChangeSpec := { name := "encodeSplits", fn := fun _ => fun
  | [d] => { results := [.lit (.bool true)], args := [d] }
  | _ => none }
def encodeSplitsRow : OpenClaim := { program := "ytljeialaefmbmaa", sum := "dc303598c3429b6de429adced88a64923f7574b1ac9194d37ff5d6c7b33ca040", func := "salchow/salchowlaw02.EncodeSplits", spec := "encodeSplits", inPlace := ["internal/bytealg.MakeNoZero"], apart := false }
def EncodeSplitsSaid : Prop := encodeSplitsRow.holds Try.pinned (OpenSpec.ofChange encodeSplitsSpec)

/-- ITS FALSE NEIGHBOUR: 'it returns false'. Refute it at one input. -/
def encodeSplitsWrong : ChangeSpec := { name := "encodeSplits", fn := fun _ => fun
  | [d] => { results := [.lit (.bool false)], args := [d] }
  | _ => none }
def EncodeSplitsWrongFalsely : Prop := encodeSplitsRow.holds Try.pinned (OpenSpec.ofChange encodeSplitsWrong)

/-- 'salchowlaw02.EncodeConcats': WHATEVER THE INPUT: true; the input reads as it did. -/
def encodeConcatsSpec : ChangeSpec := { name := "encodeConcats", fn := fun _ => fun
  | [d] => { results := [.lit (.bool true)], args := [d] }
  | _ => none }
def encodeConcatsRow : OpenClaim := { program := "ytljeialaefmbmaa", sum := "dc303598c3429b6de429adced88a64923f7574b1ac9194d37ff5d6c7b33ca040", func := "salchow/salchowlaw02.EncodeConcats", spec := "encodeConcats", inPlace := ["internal/bytealg.MakeNoZero"], apart := false }
def EncodeConcatsSaid : Prop := encodeConcatsRow.holds Try.pinned (OpenSpec.ofChange encodeConcatsSpec)

/-- ITS FALSE NEIGHBOUR: 'it returns false'. Refute it at one input. -/
def encodeConcatsWrong : ChangeSpec := { name := "encodeConcats", fn := fun _ => fun
  | [d] => { results := [.lit (.bool false)], args := [d] }
  | _ => none }
def EncodeConcatsWrongFalsely : Prop := encodeConcatsRow.holds Try.pinned (OpenSpec.ofChange encodeConcatsWrong)

/- THE SECOND FORM. 'bulk': how many values and letters a reading holds, each counted each time it is reached (what is shared counts as often as it is met; a slice's spare places count too). A statement '..UptoSaid' is the law's where the arguments, and the package variables that the reading takes, are together of bulk at most 1048576: NARROWER than '..Said'. Prove '..Said' where nothing that the law and all that it calls make is longer than what came in: it says more and counts as full. Else prove '..UptoSaid'. A law counts once. -/
mutual
def uptoBulk {H : Type} : DataW H → Nat
  | .lit (.string bytes) => bytes.length + 1
  | .lit _ => 1
  | .nil => 1
  | .ptr d => uptoBulk d + 1
  | .slice elems spare => uptoBulkAll elems + uptoBulkAll spare + 1
  | .agg parts => uptoBulkAll parts + 1
  | .iface _ d => uptoBulk d + 1
  | .map entries => uptoBulkEntries entries + 1
  | .held _ => 1
def uptoBulkAll {H : Type} : List (DataW H) → Nat
  | [] => 0
  | d :: r => uptoBulk d + uptoBulkAll r
def uptoBulkEntries {H : Type} : List (Lit × DataW H) → Nat
  | [] => 0
  | x :: r => uptoBulkEntry x + uptoBulkEntries r
def uptoBulkEntry {H : Type} : Lit × DataW H → Nat
  | (.string bytes, d) => bytes.length + uptoBulk d + 1
  | (_, d) => uptoBulk d + 1
 end
def uptoSmall : (H : Type) → List (DataW H) → Bool := fun _ ds => decide (uptoBulkAll ds ≤ 1048576)
def OpenSpec.upto (s : _root_.Go.ChangeSpec) : _root_.Go.OpenSpec := { _root_.Go.OpenSpec.ofChange s with cond := some uptoSmall }

/-- 'salchowlaw02.EncodeReads', WHERE WHAT IT READS IS OF BULK AT MOST 1048576: true; the input reads as it did. -/
def encodeReadsUptoRow : OpenClaim := { program := "ytljeialaefmbmaa", sum := "dc303598c3429b6de429adced88a64923f7574b1ac9194d37ff5d6c7b33ca040", func := "salchow/salchowlaw02.EncodeReads", spec := "encodeReads", inPlace := ["internal/bytealg.MakeNoZero"], apart := false, narrowed := true }
def EncodeReadsUptoSaid : Prop := encodeReadsUptoRow.holds Try.pinned (OpenSpec.upto encodeReadsSpec)

/-- 'salchowlaw02.EncodeRaw', WHERE WHAT IT READS IS OF BULK AT MOST 1048576: true; the input reads as it did. -/
def encodeRawUptoRow : OpenClaim := { program := "ytljeialaefmbmaa", sum := "dc303598c3429b6de429adced88a64923f7574b1ac9194d37ff5d6c7b33ca040", func := "salchow/salchowlaw02.EncodeRaw", spec := "encodeRaw", inPlace := ["internal/bytealg.MakeNoZero"], apart := false, narrowed := true }
def EncodeRawUptoSaid : Prop := encodeRawUptoRow.holds Try.pinned (OpenSpec.upto encodeRawSpec)

/-- 'salchowlaw02.EncodeSkips', WHERE WHAT IT READS IS OF BULK AT MOST 1048576: true; the input reads as it did. -/
def encodeSkipsUptoRow : OpenClaim := { program := "ytljeialaefmbmaa", sum := "dc303598c3429b6de429adced88a64923f7574b1ac9194d37ff5d6c7b33ca040", func := "salchow/salchowlaw02.EncodeSkips", spec := "encodeSkips", inPlace := ["internal/bytealg.MakeNoZero"], recurses := true, apart := false, narrowed := true }
def EncodeSkipsUptoSaid : Prop := encodeSkipsUptoRow.holds Try.pinned (OpenSpec.upto encodeSkipsSpec)

/-- 'salchowlaw02.EncodeCanonical', WHERE WHAT IT READS IS OF BULK AT MOST 1048576: true; the input reads as it did. -/
def encodeCanonicalUptoRow : OpenClaim := { program := "ytljeialaefmbmaa", sum := "dc303598c3429b6de429adced88a64923f7574b1ac9194d37ff5d6c7b33ca040", func := "salchow/salchowlaw02.EncodeCanonical", spec := "encodeCanonical", inPlace := ["internal/bytealg.MakeNoZero"], recurses := true, apart := false, narrowed := true }
def EncodeCanonicalUptoSaid : Prop := encodeCanonicalUptoRow.holds Try.pinned (OpenSpec.upto encodeCanonicalSpec)

/-- 'salchowlaw02.EncodePrefix', WHERE WHAT IT READS IS OF BULK AT MOST 1048576: true; the input reads as it did. -/
def encodePrefixUptoRow : OpenClaim := { program := "ytljeialaefmbmaa", sum := "dc303598c3429b6de429adced88a64923f7574b1ac9194d37ff5d6c7b33ca040", func := "salchow/salchowlaw02.EncodePrefix", spec := "encodePrefix", inPlace := ["internal/bytealg.MakeNoZero"], apart := false, narrowed := true }
def EncodePrefixUptoSaid : Prop := encodePrefixUptoRow.holds Try.pinned (OpenSpec.upto encodePrefixSpec)

/-- 'salchowlaw02.EncodeSplits', WHERE WHAT IT READS IS OF BULK AT MOST 1048576: true; the input reads as it did. -/
def encodeSplitsUptoRow : OpenClaim := { program := "ytljeialaefmbmaa", sum := "dc303598c3429b6de429adced88a64923f7574b1ac9194d37ff5d6c7b33ca040", func := "salchow/salchowlaw02.EncodeSplits", spec := "encodeSplits", inPlace := ["internal/bytealg.MakeNoZero"], apart := false, narrowed := true }
def EncodeSplitsUptoSaid : Prop := encodeSplitsUptoRow.holds Try.pinned (OpenSpec.upto encodeSplitsSpec)

/-- 'salchowlaw02.EncodeConcats', WHERE WHAT IT READS IS OF BULK AT MOST 1048576: true; the input reads as it did. -/
def encodeConcatsUptoRow : OpenClaim := { program := "ytljeialaefmbmaa", sum := "dc303598c3429b6de429adced88a64923f7574b1ac9194d37ff5d6c7b33ca040", func := "salchow/salchowlaw02.EncodeConcats", spec := "encodeConcats", inPlace := ["internal/bytealg.MakeNoZero"], apart := false, narrowed := true }
def EncodeConcatsUptoSaid : Prop := encodeConcatsUptoRow.holds Try.pinned (OpenSpec.upto encodeConcatsSpec)

end Rows
end Go.Proofs.Ytljeialaefmbmaa
