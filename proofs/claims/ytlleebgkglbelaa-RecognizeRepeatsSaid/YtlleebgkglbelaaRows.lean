/-
  No cell of these rows narrows 'for every input' (looked for: loops, veiled, ifaces, maps, wideKeys, modest, calm, conditions, laid).
  DERIVED. THE GIVEN ROWS OF THIS SEAT. 6 by the template 'for every input the law returns true; each argument reads behind the call as it read before'; 0 by the template 'total and deterministic' (their statements: YtlleebgkglbelaaTotals.lean).
  GIVEN WITH THE SEED: the statements are not yours to turn. If you find one false, say at which input.
  Laid BY PROGRAM, IN A SANDBOX (cutbox-rows.mjs): the forced cells as the released guide's own fill.sh prints them over the translation f83b0ad14ce79ebb… (all of the seat's roots in one cut). By AI agents, Wed Nov 11 2026. No macro, syntax, notation, axiom, sorry.
-/
import Derived.Test.YtlleebgkglbelaaChecked
import GoSem.Claim
import GoSem.ClaimJoined
import GoSem.ClaimMapViews
import Derived.JoinedTies
import Derived.KernelRfl
namespace Go.Proofs.Ytlleebgkglbelaa
/- THE CELL 'sum', in the pinned program and in every row, IS THE sha256 OF THE DUMP (.gsa) THAT YtlleebgkglbelaaProg.lean LOADS. Nothing in Lean hashes anything: it is a label: what it is worth is what the hold of that sum in a sandbox is worth. -/
noncomputable def Try.pinned : Pinned := { name := "ytlleebgkglbelaa", sum := "f83b0ad14ce79ebb1bfbb13efd98fa19baa79c4680615055ec1024b1b420e074", checked := Try.checked }
namespace Rows
def none {H : Type} : Left H := { results := [], args := [] }

/-- 'salchowlaw20.RecognizeItems': WHATEVER THE INPUT: true; the input reads as it did. -/
def recognizeItemsSpec : ChangeSpec := { name := "recognizeItems", fn := fun _ => fun
  | [d1, d2] => { results := [.lit (.bool true)], args := [d1, d2] }
  | _ => none }
def recognizeItemsRow : OpenClaim := { program := "ytlleebgkglbelaa", sum := "f83b0ad14ce79ebb1bfbb13efd98fa19baa79c4680615055ec1024b1b420e074", func := "salchow/salchowlaw20.RecognizeItems", spec := "recognizeItems", unfollowed := true, recurses := true, apart := false }
def RecognizeItemsSaid : Prop := recognizeItemsRow.holds Try.pinned (OpenSpec.ofChange recognizeItemsSpec)

/-- ITS FALSE NEIGHBOUR: 'it returns false'. Refute it at one input. -/
def recognizeItemsWrong : ChangeSpec := { name := "recognizeItems", fn := fun _ => fun
  | [d1, d2] => { results := [.lit (.bool false)], args := [d1, d2] }
  | _ => none }
def RecognizeItemsWrongFalsely : Prop := recognizeItemsRow.holds Try.pinned (OpenSpec.ofChange recognizeItemsWrong)

/-- 'salchowlaw20.RecognizeLines': WHATEVER THE INPUT: true; the input reads as it did. -/
def recognizeLinesSpec : ChangeSpec := { name := "recognizeLines", fn := fun _ => fun
  | [d1, d2] => { results := [.lit (.bool true)], args := [d1, d2] }
  | _ => none }
def recognizeLinesRow : OpenClaim := { program := "ytlleebgkglbelaa", sum := "f83b0ad14ce79ebb1bfbb13efd98fa19baa79c4680615055ec1024b1b420e074", func := "salchow/salchowlaw20.RecognizeLines", spec := "recognizeLines", unfollowed := true, recurses := true, apart := false }
def RecognizeLinesSaid : Prop := recognizeLinesRow.holds Try.pinned (OpenSpec.ofChange recognizeLinesSpec)

/-- ITS FALSE NEIGHBOUR: 'it returns false'. Refute it at one input. -/
def recognizeLinesWrong : ChangeSpec := { name := "recognizeLines", fn := fun _ => fun
  | [d1, d2] => { results := [.lit (.bool false)], args := [d1, d2] }
  | _ => none }
def RecognizeLinesWrongFalsely : Prop := recognizeLinesRow.holds Try.pinned (OpenSpec.ofChange recognizeLinesWrong)

/-- 'salchowlaw20.RecognizeSettles': WHATEVER THE INPUT: true; the input reads as it did. -/
def recognizeSettlesSpec : ChangeSpec := { name := "recognizeSettles", fn := fun _ => fun
  | [d1, d2, d3, d4] => { results := [.lit (.bool true)], args := [d1, d2, d3, d4] }
  | _ => none }
def recognizeSettlesRow : OpenClaim := { program := "ytlleebgkglbelaa", sum := "f83b0ad14ce79ebb1bfbb13efd98fa19baa79c4680615055ec1024b1b420e074", func := "salchow/salchowlaw20.RecognizeSettles", spec := "recognizeSettles", unfollowed := true, recurses := true, apart := false }
def RecognizeSettlesSaid : Prop := recognizeSettlesRow.holds Try.pinned (OpenSpec.ofChange recognizeSettlesSpec)

/-- ITS FALSE NEIGHBOUR: 'it returns false'. Refute it at one input. -/
def recognizeSettlesWrong : ChangeSpec := { name := "recognizeSettles", fn := fun _ => fun
  | [d1, d2, d3, d4] => { results := [.lit (.bool false)], args := [d1, d2, d3, d4] }
  | _ => none }
def RecognizeSettlesWrongFalsely : Prop := recognizeSettlesRow.holds Try.pinned (OpenSpec.ofChange recognizeSettlesWrong)

/-- 'salchowlaw20.RecognizeRepeats': WHATEVER THE INPUT: true; the input reads as it did. -/
def recognizeRepeatsSpec : ChangeSpec := { name := "recognizeRepeats", fn := fun _ => fun
  | [d] => { results := [.lit (.bool true)], args := [d] }
  | _ => none }
def recognizeRepeatsRow : OpenClaim := { program := "ytlleebgkglbelaa", sum := "f83b0ad14ce79ebb1bfbb13efd98fa19baa79c4680615055ec1024b1b420e074", func := "salchow/salchowlaw20.RecognizeRepeats", spec := "recognizeRepeats", unfollowed := true, recurses := true, apart := false }
def RecognizeRepeatsSaid : Prop := recognizeRepeatsRow.holds Try.pinned (OpenSpec.ofChange recognizeRepeatsSpec)

/-- ITS FALSE NEIGHBOUR: 'it returns false'. Refute it at one input. -/
def recognizeRepeatsWrong : ChangeSpec := { name := "recognizeRepeats", fn := fun _ => fun
  | [d] => { results := [.lit (.bool false)], args := [d] }
  | _ => none }
def RecognizeRepeatsWrongFalsely : Prop := recognizeRepeatsRow.holds Try.pinned (OpenSpec.ofChange recognizeRepeatsWrong)

/-- 'salchowlaw20.RecognizeLoses': WHATEVER THE INPUT: true; the input reads as it did. -/
def recognizeLosesSpec : ChangeSpec := { name := "recognizeLoses", fn := fun _ => fun
  | [d1, d2] => { results := [.lit (.bool true)], args := [d1, d2] }
  | _ => none }
def recognizeLosesRow : OpenClaim := { program := "ytlleebgkglbelaa", sum := "f83b0ad14ce79ebb1bfbb13efd98fa19baa79c4680615055ec1024b1b420e074", func := "salchow/salchowlaw20.RecognizeLoses", spec := "recognizeLoses", unfollowed := true, recurses := true, apart := false }
def RecognizeLosesSaid : Prop := recognizeLosesRow.holds Try.pinned (OpenSpec.ofChange recognizeLosesSpec)

/-- ITS FALSE NEIGHBOUR: 'it returns false'. Refute it at one input. -/
def recognizeLosesWrong : ChangeSpec := { name := "recognizeLoses", fn := fun _ => fun
  | [d1, d2] => { results := [.lit (.bool false)], args := [d1, d2] }
  | _ => none }
def RecognizeLosesWrongFalsely : Prop := recognizeLosesRow.holds Try.pinned (OpenSpec.ofChange recognizeLosesWrong)

/-- 'salchowlaw20.RecognizeReviews': WHATEVER THE INPUT: true; the input reads as it did. -/
def recognizeReviewsSpec : ChangeSpec := { name := "recognizeReviews", fn := fun _ => fun
  | [d1, d2, d3, d4, d5] => { results := [.lit (.bool true)], args := [d1, d2, d3, d4, d5] }
  | _ => none }
def recognizeReviewsRow : OpenClaim := { program := "ytlleebgkglbelaa", sum := "f83b0ad14ce79ebb1bfbb13efd98fa19baa79c4680615055ec1024b1b420e074", func := "salchow/salchowlaw20.RecognizeReviews", spec := "recognizeReviews", unfollowed := true, recurses := true, apart := false }
def RecognizeReviewsSaid : Prop := recognizeReviewsRow.holds Try.pinned (OpenSpec.ofChange recognizeReviewsSpec)

/-- ITS FALSE NEIGHBOUR: 'it returns false'. Refute it at one input. -/
def recognizeReviewsWrong : ChangeSpec := { name := "recognizeReviews", fn := fun _ => fun
  | [d1, d2, d3, d4, d5] => { results := [.lit (.bool false)], args := [d1, d2, d3, d4, d5] }
  | _ => none }
def RecognizeReviewsWrongFalsely : Prop := recognizeReviewsRow.holds Try.pinned (OpenSpec.ofChange recognizeReviewsWrong)

/- THE SECOND FORM. 'bulk': how many values and letters a reading holds, each counted each time it is reached (what is shared counts as often as it is met; a slice's spare places count too). A statement '..UptoSaid' is the law's where the arguments, and the package variables that the reading takes, are together of bulk at most 1048576: NARROWER than '..Said'. Prove '..Said' where nothing that the law and all that it calls make is longer than what came in: it says more and counts as full. Else prove '..UptoSaid'. A law counts once. -/
mutual
def uptoBulk {H : Type} : DataW H → Nat
  | .lit (.string bytes) => bytes.length + 1
  | .lit _ => 1
  | .nil => 1
  | .ptr d => uptoBulk d + 1
  | .slice elems spare => uptoBulkAll elems + uptoBulkAll spare + 1
  | .agg parts => uptoBulkAll parts + 1
  | .iface _ d => uptoBulk d + 1
  | .map entries => uptoBulkEntries entries + 1
  | .held _ => 1
def uptoBulkAll {H : Type} : List (DataW H) → Nat
  | [] => 0
  | d :: r => uptoBulk d + uptoBulkAll r
def uptoBulkEntries {H : Type} : List (Lit × DataW H) → Nat
  | [] => 0
  | x :: r => uptoBulkEntry x + uptoBulkEntries r
def uptoBulkEntry {H : Type} : Lit × DataW H → Nat
  | (.string bytes, d) => bytes.length + uptoBulk d + 1
  | (_, d) => uptoBulk d + 1
 end
def uptoSmall : (H : Type) → List (DataW H) → Bool := fun _ ds => decide (uptoBulkAll ds ≤ 1048576)
def OpenSpec.upto (s : _root_.Go.ChangeSpec) : _root_.Go.OpenSpec := { _root_.Go.OpenSpec.ofChange s with cond := some uptoSmall }

/-- 'salchowlaw20.RecognizeItems', WHERE WHAT IT READS IS OF BULK AT MOST 1048576: true; the input reads as it did. -/
def recognizeItemsUptoRow : OpenClaim := { program := "ytlleebgkglbelaa", sum := "f83b0ad14ce79ebb1bfbb13efd98fa19baa79c4680615055ec1024b1b420e074", func := "salchow/salchowlaw20.RecognizeItems", spec := "recognizeItems", unfollowed := true, recurses := true, apart := false, narrowed := true }
def RecognizeItemsUptoSaid : Prop := recognizeItemsUptoRow.holds Try.pinned (OpenSpec.upto recognizeItemsSpec)

/-- 'salchowlaw20.RecognizeLines', WHERE WHAT IT READS IS OF BULK AT MOST 1048576: true; the input reads as it did. -/
def recognizeLinesUptoRow : OpenClaim := { program := "ytlleebgkglbelaa", sum := "f83b0ad14ce79ebb1bfbb13efd98fa19baa79c4680615055ec1024b1b420e074", func := "salchow/salchowlaw20.RecognizeLines", spec := "recognizeLines", unfollowed := true, recurses := true, apart := false, narrowed := true }
def RecognizeLinesUptoSaid : Prop := recognizeLinesUptoRow.holds Try.pinned (OpenSpec.upto recognizeLinesSpec)

/-- 'salchowlaw20.RecognizeSettles', WHERE WHAT IT READS IS OF BULK AT MOST 1048576: true; the input reads as it did. -/
def recognizeSettlesUptoRow : OpenClaim := { program := "ytlleebgkglbelaa", sum := "f83b0ad14ce79ebb1bfbb13efd98fa19baa79c4680615055ec1024b1b420e074", func := "salchow/salchowlaw20.RecognizeSettles", spec := "recognizeSettles", unfollowed := true, recurses := true, apart := false, narrowed := true }
def RecognizeSettlesUptoSaid : Prop := recognizeSettlesUptoRow.holds Try.pinned (OpenSpec.upto recognizeSettlesSpec)

/-- 'salchowlaw20.RecognizeRepeats', WHERE WHAT IT READS IS OF BULK AT MOST 1048576: true; the input reads as it did. -/
def recognizeRepeatsUptoRow : OpenClaim := { program := "ytlleebgkglbelaa", sum := "f83b0ad14ce79ebb1bfbb13efd98fa19baa79c4680615055ec1024b1b420e074", func := "salchow/salchowlaw20.RecognizeRepeats", spec := "recognizeRepeats", unfollowed := true, recurses := true, apart := false, narrowed := true }
def RecognizeRepeatsUptoSaid : Prop := recognizeRepeatsUptoRow.holds Try.pinned (OpenSpec.upto recognizeRepeatsSpec)

/-- 'salchowlaw20.RecognizeLoses', WHERE WHAT IT READS IS OF BULK AT MOST 1048576: true; the input reads as it did. -/
def recognizeLosesUptoRow : OpenClaim := { program := "ytlleebgkglbelaa", sum := "f83b0ad14ce79ebb1bfbb13efd98fa19baa79c4680615055ec1024b1b420e074", func := "salchow/salchowlaw20.RecognizeLoses", spec := "recognizeLoses", unfollowed := true, recurses := true, apart := false, narrowed := true }
def RecognizeLosesUptoSaid : Prop := recognizeLosesUptoRow.holds Try.pinned (OpenSpec.upto recognizeLosesSpec)

/-- 'salchowlaw20.RecognizeReviews', WHERE WHAT IT READS IS OF BULK AT MOST 1048576: true; the input reads as it did. -/
def recognizeReviewsUptoRow : OpenClaim := { program := "ytlleebgkglbelaa", sum := "f83b0ad14ce79ebb1bfbb13efd98fa19baa79c4680615055ec1024b1b420e074", func := "salchow/salchowlaw20.RecognizeReviews", spec := "recognizeReviews", unfollowed := true, recurses := true, apart := false, narrowed := true }
def RecognizeReviewsUptoSaid : Prop := recognizeReviewsUptoRow.holds Try.pinned (OpenSpec.upto recognizeReviewsSpec)

end Rows
end Go.Proofs.Ytlleebgkglbelaa
