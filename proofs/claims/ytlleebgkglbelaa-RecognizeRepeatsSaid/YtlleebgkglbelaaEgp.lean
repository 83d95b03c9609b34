/- Plain values of layer 20's example. -/
import Derived.Test.YtlleebgkglbelaaEg
import Derived.Test.YtlleebgkglbelaaRep
import Derived.Test.YtlleebgkglbelaaStl
set_option linter.unusedSimpArgs false
set_option linter.unusedVariables false
namespace Go.Proofs.Ytlleebgkglbelaa
open Go.RowKit

def egI : List It := [⟨⟨#[51, 65]⟩, 1, false, false, false⟩, ⟨⟨#[50, 65]⟩, 0, true, false, false⟩]
def egR : List Rg := [⟨true, ⟨#[50, 65]⟩, ⟨#[106, 117, 109, 112]⟩, ⟨#[99]⟩, 3300, false, false⟩, ⟨true, ⟨#[50, 65]⟩, ⟨#[106, 117, 109, 112]⟩, ⟨#[99]⟩, 3300, true, false⟩]
theorem eg_dist : DistE egE := by unfold DistE; decide +kernel
theorem eg_sz : szE egE = 2 := (sizeE eg_dist).trans rfl
theorem eg_it : itemS egE ⟨⟨#[51, 65]⟩, 1, false, false, true⟩ = ⟨true, ⟨#[50, 65]⟩, ⟨#[106, 117, 109, 112]⟩, ⟨#[99]⟩, 3300, false, true⟩ := by
  unfold itemS perfE lowE lowL
  rw [eg_sz]
  decide +kernel
theorem eg_r3 : (perfE egE ⟨⟨#[51, 65]⟩, 2, false, false, false⟩).2 = 3 := by
  unfold perfE lowE lowL
  rw [eg_sz]
  decide +kernel
theorem eg_r2 : (perfE egE ⟨⟨#[52, 65]⟩, 0, false, false, false⟩).2 = 2 := by
  unfold perfE lowE lowL
  rw [eg_sz]
  decide +kernel
theorem eg_r1 : (perfE egE ⟨⟨#[51, 65]⟩, 0, false, true, false⟩).2 = 1 := by
  unfold perfE lowE lowL
  rw [eg_sz]
  decide +kernel
theorem eg_chk : chkL egI = 0 := by decide +kernel
theorem eg_map : egI.map (itemS egE) = egR := by
  unfold itemS perfE lowE lowL
  rw [eg_sz]
  decide +kernel
theorem eg_lost : lostS egE egI = 4700 := by
  unfold egI
  rw [lostS, lostS, lostS]
  unfold itemS perfE lowE lowL
  rw [eg_sz]
  decide +kernel
theorem eg_rev : revL egR 2 = ([1], 3300) := by decide +kernel
theorem eg_set : setS egI 1 0 false = (0, [⟨⟨#[51, 65]⟩, 1, false, false, false⟩, ⟨⟨#[50, 65]⟩, 0, false, false, false⟩]) := by decide +kernel
theorem eg_val : ValE egE := by unfold ValE; decide +kernel
theorem eg_fit : fitC egI := by
  intro k h
  have h8 : ∀ x ∈ egI, x.c.size ≤ 8 := by decide
  have := h8 _ (List.getElem_mem h)
  omega
theorem eg_keys : strKeys (GD egR 2) = [[50, 65]] := by kernel_rfl
theorem eg_out : (outK egR 2 (keysR egR 2)).length = 1 := by
  unfold keysR
  rw [eg_keys, List.mergeSort_singleton]
  decide +kernel
end Go.Proofs.Ytlleebgkglbelaa
