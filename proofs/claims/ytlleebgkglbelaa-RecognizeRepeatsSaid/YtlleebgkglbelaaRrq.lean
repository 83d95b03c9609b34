/- Contract of layer 20's reference: Repeats, whole. -/
import Derived.Test.YtlleebgkglbelaaRrp
set_option linter.unusedSimpArgs false
set_option linter.unusedVariables false
namespace Go.Proofs.Ytlleebgkglbelaa
open Go.RowKit

theorem rrepeats_any {w : World} {a : Option Addr} {b off len cap : Nat} {R : List Rg} (h : SlR w a b off len cap R) (hm : len ≤ 1000) (hz : ∀ x ∈ R, x.c.size ≤ maxLen) : Calls Try.prog 30 #[.slice a len cap] w (RepPost w R len) := by
  refine rrep_walk h hm hz (fun tl htl W a' b' off' cap' hW => rrep_walk hW hm (fun x hx => ?_) (fun tl' htl' => ?_))
  · obtain ⟨y, hy, rfl⟩ := List.mem_map.1 hx
    unfold barS
    split
    · exact Nat.zero_le _
    · exact hz y hy
  · exfalso
    have hs := keys_sorted R len
    rw [htl] at hs
    rw [keys_bar htl] at htl'
    subst htl'
    exact absurd ((List.pairwise_cons.1 hs).1 [] (List.mem_cons_self ..)) (List.lt_irrefl _)
end Go.Proofs.Ytlleebgkglbelaa
