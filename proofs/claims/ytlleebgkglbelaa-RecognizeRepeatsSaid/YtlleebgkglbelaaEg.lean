/- Layer 20's example. -/
import Derived.Test.YtlleebgkglbelaaCat
set_option linter.unusedSimpArgs false
set_option linter.unusedVariables false
namespace Go.Proofs.Ytlleebgkglbelaa
open Go.RowKit

def egE : List El := [⟨⟨#[50, 65]⟩, ⟨#[106, 117, 109, 112]⟩, 3300, ⟨#[99]⟩, ⟨#[]⟩⟩, ⟨⟨#[51, 65]⟩, ⟨#[106, 117, 109, 112]⟩, 8000, ⟨#[]⟩, ⟨#[50, 65]⟩⟩]
/-- what example gives -/
def EgPost (w : World) (e : Ending) (w' : World) : Prop := ∃ c : Ct, e = .returned c.val ∧ CtOk w' c ∧ c.E = egE ∧ Below w.heap.size w w'
set_option maxHeartbeats 4000000 in
set_option maxRecDepth 100000 in
theorem example_any (w : World) : Calls Try.prog 25 #[] w (EgPost w) := by
  unfold EgPost
  go_enter Try.func25, Try.ntmps25
  go_wp2_with fail
  refine bodyPost_ret (v := .agg #[.slice (some ⟨w.heap.size + 1, 0, none⟩) 1 1, .slice (some ⟨w.heap.size + 2, 0, none⟩) 1 1, .slice (some ⟨w.heap.size + 3, 0, none⟩) 2 2, .slice none 0 0]) (by simp [results, Try.results25, go_sem]) rfl ?_
  refine ⟨⟨some ⟨w.heap.size + 1, 0, none⟩, w.heap.size + 1, 0, 1, 1, some ⟨w.heap.size + 2, 0, none⟩, w.heap.size + 2, 0, 1, 1, some ⟨w.heap.size + 3, 0, none⟩, w.heap.size + 3, 0, 2, 2, none, 0, 0, 0, 0, [⟨⟨#[106, 117, 109, 112]⟩, 3, 0⟩], [⟨#[99]⟩], egE, []⟩, rfl, ⟨?_, ?_, ?_, ?_, ?_, ?_, ?_, ?_⟩, rfl, (by repeat (first | with_reducible exact Below.refl _ _ | (with_reducible refine Below.setCell ?_ (by first | exact Nat.le_refl _ | omega | (simp; done) | (simp; omega)) _) | (with_reducible refine Below.alloc ?_ (by first | exact Nat.le_refl _ | omega | (simp; done) | (simp; omega)) _) | with_reducible refine Below.drew ?_ | with_reducible refine bel_drewN ?_ _ | (with_reducible refine bel_by (by with_reducible assumption) (by first | exact Nat.le_refl _ | omega | (simp; done) | (simp; omega)) ?_)))⟩
  · refine ⟨rfl, fun _ => rfl, fun _ => by simp, Nat.le_refl _, (show (1 : Nat) ≤ maxLen from by unfold maxLen; decide), ?_, ?_, ?_⟩ <;> intro k hk <;> (match k, hk with | 0, _ => simp [go_sem])
  · refine ⟨rfl, fun _ => rfl, fun _ => by simp, Nat.le_refl _, (show (1 : Nat) ≤ maxLen from by unfold maxLen; decide), ?_⟩ <;> intro k hk <;> (match k, hk with | 0, _ => simp [go_sem])
  · refine ⟨rfl, fun _ => rfl, fun _ => by simp, Nat.le_refl _, (show (2 : Nat) ≤ maxLen from by unfold maxLen; decide), ?_, ?_, ?_, ?_, ?_⟩ <;> intro k hk <;> (match k, hk with | 0, _ => simp [go_sem, egE] | 1, _ => simp [go_sem, egE])
  · refine ⟨rfl, fun h => absurd h (Nat.lt_irrefl 0), fun h => absurd h (Nat.lt_irrefl 0), Nat.le_refl _, (show (0 : Nat) ≤ maxLen from by unfold maxLen; decide), ?_, ?_, ?_⟩ <;> intro k hk <;> simp at hk
  · show ∀ x ∈ egE, x.c.size ≤ maxLen; decide
  · show ∀ x ∈ egE, x.l.size ≤ maxLen; decide
  · show ∀ x ∈ ([⟨⟨#[106, 117, 109, 112]⟩, 3, 0⟩] : List Gp), x.c.size ≤ maxLen; decide
  · show ∀ x ∈ ([⟨#[99]⟩] : List ByteArray), x.size ≤ maxLen; decide
end Go.Proofs.Ytlleebgkglbelaa
