/- Plain facts of unions and of what is left of them. -/
import Derived.Test.YtflpehpjemlphaaDoorMinus
set_option linter.unusedSimpArgs false
set_option linter.unusedVariables false
namespace Go.Proofs.YtflpehpjemlphaaDoor
open Go.RowKit

theorem min_mem (x : ByteArray) (A B : List ByteArray) : x ∈ minL A B ↔ x ∈ A ∧ x ∉ B := by
  unfold minL
  rw [List.mem_filter, set_mem, Bool.not_eq_true', ← Bool.not_eq_true, Lib.containsS_iff, set_mem]
theorem min_srt (A B : List ByteArray) : srtL (minL A B) = true := srt_filter (set_srt A) _
theorem sub_iff (A B : List ByteArray) : subB A B = true ↔ ∀ x ∈ A, x ∈ B := by
  unfold subB
  rw [decide_eq_true_eq, List.length_eq_zero_iff, List.eq_nil_iff_forall_not_mem]
  constructor
  · intro h x hx
    exact Classical.byContradiction fun hn => h x ((min_mem x A B).2 ⟨hx, hn⟩)
  · intro h x hx
    have := (min_mem x A B).1 hx
    exact this.2 (h x this.1)
theorem has_min {x : ByteArray} {A : List ByteArray} (B : List ByteArray) (hx : x ∈ A) : Lib.containsS (minL A B) x = !Lib.containsS B x := by
  rw [Bool.eq_iff_iff, Lib.containsS_iff, min_mem, Bool.not_eq_true', ← Bool.not_eq_true, Lib.containsS_iff]
  exact ⟨fun h => h.2, fun h => ⟨hx, h⟩⟩
theorem has_union {x : ByteArray} {A : List ByteArray} (B : List ByteArray) (hx : x ∈ A) : Lib.containsS (setL (A ++ B)) x = true := by
  rw [Lib.containsS_iff, set_mem]
  exact List.mem_append_left _ hx
theorem sub_union (A B : List ByteArray) : subB A (setL (A ++ B)) = true := by
  rw [sub_iff]
  intro x hx
  rw [set_mem]
  exact List.mem_append_left _ hx
theorem sub_min (A B : List ByteArray) : subB (minL A B) A = true := by
  rw [sub_iff]
  intro x hx
  exact ((min_mem x A B).1 hx).1
theorem sub_same (A B : List ByteArray) : subB A B = decide (setL (A ++ B) = setL B) := by
  rw [Bool.eq_iff_iff, sub_iff, decide_eq_true_eq]
  constructor
  · intro h
    apply srt_ext (set_srt _) (set_srt _)
    intro x
    rw [set_mem, set_mem, List.mem_append]
    exact ⟨fun hx => hx.elim (h x) id, Or.inr⟩
  · intro h x hx
    have : x ∈ setL (A ++ B) := by rw [set_mem]; exact List.mem_append_left _ hx
    rw [h, set_mem] at this
    exact this
end Go.Proofs.YtflpehpjemlphaaDoor
