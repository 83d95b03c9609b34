/- Plain facts of the reference's reader. -/
import Derived.Test.YtljeialaefmbmaaIn
set_option linter.unusedSimpArgs false
set_option linter.unusedVariables false
namespace Go.Proofs.Ytljeialaefmbmaa
open Go.RowKit

theorem readR_3 {s : ByteArray} {a o : Nat} : (readR ⟨s, a, o, 0⟩ 3).1 = if a < s.size ∧ at8 s a = 108 ∧ o ≠ 32 then ⟨s, a + 1, o + 1, 0⟩ else ⟨s, a, o, 2⟩ := by
  unfold readR
  rw [if_pos rfl]
  by_cases h : (headS s a).kind = 3
  · have hh := head_l_of h
    have he := head_l hh.1 hh.2
    simp only [he]
    by_cases h2 : o = 32
    · simp [h2]
    · simp [h2, hh.1, hh.2]
  · have hn : ¬ (a < s.size ∧ at8 s a = 108 ∧ o ≠ 32) := fun hc => h (by rw [head_l hc.1 hc.2.1])
    rw [if_neg hn]
    simp [h]
theorem readR_4 {s : ByteArray} {a o : Nat} : (readR ⟨s, a, o, 0⟩ 4).1 = if a < s.size ∧ at8 s a = 101 ∧ o ≠ 0 then ⟨s, a + 1, o - 1, 0⟩ else ⟨s, a, o, 2⟩ := by
  unfold readR
  rw [if_pos rfl]
  by_cases h : (headS s a).kind = 4
  · have hh := head_e_of h
    have he := head_e hh.1 hh.2
    simp only [he]
    by_cases h2 : o = 0
    · simp [h2]
    · simp [h2, hh.1, hh.2]
  · have hn : ¬ (a < s.size ∧ at8 s a = 101 ∧ o ≠ 0) := fun hc => h (by rw [head_e hc.1 hc.2.1])
    rw [if_neg hn]
    simp [h]

end Go.Proofs.Ytljeialaefmbmaa
