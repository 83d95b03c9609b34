/- Plain facts: an element put in its place, as the reference does it. -/
import Derived.Test.YtflpehpjemlphaaDoorUniP
set_option linter.unusedSimpArgs false
set_option linter.unusedVariables false
namespace Go.Proofs.YtflpehpjemlphaaDoor
open Go.RowKit

theorem less_asym {a x : ByteArray} (h : lessB a x = true) : lessB x a = false := by
  rw [← Bool.not_eq_true, blt']
  rw [blt'] at h
  have := tot_bytes.turn a.data.toList x.data.toList
  omega
/-- so many are less -/
def InsAt (x : ByteArray) (O : List ByteArray) (at_ : Nat) : Prop := at_ ≤ O.length ∧ (∀ (j : Nat) (h : j < O.length), j < at_ → lessB (O[j]'h) x = true)
theorem ins_new {x : ByteArray} : ∀ {O : List ByteArray} {k : Nat}, InsAt x O k → (∀ (h : k < O.length), lessB (O[k]'h) x = false ∧ O[k]'h ≠ x) → insL x O = O.take k ++ (x :: O.drop k)
  | [], k, h, _ => by
    have : k = 0 := by have := h.1; simpa using this
    subst this; rfl
  | a :: t, 0, _, h2 => by
    obtain ⟨h3, h4⟩ := h2 (by simp)
    simp only [List.getElem_cons_zero] at h3 h4
    unfold insL
    by_cases hx : lessB x a = true
    · rw [if_pos hx]; rfl
    · exact absurd (eq_of_cmp (by rw [h3]; simp) hx) h4
  | a :: t, k + 1, h, h2 => by
    have ha := h.2 0 (by simp) (by omega)
    simp only [List.getElem_cons_zero] at ha
    have ih := @ins_new x t k ⟨by have := h.1; simpa using this, fun j hj hjk => by
      have := h.2 (j + 1) (by simpa using hj) (by omega)
      simpa using this⟩ (fun hk => by
      have := h2 (by simpa using hk)
      simpa using this)
    unfold insL
    rw [if_neg (by rw [less_asym ha]; simp), if_pos ha, ih]
    rfl
theorem ins_old {x : ByteArray} : ∀ {O : List ByteArray} {k : Nat}, InsAt x O k → (h : k < O.length) → O[k]'h = x → insL x O = O
  | [], k, _, h, _ => by simp at h
  | a :: t, 0, _, _, e => by
    simp only [List.getElem_cons_zero] at e
    subst e
    have hn : lessB a a = false := by
      cases h : lessB a a with
      | false => rfl
      | true => have := less_asym h; rw [h] at this; cases this
    unfold insL
    rw [if_neg (by rw [hn]; simp), if_neg (by rw [hn]; simp)]
  | a :: t, k + 1, h, hk, e => by
    have ha := h.2 0 (by simp) (by omega)
    simp only [List.getElem_cons_zero] at ha
    simp only [List.getElem_cons_succ] at e
    have ih := @ins_old x t k ⟨by have := h.1; simpa using this, fun j hj hjk => by
      have := h.2 (j + 1) (by simpa using hj) (by omega)
      simpa using this⟩ (by simpa using hk) e
    unfold insL
    rw [if_neg (by rw [less_asym ha]; simp), if_pos ha, ih]
theorem set_snoc (A : List ByteArray) (x : ByteArray) : setL (A ++ [x]) = insL x (setL A) :=
  srt_ext (set_srt _) (ins_srt x (set_srt A)) (fun y => by rw [set_mem, ins_mem, set_mem, List.mem_append, List.mem_singleton]; exact or_comm)
theorem set_take {A : List ByteArray} {k : Nat} (h : k < A.length) : setL (A.take (k + 1)) = insL (A[k]'h) (setL (A.take k)) := by
  rw [List.take_succ_eq_append_getElem h, set_snoc]
/-- what stands in A and not in B, in A's order -/
def minF (A B : List ByteArray) : List ByteArray := A.filter fun x => !Lib.containsS B x
theorem minF_take {A B : List ByteArray} {k : Nat} (h : k < A.length) : minF (A.take (k + 1)) B = if Lib.containsS B (A[k]'h) = true then minF (A.take k) B else minF (A.take k) B ++ [A[k]'h] := by
  unfold minF
  rw [List.take_succ_eq_append_getElem h, List.filter_append]
  cases hc : Lib.containsS B (A[k]'h) <;> simp [List.filter_cons, hc]
theorem min_set (A B : List ByteArray) : setL (minF A B) = minL A B :=
  (set_of (min_srt A B) (fun x => by rw [min_mem]; unfold minF; simp only [List.mem_filter, Bool.not_eq_true', ← Bool.not_eq_true, Lib.containsS_iff])).symm
end Go.Proofs.YtflpehpjemlphaaDoor
