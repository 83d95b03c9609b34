/- Contracts of layer 4: the reference's natural order: compare, piece, pieces. -/
import Derived.Test.YtflpehpjemlphaaDoorAwake
set_option linter.unusedSimpArgs false
set_option linter.unusedVariables false
namespace Go.Proofs.YtflpehpjemlphaaDoor
open Go.RowKit

theorem less_cmp : ∀ (x y : List UInt8), Op.bytesLess x y = decide (Lib.compareBytes x y < 0)
  | [], [] => by simp [Op.bytesLess, Lib.compareBytes]
  | [], _ :: _ => by simp [Op.bytesLess, Lib.compareBytes]
  | _ :: _, [] => by simp [Op.bytesLess, Lib.compareBytes]
  | a :: x, b :: y => by
    unfold Op.bytesLess Lib.compareBytes
    rw [less_cmp x y]
    by_cases h1 : a < b
    · simp [h1]
    · by_cases h2 : b < a
      · have : (a == b) = false := by
          rw [beq_eq_false_iff_ne]; rintro rfl; exact h1 h2
        simp [h1, h2, this]
      · have : a = b := by
          apply UInt8.toNat.inj
          simp only [UInt8.lt_iff_toNat_lt] at h1 h2
          omega
        subst this
        simp [h1]
theorem blt (a b : ByteArray) : Op.bytesLess a.toList b.toList = decide (Lib.compareBytes a.data.toList b.data.toList < 0) := by
  rw [less_cmp, Lib.toList_data, Lib.toList_data]
theorem beq_cmp (a b : ByteArray) : (a.toList == b.toList) = decide (Lib.compareBytes a.data.toList b.data.toList = 0) := by
  rw [Lib.toList_data, Lib.toList_data, Bool.eq_iff_iff, decide_eq_true_eq, bytes_zero]
  simp
/-- how long the first piece is -/
def plen : List UInt8 → Nat
  | [] => 0
  | c :: t => if dig c = true then ((c :: t).takeWhile dig).length else 1
theorem plen_pos {l : List UInt8} (h : l ≠ []) : 0 < plen l ∧ plen l ≤ l.length := by
  cases l with
  | nil => exact absurd rfl h
  | cons c t =>
    show 0 < (if dig c = true then ((c :: t).takeWhile dig).length else 1) ∧ (if dig c = true then ((c :: t).takeWhile dig).length else 1) ≤ (c :: t).length
    by_cases hc : dig c = true
    · rw [if_pos hc]
      refine ⟨by rw [List.takeWhile_cons_of_pos hc]; simp, (List.takeWhile_sublist dig).length_le⟩
    · rw [if_neg hc]; simp
theorem plen_drop (l : List UInt8) : l.drop (plen l) = restOf l := by
  cases l with
  | nil => rfl
  | cons c t =>
    show (c :: t).drop (if dig c = true then ((c :: t).takeWhile dig).length else 1) = (if dig c = true then (c :: t).dropWhile dig else t)
    by_cases hc : dig c = true
    · rw [if_pos hc, if_pos hc]; exact (take_of_lead _ _).2
    · rw [if_neg hc, if_neg hc]; rfl
/-- the first piece by itself -/
def headP (l : List UInt8) : List UInt8 := l.take (plen l)
theorem headP_tok (l : List UInt8) : tokOf (headP l) = tokOf l := by
  cases l with
  | nil => rfl
  | cons c t =>
    by_cases hc : dig c = true
    · have e : headP (c :: t) = (c :: t).takeWhile dig := by
        unfold headP
        rw [show plen (c :: t) = ((c :: t).takeWhile dig).length from if_pos hc]
        exact (take_of_lead _ _).1
      rw [e]
      have h1 : ∀ x ∈ (c :: t).takeWhile dig, dig x = true := by
        have := List.all_takeWhile (p := dig) (l := c :: t)
        rwa [List.all_eq_true] at this
      unfold tokOf numOf
      rw [(take_self h1).1]
      congr 1
      rw [List.takeWhile_cons_of_pos hc]
      simp [kindOf, hc]
    · have e : headP (c :: t) = [c] := by
        unfold headP
        rw [show plen (c :: t) = 1 from if_neg hc]
        rfl
      have hf : dig c = false := by simpa using hc
      rw [e]
      unfold tokOf
      rw [numOf_none hf, numOf_none hf]
      rfl
/-- a piece: one byte that is no digit, or digits alone -/
inductive IsP : List UInt8 → Prop
  | byte (c : UInt8) (h : dig c = false) : IsP [c]
  | num (l : List UInt8) (h : ∀ c ∈ l, dig c = true) (hl : l ≠ []) : IsP l
theorem headP_is {l : List UInt8} (h : l ≠ []) : IsP (headP l) := by
  cases l with
  | nil => exact absurd rfl h
  | cons c t =>
    by_cases hc : dig c = true
    · have e : headP (c :: t) = (c :: t).takeWhile dig := by
        unfold headP
        rw [show plen (c :: t) = ((c :: t).takeWhile dig).length from if_pos hc]
        exact (take_of_lead _ _).1
      rw [e]
      refine .num _ ?_ (by rw [List.takeWhile_cons_of_pos hc]; simp)
      have := List.all_takeWhile (p := dig) (l := c :: t)
      rwa [List.all_eq_true] at this
    · have e : headP (c :: t) = [c] := by
        unfold headP
        rw [show plen (c :: t) = 1 from if_neg hc]
        rfl
      rw [e]
      exact .byte c (by simpa using hc)
theorem drop_get (s : ByteArray) (a j : Nat) (h : a + j < s.size) : (s.data.toList.drop a)[j]? = some (s[a + j]'h) := by
  rw [List.getElem?_drop]; exact list_get s (a + j) h
theorem piece_one (s : ByteArray) (a : Nat) (h : a < s.size) (hd : dig (s[a]'h) = false) : plen (s.data.toList.drop a) = 1 := by
  have := drop_get s a 0 (by omega)
  cases hl : s.data.toList.drop a with
  | nil => rw [hl] at this; simp at this
  | cons c t =>
    rw [hl] at this
    have hc : c = s[a]'h := by simpa using this
    show (if dig c = true then ((c :: t).takeWhile dig).length else 1) = 1
    rw [hc, hd]; rfl
theorem piece_digs (s : ByteArray) (a : Nat) (h : a < s.size) (hd : dig (s[a]'h) = true) :
    1 ≤ plen (s.data.toList.drop a) ∧ a + plen (s.data.toList.drop a) ≤ s.size ∧ (∀ (j : Nat) (hj : a + j < s.size), j < plen (s.data.toList.drop a) → dig (s[a + j]'hj) = true) ∧ (∀ (hj : a + plen (s.data.toList.drop a) < s.size), dig (s[a + plen (s.data.toList.drop a)]'hj) = false) := by
  have h0 := drop_get s a 0 (by omega)
  have hlen : (s.data.toList.drop a).length = s.size - a := by rw [List.length_drop, list_size]
  have hp : plen (s.data.toList.drop a) = ((s.data.toList.drop a).takeWhile dig).length := by
    cases hl : s.data.toList.drop a with
    | nil => rw [hl] at h0; simp at h0
    | cons c t =>
      rw [hl] at h0
      have hc : c = s[a]'h := by simpa using h0
      show (if dig c = true then ((c :: t).takeWhile dig).length else 1) = _
      rw [if_pos (by rw [hc]; exact hd)]
  have hne : s.data.toList.drop a ≠ [] := by intro e; rw [e] at hlen; simp at hlen; omega
  have hpp := plen_pos hne
  refine ⟨hpp.1, by omega, fun j hj hjp => ?_, fun hj => ?_⟩
  · obtain ⟨c, h1, h2⟩ := tw_get dig _ j (by rw [← hp]; exact hjp)
    rw [drop_get s a j hj] at h1
    rw [Option.some.inj h1]; exact h2
  · obtain ⟨c, h1, h2⟩ := tw_end dig (s.data.toList.drop a) (by rw [← hp, hlen]; omega)
    rw [← hp, drop_get s a _ hj] at h1
    rw [Option.some.inj h1]; exact h2
end Go.Proofs.YtflpehpjemlphaaDoor
