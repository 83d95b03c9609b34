/- Plain facts of abbreviations. -/
import Derived.Test.YtflpehpjemlphaaDoorRNat
set_option linter.unusedSimpArgs false
set_option linter.unusedVariables false
namespace Go.Proofs.YtflpehpjemlphaaDoor
open Go.RowKit

theorem cpl_mid : ∀ (x y z : List UInt8), Lib.compareBytes x y < 0 → Lib.compareBytes y z < 0 → cplL x z ≤ cplL x y ∧ cplL x z ≤ cplL y z
  | [], _, z, _, _ => by cases z <;> simp [cplL]
  | _ :: _, _, [], _, _ => by simp [cplL]
  | a :: x, [], _ :: _, h, _ => by simp [Lib.compareBytes] at h
  | a :: x, b :: y, c :: z, h1, h2 => by
    by_cases hac : a = c
    · subst hac
      unfold Lib.compareBytes at h1 h2
      by_cases h3 : a < b
      · have h4 : ¬ b < a := by simp only [UInt8.lt_iff_toNat_lt] at *; omega
        rw [if_neg h4, if_pos h3] at h2
        omega
      · rw [if_neg h3] at h1
        by_cases h4 : b < a
        · rw [if_pos h4] at h1; omega
        · rw [if_neg h4] at h1
          rw [if_neg h4, if_neg h3] at h2
          have e : a = b := by
            apply UInt8.toNat.inj
            simp only [UInt8.lt_iff_toNat_lt] at h3 h4
            omega
          subst e
          have := cpl_mid x y z h1 h2
          simp only [cplL, if_true]
          omega
    · simp [cplL, hac]
theorem cpl_comm : ∀ (x y : List UInt8), cplL x y = cplL y x
  | [], [] => rfl
  | [], _ :: _ => rfl
  | _ :: _, [] => rfl
  | a :: x, b :: y => by
    unfold cplL
    by_cases h : a = b
    · rw [if_pos h, if_pos h.symm, cpl_comm x y]
    · rw [if_neg h, if_neg (Ne.symm h)]
theorem beg_cpl : ∀ (n : Nat) (x y : List UInt8), n ≤ y.length → ((n ≤ x.length ∧ x.take n = y.take n) ↔ n ≤ cplL x y)
  | 0, x, y, _ => by simp
  | n + 1, [], y, _ => by cases y <;> simp [cplL]
  | n + 1, _ :: _, [], h => by simp at h
  | n + 1, a :: x, b :: y, h => by
    have ih := beg_cpl n x y (by simpa using h)
    unfold cplL
    by_cases e : a = b
    · rw [if_pos e]
      simp only [List.length_cons, List.take_succ_cons, List.cons.injEq, e, true_and]
      rw [show (n + 1 ≤ x.length + 1 ∧ List.take n x = List.take n y) ↔ (n ≤ x.length ∧ List.take n x = List.take n y) by constructor <;> (rintro ⟨h1, h2⟩; exact ⟨by omega, h2⟩), ih]
      omega
    · rw [if_neg e]
      simp [e]
theorem cat_ext (s : ByteArray) (n : Nat) : (s.extract 0 n).data.toList = s.data.toList.take n := by
  rw [ext_list, List.drop_zero, Nat.sub_zero]
/-- a beginning of s begins x: as far as they agree -/
theorem beg_iff (x s : ByteArray) (n : Nat) (hn : n ≤ s.size) : (decide ((s.extract 0 n).size ≤ x.size) && ((x.extract 0 (s.extract 0 n).size).toList == (s.extract 0 n).toList)) = decide (n ≤ cpl x s) := by
  have hz : (s.extract 0 n).size = n := by rw [← list_size, cat_ext, List.length_take, list_size]; omega
  rw [hz, Bool.eq_iff_iff, Bool.and_eq_true, decide_eq_true_eq, decide_eq_true_eq, beq_iff_eq, Lib.toList_data, Lib.toList_data, cat_ext, cat_ext]
  have := beg_cpl n x.data.toList s.data.toList (by rw [list_size]; exact hn)
  rw [list_size] at this
  exact this
/-- all of a set are in order -/
theorem srt_lt {L : List ByteArray} (h : srtL L = true) : ∀ (d j : Nat) (hk : j + d + 1 < L.length), Lib.compareBytes (L[j]'(by omega)).data.toList (L[j + d + 1]'hk).data.toList < 0
  | 0, j, hk => by
    have := (srt_iff L).1 h j (by omega)
    unfold lessB at this
    rw [blt] at this
    simpa using this
  | d + 1, j, hk => by
    have h1 := srt_lt h d j (by omega)
    have h2 := (srt_iff L).1 h (j + d + 1) (by omega)
    unfold lessB at h2
    rw [blt] at h2
    have h2 : Lib.compareBytes (L[j + d + 1]'(by omega)).data.toList (L[j + d + 1 + 1]'(by omega)).data.toList < 0 := by simpa using h2
    have := tot_bytes.lt_le h1 (by omega : Lib.compareBytes (L[j + d + 1]'(by omega)).data.toList (L[j + d + 1 + 1]'(by omega)).data.toList ≤ 0)
    exact this
theorem srt_lt' {L : List ByteArray} (h : srtL L = true) {j k : Nat} (hjk : j < k) (hk : k < L.length) : Lib.compareBytes (L[j]'(by omega)).data.toList (L[k]'hk).data.toList < 0 := by
  have := srt_lt h (k - j - 1) j (by omega)
  have e : j + (k - j - 1) + 1 = k := by omega
  simp only [e] at this
  exact this
theorem getD_in (L : List ByteArray) (k : Nat) (h : k < L.length) : L.getD k ⟨#[]⟩ = L[k]'h := by simp [List.getD, h]
/-- no other one agrees further than a neighbour does -/
theorem cpl_near {L : List ByteArray} (h : srtL L = true) {i k : Nat} (hi : i < L.length) (hk : k < L.length) (hne : k ≠ i) : cpl (L[k]'hk) (L[i]'hi) ≤ max (befS L i) (aftS L i) := by
  rcases Nat.lt_or_gt_of_ne hne with hlt | hgt
  · have hb : befS L i = cpl (L[i - 1]'(by omega)) (L[i]'hi) := by
      unfold befS
      rw [if_neg (by omega), getD_in L (i - 1) (by omega), getD_in L i hi]
    by_cases e : k = i - 1
    · subst e; rw [hb]; omega
    · have h1 := srt_lt' h (show k < i - 1 by omega) (by omega)
      have h2 := srt_lt' h (show i - 1 < i by omega) hi
      have := (cpl_mid _ _ _ h1 h2).2
      rw [hb]
      unfold cpl
      omega
  · have ha : aftS L i = cpl (L[i]'hi) (L[i + 1]'(by omega)) := by
      unfold aftS
      rw [if_pos (by omega), getD_in L i hi, getD_in L (i + 1) (by omega)]
    by_cases e : k = i + 1
    · subst e
      rw [ha]
      have : cpl (L[i + 1]'hk) (L[i]'hi) = cpl (L[i]'hi) (L[i + 1]'hk) := cpl_comm _ _
      omega
    · have h1 := srt_lt' h (show i < i + 1 by omega) (by omega)
      have h2 := srt_lt' h (show i + 1 < k by omega) hk
      have := (cpl_mid _ _ _ h1 h2).1
      have e2 : cpl (L[k]'hk) (L[i]'hi) = cpl (L[i]'hi) (L[k]'hk) := cpl_comm _ _
      rw [ha, e2]
      unfold cpl
      omega
def needN (L : List ByteArray) (least : Nat) (i : Nat) : Nat := max (max least (befS L i + 1)) (aftS L i + 1)
/-- a beginning of so many bytes begins no other one -/
def Alone (L : List ByteArray) (i n K : Nat) : Prop := ∀ (j : Nat) (hj : j < L.length), j < K → j ≠ i → ¬ n ≤ cpl (L[j]'hj) (L.getD i ⟨#[]⟩)
theorem alone_iff {L : List ByteArray} (h : srtL L = true) {i n least : Nat} (hi : i < L.length) (hn : least ≤ n) (h1 : 1 ≤ n) : Alone L i n L.length ↔ needN L least i ≤ n := by
  unfold needN Alone
  rw [getD_in L i hi]
  constructor
  · intro ha
    have hb : befS L i + 1 ≤ n := by
      by_cases e : i = 0
      · have : befS L i = 0 := by unfold befS; rw [if_pos e]
        omega
      · have := ha (i - 1) (by omega) (by omega) (by omega)
        have hb : befS L i = cpl (L[i - 1]'(by omega)) (L[i]'hi) := by
          unfold befS
          rw [if_neg e, getD_in L (i - 1) (by omega), getD_in L i hi]
        omega
    have hf : aftS L i + 1 ≤ n := by
      by_cases e : i + 1 < L.length
      · have := ha (i + 1) e e (by omega)
        have hf : aftS L i = cpl (L[i]'hi) (L[i + 1]'e) := by
          unfold aftS
          rw [if_pos e, getD_in L i hi, getD_in L (i + 1) e]
        have e2 : cpl (L[i + 1]'e) (L[i]'hi) = cpl (L[i]'hi) (L[i + 1]'e) := cpl_comm _ _
        omega
      · have : aftS L i = 0 := by unfold aftS; rw [if_neg e]
        omega
    omega
  · intro hm j hj _ hne hle
    have := cpl_near h hi hj hne
    omega
theorem abb_need (L : List ByteArray) (least : Nat) (i : Nat) : abbAt L (least : Int) i = (L.getD i ⟨#[]⟩).extract 0 (min (needN L least i) (L.getD i ⟨#[]⟩).size) := rfl
theorem ext_whole (s : ByteArray) : s.extract 0 s.size = s := by
  have := bs_of (cat_ext s s.size)
  rw [List.take_of_length_le (by rw [list_size]; exact Nat.le_refl _)] at this
  rw [← this, bs_list]
end Go.Proofs.YtflpehpjemlphaaDoor
