/- Plain facts of the abbreviations of a set. -/
import Derived.Test.YtcfhmbbkkadnfaaDoorUniP
import Derived.Test.YtcfhmbbkkadnfaaDoorRAbb
set_option linter.unusedSimpArgs false
set_option linter.unusedVariables false
namespace Go.Proofs.YtcfhmbbkkadnfaaDoor
open Go.RowKit

/-- so many bytes an abbreviation has -/
def unN (S : List ByteArray) (l i : Nat) : Nat := min (needN S l i) (S.getD i ⟨#[]⟩).size
theorem un_at (S : List ByteArray) (l i : Nat) : abbAt S (l : Int) i = (S.getD i ⟨#[]⟩).extract 0 (unN S l i) := rfl
theorem un_le (S : List ByteArray) (l i : Nat) : unN S l i ≤ (S.getD i ⟨#[]⟩).size := Nat.min_le_right _ _
theorem ext_size (s : ByteArray) (n : Nat) (h : n ≤ s.size) : (s.extract 0 n).size = n := by
  rw [← list_size, cat_ext, List.length_take, list_size]; omega
theorem un_size (S : List ByteArray) (l i : Nat) : (abbAt S (l : Int) i).size = unN S l i := ext_size _ _ (un_le S l i)
theorem ext_ext (s : ByteArray) (n m : Nat) (h : m ≤ n) : (s.extract 0 n).extract 0 m = s.extract 0 m := by
  have h1 := cat_ext (s.extract 0 n) m
  rw [cat_ext s n, List.take_take, Nat.min_eq_left h] at h1
  have h2 := cat_ext s m
  generalize (s.extract 0 n).extract 0 m = x at *
  generalize s.extract 0 m = y at *
  cases x with | mk u => cases y with | mk v =>
  have h3 : u.toList = v.toList := h1.trans h2.symm
  rw [Array.toList_inj.1 h3]
theorem l_need (S : List ByteArray) (l i : Nat) : l ≤ needN S l i := by unfold needN; omega
/-- shorter than its string: it begins no other one -/
theorem un_beg {S : List ByteArray} (hs : srtL S = true) {l i k : Nat} (h1 : 1 ≤ l) (hi : i < S.length) (hk : k < S.length) (hne : k ≠ i) (hlt : unN S l i < (S.getD i ⟨#[]⟩).size) :
    begB (S[k]'hk) (abbAt S (l : Int) i) = false := by
  rw [un_at, begB_iff _ _ _ (un_le S l i)]
  have e : unN S l i = needN S l i := by unfold unN at *; omega
  have ha := (alone_iff hs (n := needN S l i) (least := l) hi (l_need S l i) (by have := l_need S l i; omega)).2 (Nat.le_refl _)
  rw [e]
  exact decide_eq_false (ha k hk hk hne)
/-- as one begins the other -/
theorem ext_cpl {x y : ByteArray} {n : Nat} (hx : n ≤ x.size) (hy : n ≤ y.size) (h : x.extract 0 n = y.extract 0 n) : n ≤ cpl x y := by
  have h2 := (beg_cpl n x.data.toList y.data.toList (by rw [list_size]; exact hy)).1 ⟨by rw [list_size]; exact hx, by
    have := congrArg (fun z : ByteArray => z.data.toList) h
    simp only [cat_ext] at this
    exact this⟩
  exact h2
/-- two of them differ -/
theorem un_ne {S : List ByteArray} (hs : srtL S = true) {l i k : Nat} (h1 : 1 ≤ l) (hi : i < S.length) (hk : k < S.length) (hne : k ≠ i) :
    abbAt S (l : Int) k ≠ abbAt S (l : Int) i := by
  intro he
  have hz : unN S l k = unN S l i := by rw [← un_size, ← un_size, he]
  have hc : unN S l i ≤ cpl (S[k]'hk) (S[i]'hi) := by
    refine ext_cpl ?_ ?_ ?_
    · rw [← hz, ← getD_in S k hk]; exact un_le S l k
    · rw [← getD_in S i hi]; exact un_le S l i
    · rw [un_at, un_at, hz, getD_in S k hk, getD_in S i hi] at he; exact he
  by_cases hlt : unN S l i < (S.getD i ⟨#[]⟩).size
  · have := un_beg hs h1 hi hk hne hlt
    rw [un_at, begB_iff _ _ _ (un_le S l i), getD_in S i hi] at this
    exact absurd hc (of_decide_eq_false this)
  · by_cases hlt2 : unN S l k < (S.getD k ⟨#[]⟩).size
    · have := un_beg hs h1 hk hi (Ne.symm hne) hlt2
      rw [un_at, begB_iff _ _ _ (un_le S l k), getD_in S k hk, hz] at this
      have hc2 : cpl (S[k]'hk) (S[i]'hi) = cpl (S[i]'hi) (S[k]'hk) := cpl_comm _ _
      rw [hc2] at hc
      exact absurd hc (of_decide_eq_false this)
    · have a1 := un_le S l i
      have a2 := un_le S l k
      rw [un_at, un_at, show unN S l k = (S.getD k ⟨#[]⟩).size by omega, show unN S l i = (S.getD i ⟨#[]⟩).size by omega, ext_whole, ext_whole, getD_in S k hk, getD_in S i hi] at he
      rcases Nat.lt_or_gt_of_ne hne with h | h
      · have := srt_lt' hs h hi
        rw [he] at this
        exact not_lt_self _ this
      · have := srt_lt' hs h hk
        rw [he] at this
        exact not_lt_self _ this
/-- one byte less: a beginning of another one -/
def Shr (S : List ByteArray) (i n K : Nat) : Prop := ∃ (j : Nat) (hj : j < S.length), j < K ∧ j ≠ i ∧ 0 < n ∧ n - 1 ≤ cpl (S[j]'hj) (S.getD i ⟨#[]⟩)
theorem shr_none (S : List ByteArray) (i n : Nat) : (false = true) ↔ Shr S i n 0 :=
  ⟨fun h => absurd h (by simp), fun ⟨j, _, h, _⟩ => absurd h (Nat.not_lt_zero j)⟩
theorem shr_up {S : List ByteArray} {i n K : Nat} {b : Bool} (hb : b = true ↔ Shr S i n K) (h : b = true) : (true = true ↔ Shr S i n (K + 1)) :=
  ⟨fun _ => by obtain ⟨j, hj, h1, h2⟩ := hb.1 h; exact ⟨j, hj, by omega, h2⟩, fun _ => rfl⟩
theorem shr_up2 {S : List ByteArray} {i n K : Nat} (h : Shr S i n K) : (true = true ↔ Shr S i n (K + 1)) :=
  ⟨fun _ => by obtain ⟨j, hj, h1, h2⟩ := h; exact ⟨j, hj, by omega, h2⟩, fun _ => rfl⟩
theorem shr_skip {S : List ByteArray} {i n : Nat} {b : Bool} (hb : b = true ↔ Shr S i n i) : (b = true ↔ Shr S i n (i + 1)) := by
  rw [hb]
  constructor
  · rintro ⟨j, hj, h1, h2⟩; exact ⟨j, hj, by omega, h2⟩
  · rintro ⟨j, hj, h1, h2, h3⟩; exact ⟨j, hj, by omega, h2, h3⟩
theorem shr_step {S : List ByteArray} {i n k : Nat} (hb : false = true ↔ Shr S i n k) (hk : k < S.length) (hne : k ≠ i) {v : Bool} (hv : (decide (0 < n) && decide (n - 1 ≤ cpl (S[k]'hk) (S.getD i ⟨#[]⟩))) = v) : (v = true ↔ Shr S i n (k + 1)) := by
  subst hv
  rw [Bool.and_eq_true, decide_eq_true_eq, decide_eq_true_eq]
  constructor
  · rintro ⟨h1, h2⟩; exact ⟨k, hk, by omega, hne, h1, h2⟩
  · rintro ⟨j, hj, h1, h2, h3, h4⟩
    by_cases e : j = k
    · subst e; exact ⟨h3, h4⟩
    · exact absurd (hb.2 ⟨j, hj, by omega, h2, h3, h4⟩) (by simp)
theorem shr_all {S : List ByteArray} {l i : Nat} (h1 : 1 ≤ l) (hi : i < S.length) (hl : l < unN S l i) : Shr S i (unN S l i) S.length := by
  have hn : unN S l i ≤ needN S l i := Nat.min_le_left _ _
  by_cases hb : unN S l i ≤ befS S i + 1
  · by_cases e : i = 0
    · have : befS S i = 0 := by unfold befS; rw [if_pos e]
      by_cases ha : unN S l i ≤ aftS S i + 1
      · by_cases e2 : i + 1 < S.length
        · refine ⟨i + 1, e2, e2, by omega, by omega, ?_⟩
          have hf : aftS S i = cpl (S[i]'hi) (S[i + 1]'e2) := by
            unfold aftS
            rw [if_pos (by omega), getD_in S i hi, getD_in S (i + 1) e2]
          rw [getD_in S i hi]
          have e3 : cpl (S[i + 1]'e2) (S[i]'hi) = cpl (S[i]'hi) (S[i + 1]'e2) := cpl_comm _ _
          omega
        · have hf : aftS S i = 0 := by unfold aftS; rw [if_neg e2]
          unfold needN at hn
          omega
      · unfold needN at hn
        omega
    · refine ⟨i - 1, by omega, by omega, by omega, by omega, ?_⟩
      have hbb : befS S i = cpl (S[i - 1]'(by omega)) (S[i]'hi) := by
        unfold befS
        rw [if_neg e, getD_in S (i - 1) (by omega), getD_in S i hi]
      rw [getD_in S i hi]
      omega
  · have hf : unN S l i ≤ aftS S i + 1 := by unfold needN at hn; omega
    by_cases e2 : i + 1 < S.length
    · refine ⟨i + 1, e2, e2, by omega, by omega, ?_⟩
      have hff : aftS S i = cpl (S[i]'hi) (S[i + 1]'e2) := by
        unfold aftS
        rw [if_pos (by omega), getD_in S i hi, getD_in S (i + 1) e2]
      rw [getD_in S i hi]
      have e3 : cpl (S[i + 1]'e2) (S[i]'hi) = cpl (S[i]'hi) (S[i + 1]'e2) := cpl_comm _ _
      omega
    · have hff : aftS S i = 0 := by unfold aftS; rw [if_neg e2]
      omega
end Go.Proofs.YtcfhmbbkkadnfaaDoor
