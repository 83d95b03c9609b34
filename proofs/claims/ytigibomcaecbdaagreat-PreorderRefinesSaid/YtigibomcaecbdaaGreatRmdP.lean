/- Plain facts of sorting by insertion: one number goes down. -/
import Derived.Test.YtigibomcaecbdaaGreatEgs
set_option linter.unusedSimpArgs false
set_option linter.unusedVariables false
namespace Go.Proofs.YtigibomcaecbdaaGreat
open Go.RowKit Go.Sort

/-- x within a list, before place k -/
def insAt (S : List Int) (x : Int) (k : Nat) : List Int := S.take k ++ x :: S.drop k
theorem insAt_len (S : List Int) (x : Int) (k : Nat) : (insAt S x k).length = S.length + 1 := by
  unfold insAt
  rw [List.length_append, List.length_cons, List.length_take, List.length_drop]
  omega
theorem insAt_end (S : List Int) (x : Int) : insAt S x S.length = S ++ [x] := by simp [insAt]
theorem insAt_perm (S : List Int) (x : Int) (k : Nat) : (insAt S x k).Perm (S ++ [x]) := by
  unfold insAt
  refine (List.perm_middle).trans ?_
  rw [List.take_append_drop]
  exact (List.perm_append_singleton x S).symm
theorem insAt_at {S : List Int} {x : Int} {k : Nat} (h : k ≤ S.length) : (insAt S x k)[k]? = some x := by
  unfold insAt
  rw [List.getElem?_append_right (by rw [List.length_take]; omega), List.length_take, Nat.min_eq_left h, Nat.sub_self]
  rfl
theorem insAt_low {S : List Int} {x : Int} {k p : Nat} (h : k ≤ S.length) (hp : p < k) : (insAt S x k)[p]? = some (S.getD p 0) := by
  unfold insAt
  rw [List.getElem?_append_left (by rw [List.length_take]; omega), List.getElem?_take_of_lt hp]
  simp [List.getD, show p < S.length by omega]
theorem insAt_high {S : List Int} {x : Int} {k j : Nat} (h : k ≤ S.length) (hj : k < j) : (insAt S x k)[j]? = S[j - 1]? := by
  unfold insAt
  rw [List.getElem?_append_right (by rw [List.length_take]; omega), List.length_take, Nat.min_eq_left h]
  obtain ⟨d, rfl⟩ : ∃ d, j = k + d + 1 := ⟨j - k - 1, by omega⟩
  rw [show k + d + 1 - k = d + 1 by omega, List.getElem?_cons_succ, List.getElem?_drop]
  congr 1
theorem insAt_down {S : List Int} {x : Int} {p : Nat} (h : p + 1 ≤ S.length) : ((insAt S x (p + 1)).set (p + 1) (S.getD p 0)).set p x = insAt S x p := by
  have hl := insAt_len S x (p + 1)
  apply List.ext_getElem?
  intro j
  by_cases h1 : p = j
  · subst h1
    rw [List.getElem?_set_self (by rw [List.length_set]; omega), insAt_at (by omega)]
  · rw [List.getElem?_set_ne h1]
    by_cases h2 : p + 1 = j
    · subst h2
      rw [List.getElem?_set_self (by omega), insAt_high (by omega) (by omega)]
      simp [List.getD, show p < S.length by omega]
    · rw [List.getElem?_set_ne h2]
      by_cases h3 : j < p
      · rw [insAt_low h (by omega), insAt_low (by omega) h3]
      · rw [insAt_high h (by omega), insAt_high (by omega) (by omega)]
theorem insAt_sorted {S : List Int} {x : Int} {k : Nat} (hk : k ≤ S.length) (hs : S.Pairwise (fun a b => a ≤ b)) (hlow : k = 0 ∨ S.getD (k - 1) 0 ≤ x) (hhigh : ∀ j, k ≤ j → j < S.length → x < S.getD j 0) : (insAt S x k).Pairwise (fun a b => a ≤ b) := by
  rw [List.pairwise_iff_getElem] at hs
  have hget : ∀ j (h : j < S.length), S.getD j 0 = S[j] := fun j h => by simp [List.getD, h]
  unfold insAt
  rw [List.pairwise_append, List.pairwise_cons]
  refine ⟨List.pairwise_iff_getElem.2 fun i j hi hj hij => ?_, ⟨fun a ha => ?_, List.pairwise_iff_getElem.2 fun i j hi hj hij => ?_⟩, fun a ha b hb => ?_⟩
  · rw [List.length_take] at hi hj
    rw [List.getElem_take, List.getElem_take]
    exact hs i j (by omega) (by omega) hij
  · obtain ⟨j, hj, rfl⟩ := List.mem_iff_getElem.1 ha
    rw [List.length_drop] at hj
    rw [List.getElem_drop, ← hget _ (by omega)]
    exact Int.le_of_lt (hhigh _ (by omega) (by omega))
  · rw [List.length_drop] at hi hj
    rw [List.getElem_drop, List.getElem_drop]
    exact hs _ _ (by omega) (by omega) (by omega)
  · obtain ⟨i, hi, rfl⟩ := List.mem_iff_getElem.1 ha
    rw [List.length_take] at hi
    rw [List.getElem_take]
    have h1 : S[i] ≤ S[k - 1] := by
      by_cases e : i = k - 1
      · subst e; exact Int.le_refl _
      · exact hs i (k - 1) (by omega) (by omega) (by omega)
    have h2 : S[k - 1] ≤ x := by
      rcases hlow with h | h
      · omega
      · rw [← hget _ (by omega)]; exact h
    rcases List.mem_cons.1 hb with rfl | hb
    · omega
    · obtain ⟨j, hj, rfl⟩ := List.mem_iff_getElem.1 hb
      rw [List.length_drop] at hj
      rw [List.getElem_drop]
      have := hhigh (k + j) (by omega) (by omega)
      rw [hget _ (by omega)] at this
      omega
theorem srtI_sorted (L : List Int) : (srtI L).Pairwise (fun x y => x ≤ y) := by
  have := List.pairwise_mergeSort (le := fun x y : Int => decide (x ≤ y)) (fun a b c h1 h2 => by simp at *; omega) (fun a b => by simp; omega) L
  exact this.imp fun h => by simpa using h
theorem srtI_len (L : List Int) : (srtI L).length = L.length := by simp [srtI]
/-- the next number has gone down to its place -/
theorem ins_next {N : List Int} {n k : Nat} {x : Int} (hn : n < N.length) (hx : N[n] = x) (hk : k ≤ n) (hlow : k = 0 ∨ (srtI (N.take n)).getD (k - 1) 0 ≤ x) (hhigh : ∀ j, k ≤ j → j < n → x < (srtI (N.take n)).getD j 0) :
    insAt (srtI (N.take n)) x k = srtI (N.take (n + 1)) := by
  have hl : (srtI (N.take n)).length = n := by rw [srtI_len, List.length_take]; omega
  refine (srtI_eq ?_ ?_).symm
  · rw [List.take_succ_eq_append_getElem hn, hx]
    refine (insAt_perm _ _ _).trans ?_
    exact (List.mergeSort_perm _ _).append_right _
  · exact insAt_sorted (by omega) (srtI_sorted _) hlow (fun j h1 h2 => hhigh j h1 (by omega))
end Go.Proofs.YtigibomcaecbdaaGreat
