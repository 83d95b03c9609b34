/- What one token more says of a whole source. -/
import Derived.Test.YtmokeegebbmdhaaGreatDoorLex
set_option linter.unusedSimpArgs false
set_option linter.unusedVariables false
namespace Go.Proofs.YtmokeegebbmdhaaGreatDoor
open Go.RowKit

/-- the tokens up to an offset are these -/
def UpTo (s : ByteArray) (k : Nat) (acc : List Tk) : Prop :=
  lexR (s.size + 1) s.data.toList 0 = (acc ++ (lexR (s.size - k + 1) (s.data.toList.drop k) k).1, (lexR (s.size - k + 1) (s.data.toList.drop k) k).2)
theorem upto_nil (s : ByteArray) : UpTo s 0 [] := by unfold UpTo; simp
theorem upto_step {s : ByteArray} (hs : s.size ≤ 65536) {k : Nat} {acc : List Tk} (hk : k ≤ s.size) (hL : UpTo s k acc) :
    ((firstL (s.data.toList.drop k) k).2.2.1 ≠ 0 → lexS s = ([], (firstL (s.data.toList.drop k) k).2.2)) ∧
    ((firstL (s.data.toList.drop k) k).2.2.1 = 0 → (firstL (s.data.toList.drop k) k).2.2 = (0, 0)) ∧
    ((firstL (s.data.toList.drop k) k).2.2.1 = 0 → (firstL (s.data.toList.drop k) k).1.k = 5 → lexS s = (acc ++ [(firstL (s.data.toList.drop k) k).1], 0, 0) ∧ (firstL (s.data.toList.drop k) k).2.1 = s.size ∧ (firstL (s.data.toList.drop k) k).1.a = (s.size : Int)) ∧
    ((firstL (s.data.toList.drop k) k).2.2.1 = 0 → (firstL (s.data.toList.drop k) k).1.k ≠ 5 → k < (firstL (s.data.toList.drop k) k).2.1 ∧ (firstL (s.data.toList.drop k) k).2.1 ≤ s.size ∧ UpTo s (firstL (s.data.toList.drop k) k).2.1 (acc ++ [(firstL (s.data.toList.drop k) k).1])) := by
  unfold UpTo at *
  have hLN := firstL_len (s.data.toList.drop k) k
  rw [List.length_drop, list_size] at hLN
  have hST : lexR (s.size - k + 1) (s.data.toList.drop k) k = if (firstL (s.data.toList.drop k) k).2.2.1 = 0 then (if (firstL (s.data.toList.drop k) k).1.k = 5 then ([(firstL (s.data.toList.drop k) k).1], 0, 0) else ((firstL (s.data.toList.drop k) k).1 :: (lexR (s.size - k) ((s.data.toList.drop k).drop ((firstL (s.data.toList.drop k) k).2.1 - k)) (firstL (s.data.toList.drop k) k).2.1).1, (lexR (s.size - k) ((s.data.toList.drop k).drop ((firstL (s.data.toList.drop k) k).2.1 - k)) (firstL (s.data.toList.drop k) k).2.1).2)) else ([], (firstL (s.data.toList.drop k) k).2.2) := rfl
  rw [hST] at hL
  have hS := lexS_small s hs
  generalize firstL (s.data.toList.drop k) k = x at *
  refine ⟨fun h0 => ?_, fun h0 => (hLN h0).2.2.2.2, fun h0 h5 => ?_, fun h0 h5 => ?_⟩
  · rw [if_neg h0] at hL
    rw [hS, hL, if_neg h0]
  · obtain ⟨_, _, _, l4, _⟩ := hLN h0
    obtain ⟨e1, e2⟩ := l4 h5
    rw [if_pos h0, if_pos h5] at hL
    refine ⟨by rw [hS, hL]; rfl, by omega, by rw [e2]; congr 1; omega⟩
  · obtain ⟨l1, l2, l3, _, _⟩ := hLN h0
    have l3 := l3 h5
    refine ⟨l3, by omega, ?_⟩
    rw [if_pos h0, if_neg h5, List.drop_drop, show k + (x.2.1 - k) = x.2.1 by omega] at hL
    rw [hL, lexR_fuel (s.size - k) (s.size - x.2.1 + 1) _ _ (by rw [List.length_drop, list_size]; omega) (by rw [List.length_drop, list_size]; omega)]
    simp
/-- a source without a fault has the token where it is read -/
theorem upto_at {s : ByteArray} (hs : s.size ≤ 65536) {k : Nat} {acc L : List Tk} (hL : UpTo s k acc) (h : lexS s = (L, 0, 0)) : L = acc ++ (lexR (s.size - k + 1) (s.data.toList.drop k) k).1 := by
  unfold UpTo at hL
  rw [lexS_small s hs] at h
  by_cases h1 : (lexR (s.size + 1) s.data.toList 0).2.1 = 0
  · rw [if_pos h1, hL] at h
    exact (congrArg Prod.fst h).symm
  · rw [if_neg h1] at h
    have := congrArg (fun x : List Tk × Int × Int => x.2.1) h
    exact absurd this h1
theorem lexS_no {s : ByteArray} (h : (lexS s).2.1 ≠ 0) : (lexS s).1 = [] := by
  unfold lexS at h ⊢
  split
  · rfl
  · rename_i h1
    rw [if_neg h1] at h
    split
    · rename_i h2
      rw [if_pos h2] at h
      exact absurd h2 h
    · rfl
theorem lexS_zero {s : ByteArray} (h : (lexS s).2.1 = 0) (hs : s.size ≤ 65536) : (lexS s).2 = (0, 0) := by
  rw [lexS_small s hs] at h ⊢
  by_cases h1 : (lexR (s.size + 1) s.data.toList 0).2.1 = 0
  · rw [if_pos h1]
    obtain ⟨_, _, _, _, _, _, h5, _⟩ := lexR_like (s.size + 1) s.data.toList 0 (by rw [list_size]; omega) h1
    exact h5
  · rw [if_neg h1] at h
    exact absurd h h1
end Go.Proofs.YtmokeegebbmdhaaGreatDoor
