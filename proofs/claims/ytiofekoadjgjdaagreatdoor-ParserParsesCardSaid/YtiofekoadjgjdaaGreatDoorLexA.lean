/- Tokens of two sources with a line break between them. -/
import Derived.Test.YtiofekoadjgjdaaGreatDoorLexJ
set_option linter.unusedSimpArgs false
set_option linter.unusedVariables false
namespace Go.Proofs.YtiofekoadjgjdaaGreatDoor
open Go.RowKit

theorem kB_nl : kB 10 = 1 := by decide
theorem run_nl : runB 10 = false := by decide
theorem skN_app : ∀ (b : Bool) (l r : List UInt8), skN b (l ++ 10 :: r) = if skN b l < l.length then skN b l else l.length + 1 + skN false r
  | true, [], r => by simp [skN]; omega
  | false, [], r => by
    have : skN false (10 :: r) = skN false r + 1 := by rw [skN, if_neg (by rw [kB_nl]; decide), if_pos kB_nl]
    simp [this]; omega
  | true, c :: t, r => by
    have ih := skN_app (c != 10) t r
    have hle := skN_le (c != 10) t
    rw [List.cons_append, show skN true (c :: (t ++ 10 :: r)) = skN (c != 10) (t ++ 10 :: r) + 1 from rfl, ih, show skN true (c :: t) = skN (c != 10) t + 1 from rfl, List.length_cons]
    by_cases hq : skN (c != 10) t < t.length
    · rw [if_pos hq, if_pos (by omega)]
    · rw [if_neg hq, if_neg (by omega)]; omega
  | false, c :: t, r => by
    have i1 := skN_app true t r
    have i2 := skN_app false t r
    have h1 := skN_le true t
    have h2 := skN_le false t
    simp only [List.cons_append, skN, List.length_cons]
    split
    · rw [i1]; split <;> split <;> omega
    · split
      · rw [i2]; split <;> split <;> omega
      · rw [if_pos (by omega)]
theorem tw_nl (l r : List UInt8) : (l ++ 10 :: r).takeWhile runB = l.takeWhile runB := by
  induction l with
  | nil => simp [run_nl]
  | cons c t ih =>
    simp only [List.cons_append, List.takeWhile_cons, ih]
theorem quo_app : ∀ (t r : List UInt8), (quoL t).length < t.length → quoL (t ++ r) = quoL t
  | [], r, h => by simp at h
  | c :: t, r, h => by
    unfold quoL at h ⊢
    simp only [List.cons_append, List.takeWhile_cons] at h ⊢
    split at h
    · rename_i hc
      rw [if_pos hc, if_pos hc]
      have := quo_app t r (by unfold quoL; simp at h; exact h)
      unfold quoL at this
      rw [this]
    · rename_i hc
      rw [if_neg hc, if_neg hc]
theorem readL_app {l : List UInt8} (hl : l ≠ []) (h : (readL l).2.2 = 0) (r : List UInt8) : readL (l ++ 10 :: r) = readL l := by
  cases l with
  | nil => exact absurd rfl hl
  | cons c t =>
    rw [List.cons_append, readL_cons] 
    rw [readL_cons] at h ⊢
    split
    · rw [← List.cons_append, tw_nl]
    · rename_i h1
      rw [if_neg h1] at h
      split
      · rename_i h2
        rw [if_pos h2] at h
        obtain ⟨_, hq, _⟩ := strR_len t h
        have hqa := quo_app t (10 :: r) hq
        unfold strR
        rw [hqa, if_neg (by simp; omega), if_neg (show ¬ (quoL t).length = t.length by omega)]
      · rfl
/-- the first token does not see what stands behind a line break -/
theorem firstL_app (l r : List UInt8) (p : Nat) (h : (firstL l p).2.2.1 = 0) (h5 : (firstL l p).1.k ≠ 5) : firstL (l ++ 10 :: r) p = firstL l p ∧ (firstL l p).2.1 - p ≤ l.length := by
  have hle := skN_le false l
  have hne : l.drop (skN false l) ≠ [] := by
    intro e
    apply h5
    unfold firstL
    rw [e]; rfl
  have hlt : skN false l < l.length := by
    rw [Ne, List.drop_eq_nil_iff] at hne; omega
  have hr0 : (readL (l.drop (skN false l))).2.2 = 0 := by
    unfold firstL at h
    split at h
    · assumption
    · exact h
  have hd : (l ++ 10 :: r).drop (skN false l) = l.drop (skN false l) ++ 10 :: r := by
    rw [List.drop_append_of_le_length hle]
  have hs : skN false (l ++ 10 :: r) = skN false l := by rw [skN_app, if_pos hlt]
  constructor
  · unfold firstL
    rw [hs, hd, readL_app hne hr0]
  · unfold firstL
    rw [if_pos hr0]
    have := (readL_len _ hr0).1
    simp at this ⊢
    omega
/-- at the end of the first source the second one begins -/
theorem firstL_end (l r : List UInt8) (p : Nat) (h : (firstL l p).2.2.1 = 0) (h5 : (firstL l p).1.k = 5) : (firstL l p).2.1 = p + l.length ∧ firstL (l ++ 10 :: r) p = firstL r (p + l.length + 1) := by
  have hle := skN_le false l
  have hr0 : (readL (l.drop (skN false l))).2.2 = 0 := by
    unfold firstL at h
    split at h
    · assumption
    · exact h
  have he : l.drop (skN false l) = [] := by
    refine (readL_len _ hr0).2.2 ?_
    unfold firstL at h5
    rw [if_pos hr0] at h5
    exact h5
  have hge : l.length ≤ skN false l := by rwa [List.drop_eq_nil_iff] at he
  have hs : skN false (l ++ 10 :: r) = l.length + 1 + skN false r := by rw [skN_app, if_neg (by omega)]
  have hd : (l ++ 10 :: r).drop (l.length + 1) = r := by
    rw [show l ++ 10 :: r = (l ++ [10]) ++ r by simp, List.drop_left' (by simp)]
  refine ⟨?_, ?_⟩
  · unfold firstL
    rw [he]
    simp [readL]
    omega
  · have := firstL_skip (l ++ 10 :: r) p (l.length + 1) (by rw [hd]; exact hs)
    rw [this, hd]
    rfl
/-- tokens of two sources with a line break between them -/
theorem lexR_app : ∀ (f : Nat) (l : List UInt8) (p : Nat), l.length < f → (lexR f l p).2.1 = 0 → ∀ (r : List UInt8) (g : Nat), (l ++ 10 :: r).length < g →
    (lexR g (l ++ 10 :: r) p).1 = (lexR f l p).1.dropLast ++ (lexR g r (p + l.length + 1)).1 ∧ (lexR g (l ++ 10 :: r) p).2 = (lexR g r (p + l.length + 1)).2
  | 0, _, _, h, _, _, _, _ => by omega
  | f + 1, l, p, hf, h, r, 0, hg => by omega
  | f + 1, l, p, hf, h, r, g + 1, hg => by
    simp only [List.length_append, List.length_cons] at hg
    by_cases h0 : (firstL l p).2.2.1 = 0
    · by_cases h5 : (firstL l p).1.k = 5
      · obtain ⟨e1, e2⟩ := firstL_end l r p h0 h5
        have hl : (lexR (f + 1) l p).1 = [(firstL l p).1] := by
          rw [lexR, if_pos h0, if_pos h5]
        rw [hl]
        have hx : lexR (g + 1) (l ++ 10 :: r) p = lexR (g + 1) r (p + l.length + 1) := by
          have hd : (l ++ 10 :: r).drop (l.length + 1) = r := by
            rw [show l ++ 10 :: r = (l ++ [10]) ++ r by simp, List.drop_left' (by simp)]
          have := lexR_skip (g + 1) (l ++ 10 :: r) p (l.length + 1) (by
            rw [hd, skN_app, if_neg ?_]
            have h1 := firstL_len l p h0
            intro hlt
            have hr0 : (readL (l.drop (skN false l))).2.2 = 0 := by
              unfold firstL at h0
              split at h0
              · assumption
              · exact h0
            have he : l.drop (skN false l) = [] := by
              refine (readL_len _ hr0).2.2 ?_
              unfold firstL at h5
              rw [if_pos hr0] at h5
              exact h5
            rw [List.drop_eq_nil_iff] at he
            omega)
          rw [hd] at this
          rw [this, Nat.add_assoc]
        rw [hx]
        exact ⟨rfl, rfl⟩
      · obtain ⟨e1, e2⟩ := firstL_app l r p h0 h5
        obtain ⟨_, n2, n3, _⟩ := firstL_len l p h0
        have n1 := n3 h5
        have hs : lexR (f + 1) l p = ((firstL l p).1 :: (lexR f (l.drop ((firstL l p).2.1 - p)) (firstL l p).2.1).1, (lexR f (l.drop ((firstL l p).2.1 - p)) (firstL l p).2.1).2) := by
          rw [lexR, if_pos h0, if_neg h5]
        have hz : lexR (g + 1) (l ++ 10 :: r) p = ((firstL l p).1 :: (lexR g ((l ++ 10 :: r).drop ((firstL l p).2.1 - p)) (firstL l p).2.1).1, (lexR g ((l ++ 10 :: r).drop ((firstL l p).2.1 - p)) (firstL l p).2.1).2) := by
          rw [lexR, e1, if_pos h0, if_neg h5]
        rw [hs] at h ⊢
        rw [hz]
        simp only at h ⊢
        rw [List.drop_append_of_le_length e2]
        obtain ⟨i1, i2⟩ := lexR_app f (l.drop ((firstL l p).2.1 - p)) (firstL l p).2.1 (by simp; omega) h r g (by simp; omega)
        have hq : (firstL l p).2.1 + (l.drop ((firstL l p).2.1 - p)).length + 1 = p + l.length + 1 := by simp; omega
        rw [hq] at i1 i2
        have hfu := lexR_fuel g (g + 1) r (p + l.length + 1) (by omega) (by omega)
        rw [i1, i2, hfu]
        refine ⟨?_, rfl⟩
        have hne : (lexR f (l.drop ((firstL l p).2.1 - p)) (firstL l p).2.1).1 ≠ [] := by
          obtain ⟨ts, e, h1, _⟩ := lexR_like f _ _ (show (l.drop ((firstL l p).2.1 - p)).length < f by simp; omega) h
          rw [h1]; simp
        rw [List.dropLast_cons_of_ne_nil hne]
        rfl
    · rw [lexR, if_neg h0] at h
      exact absurd h h0
end Go.Proofs.YtiofekoadjgjdaaGreatDoor
