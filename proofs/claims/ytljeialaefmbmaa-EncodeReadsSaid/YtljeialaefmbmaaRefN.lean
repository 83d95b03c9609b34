/- Plain facts: the digits of a number, as the reference reads them and as the code does. -/
import Derived.Test.YtljeialaefmbmaaSplit
set_option linter.unusedSimpArgs false
set_option linter.unusedVariables false
namespace Go.Proofs.Ytljeialaefmbmaa
open Go.RowKit

/-- how many digits stand at an offset -/
def digR (s : ByteArray) (a : Nat) : Nat := digN s.size s a
theorem digR_le {s : ByteArray} {a : Nat} (h : a ≤ s.size) : a + digR s a ≤ s.size := (digN_le s.size s a).2 h
theorem digR_in {s : ByteArray} {a k : Nat} (h : k < digR s a) (hk : a + k < s.size) : 48 ≤ ((s[a + k]'hk).toNat : Int) ∧ ((s[a + k]'hk).toNat : Int) ≤ 57 := isDig_out (digN_dig s.size s a k h hk)
theorem digR_out {s : ByteArray} {a : Nat} (hk : a + digR s a < s.size) : ¬ (48 ≤ at8 s (a + digR s a) ∧ at8 s (a + digR s a) ≤ 57) := by
  have := digN_end s.size s a (by unfold digR at hk; omega) hk
  unfold digR at hk ⊢
  rw [at8_eq hk]
  unfold isDig at this
  simpa using this
theorem digN_min (s : ByteArray) : ∀ (m n a : Nat), digN (min m n) s a = min m (digN n s a) := by
  intro m
  induction m with
  | zero => intro n a; simp [digN]
  | succ m ih =>
    intro n a
    cases n with
    | zero => simp [digN]
    | succ n =>
      rw [Nat.succ_min_succ, digN_s, digN_s]
      split
      · rw [ih]; omega
      · simp
theorem dig19 {s : ByteArray} {a : Nat} : digN 19 s a = min 19 (digR s a) := by
  rcases Nat.le_total 19 s.size with h | h
  · have := digN_min s 19 s.size a
    rwa [Nat.min_eq_left h] at this
  · have := digN_min s s.size 19 a
    rw [Nat.min_eq_left h] at this
    have h2 := (digN_le 19 s a).2
    unfold digR
    rw [this]
    have h3 := (digN_le 19 s a).1
    rcases Nat.le_total a s.size with h4 | h4
    · have := h2 h4; omega
    · have : digN 19 s a = 0 := by
        rw [digN_s]
        rw [if_neg (fun h => by omega)]
      omega
theorem numN_mono {s : ByteArray} {a : Nat} (hk : a + digR s a ≤ s.size) : ∀ (j k : Nat), j ≤ k → k ≤ digR s a → 0 ≤ numN s a j ∧ numN s a j ≤ numN s a k := by
  intro j k hjk hkr
  have nn : ∀ i, i ≤ digR s a → 0 ≤ numN s a i := fun i hi => (numN_bd s a i (by omega) (fun q h' hq => digN_dig s.size s a q (by unfold digR at hi; omega) hq)).1
  refine ⟨nn j (by omega), ?_⟩
  induction k with
  | zero =>
    obtain rfl : j = 0 := by omega
    exact Int.le_refl _
  | succ k ih =>
    rcases Nat.lt_or_ge k j with h | h
    · obtain rfl : j = k + 1 := by omega
      exact Int.le_refl _
    · have h1 := ih h (by omega)
      have h2 := digR_in (s := s) (a := a) (k := k) (by omega) (by omega)
      have h3 := nn k (by omega)
      rw [numN_step s a k (by omega)]
      omega
theorem numN_big {s : ByteArray} {a : Nat} (hk : a + digR s a ≤ s.size) (h0 : 0 < digR s a) (hz : at8 s a ≠ 48) : ∀ (k : Nat), k < digR s a → (10 : Int) ^ k ≤ numN s a (k + 1) := by
  intro k
  induction k with
  | zero =>
    intro _
    have h2 := digR_in (s := s) (a := a) (k := 0) h0 (by omega)
    rw [at8_eq (by omega)] at hz
    rw [numN_step s a 0 (by omega)]
    simp only [Nat.add_zero] at h2 ⊢
    simp only [numN]
    omega
  | succ k ih =>
    intro h
    have h1 := ih (by omega)
    have h2 := digR_in (s := s) (a := a) (k := k + 1) (by omega) (by omega)
    rw [numN_step s a (k + 1) (by omega), Int.pow_succ]
    omega
/-- what the reference's digits gives -/
def digS (s : ByteArray) (a : Nat) (most : Int) : Int × Nat × Bool :=
  if digR s a ≠ 0 ∧ ¬ (at8 s a = 48 ∧ 1 < digR s a) ∧ numN s a (digR s a) ≤ most then (numN s a (digR s a), a + digR s a, true) else (0, 0, false)
/-- the reference's way to a number that a mark ends -/
def digM (s : ByteArray) (a : Nat) (most : Int) (mark : Nat) : Prop := (digS s a most).2.2 = true ∧ (digS s a most).2.1 < s.size ∧ at8 s (digS s a most).2.1 = mark
theorem rnum_digM {s : ByteArray} {a : Nat} {most : Int} {mark : UInt8} (ha : a ≤ s.size) (hm : most < 10000000000000000000) (hmark : ¬ (48 ≤ mark.toNat ∧ mark.toNat ≤ 57)) :
    ((rnumS s a mark).2 ≠ 0 ∧ (rnumS s a mark).1 ≤ most → digM s a most mark.toNat ∧ digS s a most = ((rnumS s a mark).1, (rnumS s a mark).2 - 1, true)) ∧
    (digM s a most mark.toNat → (rnumS s a mark).2 ≠ 0 ∧ (rnumS s a mark).1 ≤ most) := by
  have hR := digR_le ha
  have h19 := @dig19 s a
  constructor
  · rintro ⟨h0, hle⟩
    unfold rnumS at h0 hle
    by_cases hc : digN 19 s a ≠ 0 ∧ a + digN 19 s a < s.size ∧ at8 s (a + digN 19 s a) = mark.toNat ∧ ¬ (at8 s a = 48 ∧ 1 < digN 19 s a)
    · rw [if_pos hc] at h0 hle
      obtain ⟨c1, c2, c3, c4⟩ := hc
      have hr : digN 19 s a = digR s a := by
        rcases Nat.lt_or_ge (digN 19 s a) (digR s a) with h | h
        · have := digR_in (s := s) (a := a) h c2
          rw [← at8_eq c2, c3] at this
          omega
        · omega
      have e1 : rnumS s a mark = (numN s a (digN 19 s a), a + digN 19 s a + 1) := by unfold rnumS; rw [if_pos ⟨c1, c2, c3, c4⟩]
      rw [hr] at c1 c2 c3 c4 hle e1
      have e2 : digS s a most = (numN s a (digR s a), a + digR s a, true) := by
        unfold digS
        rw [if_pos ⟨c1, c4, hle⟩]
      refine ⟨?_, ?_⟩
      · unfold digM
        rw [e2]
        exact ⟨rfl, c2, c3⟩
      · rw [e2, e1]
        rfl
    · rw [if_neg hc] at h0
      exact absurd rfl h0
  · rintro ⟨d1, d2, d3⟩
    unfold digS at d1 d2 d3
    by_cases hc : digR s a ≠ 0 ∧ ¬ (at8 s a = 48 ∧ 1 < digR s a) ∧ numN s a (digR s a) ≤ most
    · rw [if_pos hc] at d1 d2 d3
      obtain ⟨c1, c2, c3⟩ := hc
      simp only at d2 d3
      have hr : digN 19 s a = digR s a := by
        rcases Nat.lt_or_ge 19 (digR s a) with h | h
        · exfalso
          have hz : at8 s a ≠ 48 := fun hz => c2 ⟨hz, by omega⟩
          have h1 := numN_big hR (by omega) hz 19 h
          have h2 := numN_mono hR 20 (digR s a) (by omega) (Nat.le_refl _)
          have h3 : (10 : Int) ^ 19 = 10000000000000000000 := by decide
          simp only [Nat.reduceAdd] at h1
          omega
        · omega
      have e1 : rnumS s a mark = (numN s a (digR s a), a + digR s a + 1) := by
        unfold rnumS
        rw [hr, if_pos ⟨c1, d2, d3, c2⟩]
      rw [e1]
      exact ⟨by simp, c3⟩
    · rw [if_neg hc] at d1
      simp at d1
end Go.Proofs.Ytljeialaefmbmaa
