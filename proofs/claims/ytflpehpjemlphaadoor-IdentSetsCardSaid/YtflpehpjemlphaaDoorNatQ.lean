/- Plain facts of the natural order: beginnings; numbers behind a beginning. -/
import Derived.Test.YtflpehpjemlphaaDoorNatP
set_option linter.unusedSimpArgs false
set_option linter.unusedVariables false
namespace Go.Proofs.YtflpehpjemlphaaDoor

theorem take_append_of {p : UInt8 → Bool} {x y : List UInt8} (h : ∃ c ∈ x, p c = false) : (x ++ y).takeWhile p = x.takeWhile p ∧ (x ++ y).dropWhile p = x.dropWhile p ++ y := by
  induction x with
  | nil => simp at h
  | cons a t ih =>
    by_cases ha : p a = true
    · have h' : ∃ c ∈ t, p c = false := by
        obtain ⟨c, hc, hp⟩ := h
        rcases List.mem_cons.1 hc with rfl | hc
        · rw [ha] at hp; contradiction
        · exact ⟨c, hc, hp⟩
      obtain ⟨i1, i2⟩ := ih h'
      rw [List.cons_append, List.takeWhile_cons_of_pos ha, List.takeWhile_cons_of_pos ha, List.dropWhile_cons_of_pos ha, List.dropWhile_cons_of_pos ha, i1, i2]
      exact ⟨rfl, rfl⟩
    · rw [List.cons_append, List.takeWhile_cons_of_neg ha, List.takeWhile_cons_of_neg ha, List.dropWhile_cons_of_neg ha, List.dropWhile_cons_of_neg ha]
      exact ⟨rfl, rfl⟩
theorem take_all {p : UInt8 → Bool} {x : List UInt8} (y : List UInt8) (h : ∀ c ∈ x, p c = true) : (x ++ y).takeWhile p = x ++ y.takeWhile p ∧ (x ++ y).dropWhile p = y.dropWhile p := by
  induction x with
  | nil => exact ⟨rfl, rfl⟩
  | cons a t ih =>
    have ha := h a (List.mem_cons_self)
    obtain ⟨i1, i2⟩ := ih (fun c hc => h c (List.mem_cons_of_mem _ hc))
    rw [List.cons_append, List.takeWhile_cons_of_pos ha, List.dropWhile_cons_of_pos ha, i1, i2]
    exact ⟨rfl, rfl⟩
theorem all_or {p : UInt8 → Bool} (x : List UInt8) : (∀ c ∈ x, p c = true) ∨ ∃ c ∈ x, p c = false := by
  by_cases h : ∀ c ∈ x, p c = true
  · exact Or.inl h
  · right
    apply Classical.byContradiction
    intro hn
    apply h
    intro c hc
    cases hp : p c with
    | true => rfl
    | false => exact absurd ⟨c, hc, hp⟩ hn
theorem take_self {p : UInt8 → Bool} {x : List UInt8} (h : ∀ c ∈ x, p c = true) : x.takeWhile p = x ∧ x.dropWhile p = [] := by
  have := take_all (p := p) (x := x) [] h
  simpa using this
def str0 (l : List UInt8) : List UInt8 := l.dropWhile (· == 48)
/-- a number, and the same with more digits behind it -/
theorem num_pre (x y : List UInt8) : (str0 x).length ≤ (str0 (x ++ y)).length ∧ ((str0 x).length = (str0 (x ++ y)).length → str0 x = str0 (x ++ y)) := by
  unfold str0
  rcases all_or (p := (· == 48)) x with h | h
  · rw [(take_self h).2, (take_all y h).2]
    refine ⟨Nat.zero_le _, fun h => ?_⟩
    exact (List.eq_nil_of_length_eq_zero h.symm).symm
  · rw [(take_append_of (y := y) h).2, List.length_append]
    refine ⟨by omega, fun h => ?_⟩
    have : y = [] := List.eq_nil_of_length_eq_zero (by omega)
    subst this
    simp
theorem tokC_kind {a b : Tok} (h : a.1 = b.1) : tokC a b = thenC (onC (fun t : Tok => (t.2.length : Int)) Lib.compareInt) (onC Prod.snd Lib.compareBytes) a b := by
  unfold tokC
  rw [thenC, if_pos (by unfold onC; rw [h]; exact tot_int.refl _)]
theorem tok_pre {a b : Tok} (h : a.1 = b.1) (h1 : a.2.length ≤ b.2.length) (h2 : a.2.length = b.2.length → a.2 = b.2) : tokC a b ≤ 0 := by
  rw [tokC_kind h]
  unfold thenC onC
  by_cases e : a.2.length = b.2.length
  · have h3 := h2 e
    simp [h3, tot_int.refl, tot_bytes.refl]
  · have : Lib.compareInt (a.2.length : Int) (b.2.length : Int) = -1 := by
      unfold Lib.compareInt
      rw [if_pos (by omega)]
    simp only [this]
    rw [if_neg (by decide)]
    decide
/-- a beginning of a text never has greater pieces -/
theorem toks_pre : ∀ (n : Nat) (x y : List UInt8), x.length ≤ n → lexC tokC (toks x) (toks (x ++ y)) ≤ 0 := by
  intro n
  induction n with
  | zero =>
    intro x y h
    have : x = [] := List.eq_nil_of_length_eq_zero (by omega)
    subst this
    rw [toks_nil]
    cases toks ([] ++ y) <;> simp [lexC]
  | succ n ih =>
    intro x y h
    cases x with
    | nil =>
      rw [toks_nil]
      cases toks ([] ++ y) <;> simp [lexC]
    | cons c t =>
      have hne : c :: t ≠ [] := by simp
      have hne2 : (c :: t) ++ y ≠ [] := by simp
      have hr := rest_lt hne
      rw [toks_cons hne, toks_cons hne2, lexC]
      by_cases hc : dig c = true
      · rcases all_or (p := dig) (c :: t) with ha | ha
        · -- digits alone
          have e1 : restOf (c :: t) = [] := by rw [restOf, if_pos hc]; exact (take_self ha).2
          have k : tokC (tokOf (c :: t)) (tokOf (c :: t ++ y)) ≤ 0 := by
            have q := num_pre (c :: t) (y.takeWhile dig)
            refine tok_pre ?_ ?_ ?_
            · simp [tokOf, kindOf, hc]
            · simp only [tokOf, numOf, (take_all y ha).1, (take_self ha).1]
              exact q.1
            · simp only [tokOf, numOf, (take_all y ha).1, (take_self ha).1]
              exact q.2
          split
          · rw [e1, toks_nil]
            cases toks (restOf (c :: t ++ y)) <;> simp [lexC]
          · exact k
        · obtain ⟨e1, e2⟩ := take_append_of (y := y) ha
          have et : tokOf (c :: t ++ y) = tokOf (c :: t) := by
            simp only [tokOf, numOf, e1]
            simp [kindOf]
          rw [et, if_pos (tot_tok.refl _)]
          have er : restOf (c :: t ++ y) = restOf (c :: t) ++ y := by
            rw [List.cons_append, restOf, restOf, if_pos hc, if_pos hc, ← List.cons_append, e2]
          rw [er]
          exact ih _ _ (by simp only [List.length_cons] at h hr; omega)
      · have hf : dig c = false := by simpa using hc
        have et : tokOf (c :: t ++ y) = tokOf (c :: t) := by
          rw [List.cons_append]
          simp only [tokOf, numOf_none hf]
          simp [kindOf]
        rw [et, if_pos (tot_tok.refl _), List.cons_append, restOf, restOf, if_neg hc, if_neg hc]
        exact ih _ _ (by simp only [List.length_cons] at h; omega)
theorem nat_pre (x y : List UInt8) : natC x (x ++ y) ≤ 0 := by
  unfold natC thenC onC
  have := toks_pre _ x y (Nat.le_refl _)
  have := bytes_pre x y
  split <;> omega
end Go.Proofs.YtflpehpjemlphaaDoor
