/- Plain facts of the natural order: numbers in decimal digits behind the same beginning. -/
import Derived.Test.YtflpehpjemlphaaDoorNatQ
set_option linter.unusedSimpArgs false
set_option linter.unusedVariables false
namespace Go.Proofs.YtflpehpjemlphaaDoor

/-- a number in decimal digits -/
def decF : Nat → Nat → List UInt8
  | 0, n => [UInt8.ofNat (48 + n % 10)]
  | f + 1, n => if n < 10 then [UInt8.ofNat (48 + n)] else decF f (n / 10) ++ [UInt8.ofNat (48 + n % 10)]
def valL (l : List UInt8) : Nat := l.foldl (fun a c => a * 10 + (c.toNat - 48)) 0
theorem valL_snoc (l : List UInt8) (c : UInt8) : valL (l ++ [c]) = valL l * 10 + (c.toNat - 48) := by simp [valL]
theorem val_acc (l : List UInt8) (a : Nat) : l.foldl (fun a c => a * 10 + (c.toNat - 48)) a = a * 10 ^ l.length + valL l := by
  induction l generalizing a with
  | nil => simp [valL]
  | cons c t ih =>
    unfold valL
    rw [List.foldl_cons, List.foldl_cons, ih, ih (0 * 10 + (c.toNat - 48)), List.length_cons, Nat.pow_succ, Nat.add_mul, Nat.mul_assoc, Nat.mul_comm 10, Nat.zero_mul, Nat.zero_add]
    omega
theorem valL_cons (c : UInt8) (t : List UInt8) : valL (c :: t) = (c.toNat - 48) * 10 ^ t.length + valL t := by
  have := val_acc t (c.toNat - 48)
  rw [← this]
  simp [valL]
theorem dig_iff {c : UInt8} : dig c = true ↔ 48 ≤ c.toNat ∧ c.toNat ≤ 57 := by simp [dig]
theorem val_lt {l : List UInt8} (h : ∀ c ∈ l, dig c = true) : valL l < 10 ^ l.length := by
  induction l with
  | nil => simp [valL]
  | cons c t ih =>
    have h1 := dig_iff.1 (h c (List.mem_cons_self))
    have h2 := ih (fun x hx => h x (List.mem_cons_of_mem _ hx))
    rw [valL_cons, List.length_cons, Nat.pow_succ]
    have h3 : (c.toNat - 48) * 10 ^ t.length ≤ 9 * 10 ^ t.length := Nat.mul_le_mul_right _ (by omega)
    omega
theorem bytes_val : ∀ (x y : List UInt8), x.length = y.length → (∀ c ∈ x, dig c = true) → (∀ c ∈ y, dig c = true) → valL x < valL y → Lib.compareBytes x y = -1
  | [], [], _, _, _, h => by simp [valL] at h
  | [], _ :: _, h, _, _, _ => by simp at h
  | _ :: _, [], h, _, _, _ => by simp at h
  | a :: as, b :: bs, hl, hx, hy, hv => by
    have ha := dig_iff.1 (hx a (List.mem_cons_self))
    have hb := dig_iff.1 (hy b (List.mem_cons_self))
    have hla : as.length = bs.length := by simpa using hl
    have va := val_lt (fun c hc => hx c (List.mem_cons_of_mem _ hc))
    have vb := val_lt (fun c hc => hy c (List.mem_cons_of_mem _ hc))
    rw [valL_cons, valL_cons, hla] at hv
    rw [hla] at va
    unfold Lib.compareBytes
    simp only [UInt8.lt_iff_toNat_lt]
    by_cases h1 : a.toNat < b.toNat
    · rw [if_pos h1]
    · rw [if_neg h1]
      by_cases h2 : b.toNat < a.toNat
      · exfalso
        have h3 : (b.toNat - 48 + 1) * 10 ^ bs.length ≤ (a.toNat - 48) * 10 ^ bs.length := Nat.mul_le_mul_right _ (by omega)
        rw [Nat.add_mul] at h3
        omega
      · rw [if_neg h2]
        have e : a.toNat = b.toNat := by omega
        rw [e] at hv
        exact bytes_val as bs hla (fun c hc => hx c (List.mem_cons_of_mem _ hc)) (fun c hc => hy c (List.mem_cons_of_mem _ hc)) (by omega)
/-- a proper number: empty, or without a leading zero -/
def Proper (l : List UInt8) : Prop := (∀ c ∈ l, dig c = true) ∧ ∀ c t, l = c :: t → c.toNat ≠ 48
theorem proper_ge {l : List UInt8} (h : Proper l) (hl : l ≠ []) : 10 ^ (l.length - 1) ≤ valL l := by
  cases l with
  | nil => exact absurd rfl hl
  | cons c t =>
    have h1 := dig_iff.1 (h.1 c (List.mem_cons_self))
    have h2 := h.2 c t rfl
    rw [valL_cons]
    have : 1 * 10 ^ t.length ≤ (c.toNat - 48) * 10 ^ t.length := Nat.mul_le_mul_right _ (by omega)
    simp only [List.length_cons, Nat.add_sub_cancel]
    omega
theorem proper_cmp {x y : List UInt8} (hx : Proper x) (hy : Proper y) (hv : valL x < valL y) : tokC (48, x) (48, y) < 0 := by
  rw [tokC_kind (a := (48, x)) (b := (48, y)) rfl]
  unfold thenC onC
  simp only
  rcases Nat.lt_trichotomy x.length y.length with h | h | h
  · have : Lib.compareInt (x.length : Int) (y.length : Int) = -1 := by
      unfold Lib.compareInt
      rw [if_pos (by omega)]
    rw [this, if_neg (by decide)]
    decide
  · rw [h, tot_int.refl, if_pos rfl, bytes_val x y h hx.1 hy.1 hv]
    decide
  · exfalso
    have hx0 : x ≠ [] := by rintro rfl; simp at h
    have a := proper_ge hx hx0
    have b := val_lt hy.1
    have c : 10 ^ y.length ≤ 10 ^ (x.length - 1) := Nat.pow_le_pow_right (by omega) (by omega)
    omega
theorem toNat48 (n : Nat) (h : n < 10) : (UInt8.ofNat (48 + n)).toNat = 48 + n := by
  rw [UInt8.toNat_ofNat']
  omega
theorem decF_facts : ∀ (f n : Nat), n < 10 ^ (f + 1) → (∀ c ∈ decF f n, dig c = true) ∧ valL (decF f n) = n ∧ decF f n ≠ [] ∧ (n ≠ 0 → Proper (decF f n)) ∧ (n = 0 → decF f n = [48]) := by
  intro f
  induction f with
  | zero =>
    intro n h
    have hn : n < 10 := by simpa using h
    have e : n % 10 = n := by omega
    have t := toNat48 n hn
    have hd : dig (UInt8.ofNat (48 + n)) = true := by rw [dig_iff, t]; omega
    unfold decF
    rw [e]
    refine ⟨?_, ?_, by simp, fun h0 => ⟨?_, ?_⟩, fun h0 => by subst h0; rfl⟩
    · simpa using hd
    · simp only [valL, List.foldl_cons, List.foldl_nil, t]; omega
    · simpa using hd
    · intro c t' hc
      simp only [List.cons.injEq] at hc
      rw [← hc.1, t]
      omega
  | succ f ih =>
    intro n h
    unfold decF
    by_cases hn : n < 10
    · rw [if_pos hn]
      have t := toNat48 n hn
      have hd : dig (UInt8.ofNat (48 + n)) = true := by rw [dig_iff, t]; omega
      refine ⟨?_, ?_, by simp, fun h0 => ⟨?_, ?_⟩, fun h0 => by subst h0; rfl⟩
      · simpa using hd
      · simp only [valL, List.foldl_cons, List.foldl_nil, t]; omega
      · simpa using hd
      · intro c t' hc
        simp only [List.cons.injEq] at hc
        rw [← hc.1, t]
        omega
    · rw [if_neg hn]
      have hq : n / 10 < 10 ^ (f + 1) := by rw [Nat.pow_succ] at h; omega
      obtain ⟨i1, i2, i3, i4, i5⟩ := ih (n / 10) hq
      have t := toNat48 (n % 10) (by omega)
      have hd : dig (UInt8.ofNat (48 + n % 10)) = true := by rw [dig_iff, t]; omega
      have all : ∀ c ∈ decF f (n / 10) ++ [UInt8.ofNat (48 + n % 10)], dig c = true := by
        intro c hc
        rcases List.mem_append.1 hc with hc | hc
        · exact i1 c hc
        · rw [List.mem_singleton.1 hc]; exact hd
      refine ⟨all, ?_, by simp, fun h0 => ⟨all, ?_⟩, fun h0 => by omega⟩
      · rw [valL_snoc, i2, t]; omega
      · intro c t' hc
        have p := i4 (by omega)
        cases hx : decF f (n / 10) with
        | nil => exact absurd hx i3
        | cons d ds =>
          rw [hx, List.cons_append] at hc
          simp only [List.cons.injEq] at hc
          rw [← hc.1]
          exact p.2 d ds hx
/-- the decimal digits without leading zeros -/
theorem str0_proper {l : List UInt8} (h : Proper l) : str0 l = l := by
  cases l with
  | nil => rfl
  | cons c t =>
    have h2 := h.2 c t rfl
    unfold str0
    rw [List.dropWhile_cons_of_neg]
    intro hc
    apply h2
    have : c = 48 := by simpa using hc
    rw [this]; rfl
theorem str0_dec (f n : Nat) (h : n < 10 ^ (f + 1)) : Proper (str0 (decF f n)) ∧ valL (str0 (decF f n)) = n := by
  obtain ⟨a, b, c, d, e⟩ := decF_facts f n h
  by_cases h0 : n = 0
  · rw [e h0]
    have : str0 [48] = [] := rfl
    rw [this]
    exact ⟨⟨by simp, by simp⟩, by rw [h0]; rfl⟩
  · rw [str0_proper (d h0)]
    exact ⟨d h0, b⟩
/-- a text that does not begin with a digit -/
def NoDig (l : List UInt8) : Prop := ∀ c t, l = c :: t → dig c = false
theorem tok_dec (f n : Nat) (h : n < 10 ^ (f + 1)) {a : List UInt8} (ha : NoDig a) : tokOf (decF f n ++ a) = (48, str0 (decF f n)) := by
  obtain ⟨d1, d2, d3, _⟩ := decF_facts f n h
  have t : (decF f n ++ a).takeWhile dig = decF f n := by
    rw [(take_all a d1).1]
    cases a with
    | nil => simp
    | cons c t => rw [List.takeWhile_cons_of_neg (by rw [ha c t rfl]; simp)]; simp
  unfold tokOf numOf
  rw [t]
  congr 1
  cases hx : decF f n with
  | nil => exact absurd hx d3
  | cons c t =>
    have : dig c = true := d1 c (by rw [hx]; exact List.mem_cons_self)
    simp [kindOf, this]
theorem numbers_lt (f m n : Nat) (hm : m < 10 ^ (f + 1)) (hn : n < 10 ^ (f + 1)) {a b : List UInt8} (ha : NoDig a) (hb : NoDig b) (h : m < n) : lexC tokC (toks (decF f m ++ a)) (toks (decF f n ++ b)) < 0 := by
  have e1 : decF f m ++ a ≠ [] := by simp [(decF_facts f m hm).2.2.1]
  have e2 : decF f n ++ b ≠ [] := by simp [(decF_facts f n hn).2.2.1]
  rw [toks_cons e1, toks_cons e2, lexC, tok_dec f m hm ha, tok_dec f n hn hb]
  obtain ⟨p1, v1⟩ := str0_dec f m hm
  obtain ⟨p2, v2⟩ := str0_dec f n hn
  have := proper_cmp p1 p2 (by omega)
  rw [if_neg (by omega)]
  exact this
/-- the same beginning, which does not end in a digit, counts for nothing -/
def EndNoDig (l : List UInt8) : Prop := ∀ t c, l = t ++ [c] → dig c = false
theorem toks_same : ∀ (k : Nat) (p x y : List UInt8), p.length ≤ k → EndNoDig p → lexC tokC (toks (p ++ x)) (toks (p ++ y)) = lexC tokC (toks x) (toks y) := by
  intro k
  induction k with
  | zero =>
    intro p x y h _
    have : p = [] := List.eq_nil_of_length_eq_zero (by omega)
    subst this
    rfl
  | succ k ih =>
    intro p x y h he
    cases p with
    | nil => rfl
    | cons c t =>
      have hne1 : (c :: t) ++ x ≠ [] := by simp
      have hne2 : (c :: t) ++ y ≠ [] := by simp
      rw [toks_cons hne1, toks_cons hne2, lexC]
      by_cases hc : dig c = true
      · rcases all_or (p := dig) (c :: t) with ha | ha
        · exfalso
          have hl : c :: t ≠ [] := by simp
          have := he _ _ (List.dropLast_concat_getLast hl).symm
          rw [ha _ (List.getLast_mem hl)] at this
          contradiction
        · obtain ⟨e1, e2⟩ := take_append_of (y := x) ha
          obtain ⟨e3, e4⟩ := take_append_of (y := y) ha
          have et : tokOf (c :: t ++ x) = tokOf (c :: t ++ y) := by
            simp only [tokOf, numOf, e1, e3]
            simp [kindOf]
          rw [et, if_pos (tot_tok.refl _)]
          have er1 : restOf (c :: t ++ x) = (c :: t).dropWhile dig ++ x := by
            rw [List.cons_append, restOf, if_pos hc, ← List.cons_append, e2]
          have er2 : restOf (c :: t ++ y) = (c :: t).dropWhile dig ++ y := by
            rw [List.cons_append, restOf, if_pos hc, ← List.cons_append, e4]
          rw [er1, er2]
          have hr := rest_lt (l := c :: t) (by simp)
          rw [restOf, if_pos hc] at hr
          refine ih _ x y (by simp only [List.length_cons] at h hr; omega) ?_
          intro t' c' hcc
          have hs := List.takeWhile_append_dropWhile (p := dig) (l := c :: t)
          rw [hcc, ← List.append_assoc] at hs
          exact he _ _ hs.symm
      · have hf : dig c = false := by simpa using hc
        have et : tokOf (c :: t ++ x) = tokOf (c :: t ++ y) := by
          rw [List.cons_append, List.cons_append]
          simp only [tokOf, numOf_none hf]
          simp [kindOf]
        rw [et, if_pos (tot_tok.refl _), List.cons_append, List.cons_append, restOf, restOf, if_neg hc, if_neg hc]
        refine ih _ x y (by simp only [List.length_cons] at h; omega) ?_
        intro t' c' hcc
        exact he (c :: t') c' (by rw [hcc]; rfl)
theorem numbers_nat (f m n : Nat) (hm : m < 10 ^ (f + 1)) (hn : n < 10 ^ (f + 1)) {p a b : List UInt8} (hp : EndNoDig p) (ha : NoDig a) (hb : NoDig b) (hmn : m ≠ n) : natC (p ++ (decF f m ++ a)) (p ++ (decF f n ++ b)) < 0 ↔ m < n := by
  unfold natC thenC onC
  rw [toks_same _ p _ _ (Nat.le_refl _) hp]
  have tt := (tot_tok.lex).turn (toks (decF f m ++ a)) (toks (decF f n ++ b))
  rcases Nat.lt_or_gt_of_ne hmn with h | h
  · have := numbers_lt f m n hm hn ha hb h
    rw [if_neg (by omega)]
    exact ⟨fun _ => h, fun _ => this⟩
  · have := numbers_lt f n m hn hm hb ha h
    rw [if_neg (by omega)]
    exact ⟨fun _ => by omega, fun _ => by omega⟩
end Go.Proofs.YtflpehpjemlphaaDoor
