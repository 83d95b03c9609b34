/- Entries: a step of the reading, both ways; two lists of tokens, one behind the other. -/
import Derived.Test.YtohalocbghhenaaGreatDoorParP
set_option linter.unusedSimpArgs false
set_option linter.unusedVariables false
namespace Go.Proofs.YtohalocbghhenaaGreatDoor
open Go.RowKit

abbrev PR := Cls × List Tk × Int × Int
def consR (t : Tk) (xs : List Tk) (b : Bool) (k : Cls) (q : PR) : PR := if q.2.2.1 = 0 then (.cons t.t xs b k t.a q.1, q.2.1, 0, 0) else (.nil, [], q.2.2)
theorem parL_ends {f o : Nat} {t : Tk} {l : List Tk} (h : endsB o t = true) : parL (f + 1) o (t :: l) = (.nil, l, 0, 0) := by
  unfold parL; rw [if_pos h]
theorem parL_semi {f o : Nat} {t d : Tk} {l m : List Tk} (he : endsB o t = false) (hk : t.k = 1) (hd : l.dropWhile atmB = d :: m) (h5 : sgn d 59 = true) :
    parL (f + 1) o (t :: l) = consR t (l.takeWhile atmB) false .nil (parL f o m) := by
  rw [parL]
  rw [if_neg (by rw [he]; simp), if_neg (by simp [hk]), hd]
  simp only [h5, if_true]
  rfl
theorem parL_block {f o : Nat} {t d : Tk} {l m : List Tk} (he : endsB o t = false) (hk : t.k = 1) (hd : l.dropWhile atmB = d :: m) (h5 : sgn d 59 = false) (h1 : sgn d 123 = true) (ho : o ≠ 8) (h0 : (parL f (o + 1) m).2.2.1 = 0) :
    parL (f + 1) o (t :: l) = consR t (l.takeWhile atmB) true (parL f (o + 1) m).1 (parL f o (parL f (o + 1) m).2.1) := by
  rw [parL]
  rw [if_neg (by rw [he]; simp), if_neg (by simp [hk]), hd]
  simp only [h5, h1, ho, h0, if_true, if_false, Bool.false_eq_true, Bool.true_eq_false]
  rfl
theorem parL_inv {f o : Nat} {t : Tk} {l : List Tk} (h : (parL (f + 1) o (t :: l)).2.2.1 = 0) :
    endsB o t = true ∨ (endsB o t = false ∧ t.k = 1 ∧ ∃ d m, l.dropWhile atmB = d :: m ∧
      ((sgn d 59 = true ∧ (parL f o m).2.2.1 = 0) ∨ (sgn d 59 = false ∧ sgn d 123 = true ∧ o ≠ 8 ∧ (parL f (o + 1) m).2.2.1 = 0 ∧ (parL f o (parL f (o + 1) m).2.1).2.2.1 = 0))) := by
  rw [parL] at h
  split at h
  · rename_i h1
    exact Or.inl h1
  · rename_i h1
    refine Or.inr ⟨by simpa using h1, ?_⟩
    split at h
    · exact absurd h (by simp)
    · rename_i h2
      refine ⟨by simpa using h2, ?_⟩
      cases hd : l.dropWhile atmB with
      | nil =>
        rw [hd] at h
        exact absurd h (by simp)
      | cons d m =>
        rw [hd] at h
        refine ⟨d, m, rfl, ?_⟩
        simp only at h
        split at h
        · rename_i h3
          refine Or.inl ⟨h3, ?_⟩
          split at h
          · assumption
          · exact absurd h (by assumption)
        · rename_i h3
          refine Or.inr ⟨by simpa using h3, ?_⟩
          split at h
          · exact absurd h (by simp)
          · rename_i h4
            refine ⟨by simpa using h4, ?_⟩
            split at h
            · exact absurd h (by simp)
            · rename_i h5
              refine ⟨h5, ?_⟩
              split at h
              · rename_i h6
                refine ⟨h6, ?_⟩
                split at h
                · assumption
                · exact absurd h (by assumption)
              · exact absurd h (by assumption)
/-- a fault comes alone -/
theorem parL_bad : ∀ (f o : Nat) (l : List Tk), (parL f o l).2.2.1 ≠ 0 → parL f o l = (.nil, [], (parL f o l).2.2)
  | 0, _, _, h => absurd rfl h
  | _ + 1, _, [], _ => rfl
  | f + 1, o, t :: l, h => by
    rw [parL] at h ⊢
    split
    · rename_i h1
      rw [if_pos h1] at h
      exact absurd rfl h
    · rename_i h1
      rw [if_neg h1] at h
      split
      · rfl
      · rename_i h2
        rw [if_neg h2] at h
        cases hd : l.dropWhile atmB with
        | nil => rfl
        | cons d m =>
          rw [hd] at h
          simp only at h ⊢
          repeat' split
          all_goals first | rfl | skip
          all_goals simp_all
theorem parL_good : ∀ (f o : Nat) (l : List Tk), (parL f o l).2.2.1 = 0 → (parL f o l).2.2 = (0, 0)
  | 0, _, _, _ => rfl
  | _ + 1, _, [], h => absurd h (by simp [parL])
  | f + 1, o, t :: l, h => by
    rcases parL_inv h with hb | ⟨hb, h1, d, m, hd, hs⟩
    · rw [parL_ends hb]
    · rcases hs with ⟨h59, hc⟩ | ⟨h59, h123, ho, hc, hc2⟩
      · rw [parL_semi hb h1 hd h59]
        unfold consR
        rw [if_pos hc]
      · rw [parL_block hb h1 hd h59 h123 ho hc]
        unfold consR
        rw [if_pos hc2]
def comb (c : Cls) (q : PR) : PR := if q.2.2.1 = 0 then (c.app q.1, q.2.1, 0, 0) else (.nil, [], q.2.2)
theorem comb_nil (f o : Nat) (l : List Tk) : comb .nil (parL f o l) = parL f o l := by
  unfold comb
  split
  · rename_i h
    rw [← parL_good f o l h]; rfl
  · rename_i h
    exact (parL_bad f o l h).symm
theorem dwt_app {l m X : List Tk} {d : Tk} (h : l.dropWhile atmB = d :: m) : (l ++ X).dropWhile atmB = d :: (m ++ X) ∧ (l ++ X).takeWhile atmB = l.takeWhile atmB := by
  induction l with
  | nil => simp at h
  | cons t l ih =>
    cases ht : atmB t with
    | true =>
      simp only [List.cons_append, List.dropWhile_cons, List.takeWhile_cons, ht, if_true] at h ⊢
      exact ⟨(ih h).1, by rw [(ih h).2]⟩
    | false =>
      simp only [List.cons_append, List.dropWhile_cons, List.takeWhile_cons, ht, Bool.false_eq_true, if_false] at h ⊢
      simp only [List.cons.injEq] at h
      obtain ⟨rfl, rfl⟩ := h
      simp
theorem dw_end {l : List Tk} {e : Tk} (h : l.dropWhile atmB = []) (he : e.k = 5) : (l ++ [e]).dropWhile atmB = [e] := by
  induction l with
  | nil => simp [atmB, he]
  | cons t l ih =>
    cases ht : atmB t with
    | true =>
      simp only [List.cons_append, List.dropWhile_cons, ht, if_true] at h ⊢
      exact ih h
    | false =>
      simp only [List.dropWhile_cons, ht, Bool.false_eq_true, if_false] at h
      exact absurd h (by simp)
def NoE (l : List Tk) : Prop := ∀ t ∈ l, t.k ≠ 5
theorem sgn_end {e : Tk} {c : UInt8} (he : e.k = 5) : sgn e c = false := by simp [sgn, he]
theorem noE_dw {l m : List Tk} {d : Tk} (hn : NoE l) (h : l.dropWhile atmB = d :: m) : NoE m := fun x hx => hn x ((List.dropWhile_sublist atmB).subset (by rw [h]; simp [hx]))
/-- tokens that are read to the end, and others behind them -/
theorem parL_app : ∀ (f o : Nat) (ts : List Tk) (e : Tk), NoE ts → e.k = 5 → ts.length + 1 < f → (parL f o (ts ++ [e])).2.2.1 = 0 →
    (0 < o → ∃ r, (parL f o (ts ++ [e])).2.1 = r ++ [e] ∧ NoE r ∧ r.length < ts.length ∧ ∀ m g, (ts ++ m).length < g → parL g o (ts ++ m) = ((parL f o (ts ++ [e])).1, r ++ m, 0, 0)) ∧
    (o = 0 → (parL f o (ts ++ [e])).2.1 = [] ∧ ∀ m g, (ts ++ m).length < g → parL g o (ts ++ m) = comb (parL f o (ts ++ [e])).1 (parL g o m))
  | 0, _, _, _, _, _, h, _ => by omega
  | f + 1, o, [], e, _, he, _, h => by
    rw [List.nil_append] at h ⊢
    rcases parL_inv h with hb | ⟨_, h1, _⟩
    · rw [parL_ends hb]
      refine ⟨fun h0 => ?_, fun h0 => ⟨rfl, fun m g _ => ?_⟩⟩
      · unfold endsB at hb
        rw [if_neg (by omega), sgn_end he] at hb
        exact absurd hb (by simp)
      · rw [comb_nil]; rfl
    · rw [he] at h1
      exact absurd h1 (by decide)
  | f + 1, o, t :: l, e, hn, he, hf, h => by
    have hnl : NoE l := fun x hx => hn x (by simp [hx])
    have ht5 : t.k ≠ 5 := hn t (by simp)
    simp only [List.length_cons] at hf
    rw [List.cons_append] at h ⊢
    rcases parL_inv h with hb | ⟨hb, h1, d, m', hd, hs⟩
    · rw [parL_ends hb]
      refine ⟨fun h0 => ⟨l, rfl, hnl, by simp, fun m g hg => ?_⟩, fun h0 => ?_⟩
      · match g, hg with
        | g + 1, _ => rw [List.cons_append, parL_ends hb]
      · unfold endsB at hb
        rw [if_pos h0] at hb
        exact absurd (by simpa using hb) ht5
    · rcases dw_cases l with ⟨d0, m0, hd0, _, _⟩ | hd0
      · have hm := dw_len hd0
        have hnm := noE_dw hnl hd0
        have ha := fun X => dwt_app (X := X) hd0
        obtain ⟨rfl, rfl⟩ : d = d0 ∧ m' = m0 ++ [e] := by
          have := (ha [e]).1
          rw [hd] at this
          simpa using this
        rcases hs with ⟨h59, hc⟩ | ⟨h59, h123, ho, hc, hc2⟩
        · obtain ⟨i1, i2⟩ := parL_app f o m0 e hnm he (by omega) hc
          rw [parL_semi hb h1 hd h59]
          unfold consR
          rw [if_pos hc]
          simp only
          refine ⟨fun h0 => ?_, fun h0 => ?_⟩
          · obtain ⟨r, r1, r2, r3, r4⟩ := i1 h0
            refine ⟨r, r1, r2, by simp; omega, fun m g hg => ?_⟩
            match g, hg with
            | g + 1, hg =>
              simp at hg
              rw [List.cons_append, parL_semi hb h1 (ha m).1 h59, r4 m g (by simp; omega)]
              unfold consR
              simp [(ha m).2, (ha [e]).2]
          · obtain ⟨r1, r4⟩ := i2 h0
            refine ⟨r1, fun m g hg => ?_⟩
            match g, hg with
            | g + 1, hg =>
              simp at hg
              rw [List.cons_append, parL_semi hb h1 (ha m).1 h59, r4 m g (by simp; omega), parL_fuel (g + 1) g o m (by omega) (by omega)]
              unfold consR comb
              split
              · simp only [Cls.app, (ha m).2, (ha [e]).2, if_true]
              · rename_i hz
                simp [hz]
        · obtain ⟨i1, _⟩ := parL_app f (o + 1) m0 e hnm he (by omega) hc
          obtain ⟨r, r1, r2, r3, r4⟩ := i1 (by omega)
          rw [r1] at hc2
          obtain ⟨j1, j2⟩ := parL_app f o r e r2 he (by omega) hc2
          rw [parL_block hb h1 hd h59 h123 ho hc, r1]
          unfold consR
          rw [if_pos hc2]
          simp only
          refine ⟨fun h0 => ?_, fun h0 => ?_⟩
          · obtain ⟨s, s1, s2, s3, s4⟩ := j1 h0
            refine ⟨s, s1, s2, by simp; omega, fun m g hg => ?_⟩
            match g, hg with
            | g + 1, hg =>
              simp at hg
              have e1 := r4 m g (by simp; omega)
              rw [List.cons_append, parL_block hb h1 (ha m).1 h59 h123 ho (by rw [e1]), e1]
              simp only
              rw [s4 m g (by simp; omega)]
              unfold consR
              simp [(ha m).2, (ha [e]).2]
          · obtain ⟨s1, s4⟩ := j2 h0
            refine ⟨s1, fun m g hg => ?_⟩
            match g, hg with
            | g + 1, hg =>
              simp at hg
              have e1 := r4 m g (by simp; omega)
              rw [List.cons_append, parL_block hb h1 (ha m).1 h59 h123 ho (by rw [e1]), e1]
              simp only
              rw [s4 m g (by simp; omega), parL_fuel (g + 1) g o m (by omega) (by omega)]
              unfold consR comb
              split
              · simp only [Cls.app, (ha m).2, (ha [e]).2, if_true]
              · rename_i hz
                simp [hz]
      · have hde := dw_end hd0 he
        rw [hd] at hde
        simp only [List.cons.injEq] at hde
        obtain ⟨rfl, rfl⟩ := hde
        rcases hs with ⟨h59, _⟩ | ⟨_, h123, _⟩
        · rw [sgn_end he] at h59
          exact absurd h59 (by simp)
        · rw [sgn_end he] at h123
          exact absurd h123 (by simp)
end Go.Proofs.YtohalocbghhenaaGreatDoor
/- Entries: what is read is possible and has the tokens that were read; what is possible is read from its tokens. -/
namespace Go.Proofs.YtohalocbghhenaaGreatDoor
open Go.RowKit

theorem zeroA_k {x y : Tk} (h : zeroA x = zeroA y) : x.k = y.k ∧ x.t = y.t ∧ x.n = y.n := by
  unfold zeroA at h
  simp only [Tk.mk.injEq] at h
  exact ⟨h.1, h.2.1, h.2.2.1⟩
theorem sgn_zero {x y : Tk} (h : zeroA x = zeroA y) (c : UInt8) : sgn x c = sgn y c := by
  obtain ⟨h1, h2, _⟩ := zeroA_k h
  unfold sgn; rw [h1, h2]
theorem atm_zero {x y : Tk} (h : zeroA x = zeroA y) : atmB x = atmB y := by
  unfold atmB
  rw [sgn_zero h, sgn_zero h, sgn_zero h, (zeroA_k h).1]
theorem valid_zero {x y : Tk} (h : zeroA x = zeroA y) : validT x = validT y := by
  obtain ⟨h1, h2, h3⟩ := zeroA_k h
  unfold validT; rw [h1, h2, h3]
theorem valid_n {t : Tk} (h : validT t = true) (hk : t.k ≠ 2) : t.n = 0 := by
  unfold validT at h
  rw [if_neg hk] at h
  simp at h
  exact h.1
theorem word_zero {t : Tk} (h : validT t = true) (hk : t.k = 1) : zeroA t = ⟨1, t.t, 0, 0⟩ := by
  have := valid_n h (by omega)
  unfold zeroA
  simp [hk, this]
theorem sign_zero {t : Tk} {c : UInt8} (h : validT t = true) (hk : sgn t c = true) : zeroA t = ⟨4, bs [c], 0, 0⟩ := by
  unfold sgn at hk
  simp at hk
  have := valid_n h (by omega)
  unfold zeroA
  simp [hk.1, hk.2, this]
theorem sgn_not {t : Tk} {c d : UInt8} (h : sgn t c = true) (hc : c ≠ d) : sgn t d = false := by
  unfold sgn at h ⊢
  simp at h ⊢
  intro _ h2
  rw [h.2] at h2
  have : [c] = [d] := by rw [← bs_data [c], h2, bs_data]
  simp at this
  exact hc this
theorem ends_word {o : Nat} {t : Tk} (h : t.k = 1) : endsB o t = false := by
  unfold endsB sgn
  split <;> simp [h]
theorem atm_end {o : Nat} {t : Tk} (h : endsB o t = true) : atmB t = false := by
  unfold endsB at h
  unfold atmB
  split at h
  · simp at h; simp [h]
  · simp [h]
/-- what is read: the tokens up to the one that ends it -/
theorem parL_toks : ∀ (f o : Nat) (l : List Tk), l.length < f → (∀ t ∈ l, validT t = true) → (parL f o l).2.2.1 = 0 →
    ∃ L x, l = L ++ x :: (parL f o l).2.1 ∧ endsB o x = true ∧ L.map zeroA = (toksC (parL f o l).1).map zeroA ∧ formed (parL f o l).1 = true ∧ (o ≤ 8 → (parL f o l).1.depth + o ≤ 8)
  | 0, _, _, h, _, _ => by omega
  | f + 1, o, [], _, _, h => absurd h (by simp [parL])
  | f + 1, o, t :: l, hf, hv, h => by
    simp only [List.length_cons] at hf
    have hvt := hv t (by simp)
    have hvl : ∀ t ∈ l, validT t = true := fun x hx => hv x (by simp [hx])
    rcases parL_inv h with hb | ⟨hb, h1, d, m, hd, hs⟩
    · rw [parL_ends hb]
      exact ⟨[], t, rfl, hb, rfl, rfl, fun h => by simpa [Cls.depth] using h⟩
    · have hm := dw_len hd
      obtain ⟨d', m', hd', hl, _⟩ | hn := dw_cases l
      rotate_left
      · rw [hd] at hn; exact absurd hn (by simp)
      rw [hd] at hd'
      simp only [List.cons.injEq] at hd'
      obtain ⟨rfl, rfl⟩ := hd'
      have hvd : validT d = true := hvl d (by rw [hl]; simp)
      have hvm : ∀ t ∈ m, validT t = true := fun x hx => hvl x (by rw [hl]; simp [hx])
      have hva : (l.takeWhile atmB).all (fun t => validT t && atmB t) = true := by
        rw [List.all_eq_true]
        intro x hx
        have h1 := hvl x ((List.takeWhile_sublist atmB).subset hx)
        have h2 := List.all_eq_true.1 (List.all_takeWhile (p := atmB) (l := l)) x hx
        simp [h1, h2]
      have hw : validT ⟨1, t.t, 0, 0⟩ = true := by rw [← word_zero hvt h1]; exact hvt
      rcases hs with ⟨h59, hc⟩ | ⟨h59, h123, ho, hc, hc2⟩
      · obtain ⟨L, x, i1, i2, i3, i4, i5⟩ := parL_toks f o m (by omega) hvm hc
        rw [parL_semi hb h1 hd h59]
        unfold consR
        rw [if_pos hc]
        refine ⟨t :: (l.takeWhile atmB ++ d :: L), x, ?_, i2, ?_, ?_, fun h => ?_⟩
        · simp only [List.cons_append, List.append_assoc]
          rw [← i1, ← hl]
        · simp [toksC, word_zero hvt h1, sign_zero hvd h59, i3]
          simp [zeroA]
        · simp only [formed, hw, hva, i4, Cls.len]
          rfl
        · simp only [Cls.depth]
          have := i5 h
          simpa using this
      · obtain ⟨L, x, i1, i2, i3, i4, i5⟩ := parL_toks f (o + 1) m (by omega) hvm hc
        have hvr : ∀ t ∈ (parL f (o + 1) m).2.1, validT t = true := fun y hy => hvm y (by rw [i1]; simp [hy])
        have hlr := parL_le f (o + 1) m
        obtain ⟨M, y, j1, j2, j3, j4, j5⟩ := parL_toks f o _ (by omega) hvr hc2
        have hx : sgn x 125 = true := by
          unfold endsB at i2
          rwa [if_neg (by omega)] at i2
        have hvx : validT x = true := hvm x (by rw [i1]; simp)
        rw [parL_block hb h1 hd h59 h123 ho hc]
        unfold consR
        rw [if_pos hc2]
        refine ⟨t :: (l.takeWhile atmB ++ d :: (L ++ x :: M)), y, ?_, j2, ?_, ?_, fun h => ?_⟩
        · simp only [List.cons_append, List.append_assoc]
          rw [← j1, ← i1, ← hl]
        · simp [toksC, word_zero hvt h1, sign_zero hvd h123, sign_zero hvx hx, i3, j3]
          simp [zeroA]
        · simp only [formed, hw, hva, i4, j4]
          rfl
        · simp only [Cls.depth, if_true]
          have := i5 (by omega)
          have := j5 h
          omega
theorem Cls.len_nil {c : Cls} (h : c.len = 0) : c = .nil := by
  cases c with
  | nil => rfl
  | cons w xs b k a r => simp [Cls.len] at h
theorem tw_all {l : List Tk} {p : Tk → Bool} {d : Tk} {m : List Tk} (h : ∀ x ∈ l, p x = true) (hd : p d = false) : (l ++ d :: m).dropWhile p = d :: m ∧ (l ++ d :: m).takeWhile p = l := by
  constructor
  · rw [List.dropWhile_append_of_pos h, List.dropWhile_cons_of_neg (by simp [hd])]
  · rw [List.takeWhile_append_of_pos h, List.takeWhile_cons_of_neg (by simp [hd])]
    simp
/-- what is possible is read from its tokens -/
theorem parL_spelled : ∀ (c : Cls) (o : Nat), formed c = true → c.depth + o ≤ 8 → ∀ (L : List Tk) (x : Tk) (m : List Tk) (g : Nat), L.map zeroA = (toksC c).map zeroA → endsB o x = true → (L ++ x :: m).length < g →
    ∃ c', parL g o (L ++ x :: m) = (c', m, 0, 0) ∧ c'.zero = c.zero
  | .nil, o, _, _, L, x, m, g, hL, hx, hg => by
    obtain rfl : L = [] := by simpa [toksC] using hL
    match g, hg with
    | g + 1, _ => exact ⟨.nil, parL_ends hx, rfl⟩
  | .cons w xs b k a r, o, hf, hdp, L, x, m, g, hL, hx, hg => by
    simp only [formed, Bool.and_eq_true] at hf
    obtain ⟨⟨⟨⟨f1, f2⟩, f3⟩, f4⟩, f5⟩ := hf
    simp only [Cls.depth] at hdp
    simp only [toksC, List.map_cons, List.map_append] at hL
    obtain ⟨t, L1, rfl, ht, hL1⟩ := List.map_eq_cons_iff.1 hL
    obtain ⟨As, L2, rfl, hA, hL2⟩ := List.map_eq_append_iff.1 hL1
    obtain ⟨tk, tt, tn⟩ := zeroA_k ht
    simp only at tk tt tn
    have hAt : ∀ y ∈ As, atmB y = true := by
      intro y hy
      have hm : zeroA y ∈ xs.map zeroA := by rw [← hA]; exact List.mem_map_of_mem hy
      obtain ⟨z, hz, hzy⟩ := List.mem_map.1 hm
      rw [← atm_zero hzy]
      have := List.all_eq_true.1 f2 z hz
      simp at this
      exact this.2
    have hbw : endsB o t = false := ends_word tk
    match g, hg with
    | g + 1, hg =>
    cases b with
    | false =>
      simp only [Bool.false_eq_true, if_false, List.map_cons, List.map_nil, List.cons_append, List.nil_append] at hL2
      obtain ⟨d, R, rfl, hd, hR⟩ := List.map_eq_cons_iff.1 hL2
      have hd59 : sgn d 59 = true := by rw [sgn_zero hd]; simp [sgn]
      have had : atmB d = false := by rw [atm_zero hd]; simp [atmB, sgn]
      obtain ⟨t1, t2⟩ := tw_all (m := R ++ x :: m) hAt had
      simp at hg
      obtain ⟨r', p1, p2⟩ := parL_spelled r o f5 (by simp at hdp; exact hdp) R x m g hR hx (by simp; omega)
      refine ⟨.cons w As false .nil t.a r', ?_, ?_⟩
      · rw [List.cons_append, List.append_assoc, List.cons_append, parL_semi hbw tk t1 hd59, p1]
        unfold consR
        simp [t2, tt]
      · have hk : k = .nil := Cls.len_nil (by simpa using f3)
        subst hk
        simp [Cls.zero, hA, p2]
    | true =>
      simp only [if_true, List.map_cons, List.map_nil, List.map_append, List.cons_append, List.append_assoc, List.nil_append] at hL2
      obtain ⟨d, L3, rfl, hd, hL3⟩ := List.map_eq_cons_iff.1 hL2
      obtain ⟨K, L4, rfl, hK, hL4⟩ := List.map_eq_append_iff.1 hL3
      obtain ⟨y, R, rfl, hy, hR⟩ := List.map_eq_cons_iff.1 hL4
      have hd123 : sgn d 123 = true := by rw [sgn_zero hd]; simp [sgn]
      have hd59 : sgn d 59 = false := sgn_not hd123 (by decide)
      have had : atmB d = false := by rw [atm_zero hd]; simp [atmB, sgn]
      have hy2 : endsB (o + 1) y = true := by
        unfold endsB
        rw [if_neg (by omega), sgn_zero hy]; simp [sgn]
      simp only [if_true] at hdp
      obtain ⟨t1, t2⟩ := tw_all (m := K ++ y :: (R ++ x :: m)) hAt had
      simp at hg
      obtain ⟨k', p1, p2⟩ := parL_spelled k (o + 1) f4 (by omega) K y (R ++ x :: m) g hK hy2 (by simp; omega)
      obtain ⟨r', q1, q2⟩ := parL_spelled r o f5 (by omega) R x m g hR hx (by simp; omega)
      refine ⟨.cons w As true k' t.a r', ?_, ?_⟩
      · rw [List.cons_append, List.append_assoc, List.cons_append, List.append_assoc, List.cons_append, parL_block hbw tk t1 hd59 hd123 (by omega) (by rw [p1]), p1]
        simp only
        rw [q1]
        unfold consR
        simp [t2, tt]
      · simp [Cls.zero, hA, p2, q2]
end Go.Proofs.YtohalocbghhenaaGreatDoor
/- Entries: offsets don't count for the reading. -/
namespace Go.Proofs.YtohalocbghhenaaGreatDoor
open Go.RowKit

theorem ends_zero {x y : Tk} (h : zeroA x = zeroA y) (o : Nat) : endsB o x = endsB o y := by
  unfold endsB
  rw [sgn_zero h, (zeroA_k h).1]
theorem dw_zero : ∀ {l l' m : List Tk} {d : Tk}, l.map zeroA = l'.map zeroA → l.dropWhile atmB = d :: m → ∃ d' m', l'.dropWhile atmB = d' :: m' ∧ zeroA d = zeroA d' ∧ m.map zeroA = m'.map zeroA ∧ (l'.takeWhile atmB).map zeroA = (l.takeWhile atmB).map zeroA
  | [], _, _, _, _, h => by simp at h
  | t :: l, [], _, _, hz, _ => by simp at hz
  | t :: l, t' :: l', m, d, hz, h => by
    simp only [List.map_cons, List.cons.injEq] at hz
    have ha := atm_zero hz.1
    cases ht : atmB t with
    | true =>
      rw [ht] at ha
      rw [List.dropWhile_cons_of_pos ht] at h
      obtain ⟨d', m', h1, h2, h3, h4⟩ := dw_zero hz.2 h
      refine ⟨d', m', ?_, h2, h3, ?_⟩
      · rw [List.dropWhile_cons_of_pos ha.symm, h1]
      · rw [List.takeWhile_cons_of_pos ha.symm, List.takeWhile_cons_of_pos ht, List.map_cons, List.map_cons, h4, hz.1]
    | false =>
      rw [ht] at ha
      rw [List.dropWhile_cons_of_neg (by simp [ht])] at h
      simp only [List.cons.injEq] at h
      obtain ⟨rfl, rfl⟩ := h
      refine ⟨t', l', ?_, hz.1, hz.2, ?_⟩
      · rw [List.dropWhile_cons_of_neg (by simp [← ha])]
      · rw [List.takeWhile_cons_of_neg (by simp [← ha]), List.takeWhile_cons_of_neg (by simp [ht])]
theorem parL_zero : ∀ (f o : Nat) (l l' : List Tk), l.map zeroA = l'.map zeroA → (parL f o l).2.2.1 = 0 →
    (parL f o l').2.2.1 = 0 ∧ (parL f o l').1.zero = (parL f o l).1.zero ∧ (parL f o l).2.1.map zeroA = (parL f o l').2.1.map zeroA
  | 0, _, _, _, _, _ => ⟨rfl, rfl, rfl⟩
  | f + 1, o, [], _, _, h => absurd h (by simp [parL])
  | f + 1, o, t :: l, [], hz, _ => by simp at hz
  | f + 1, o, t :: l, t' :: l', hz, h => by
    simp only [List.map_cons, List.cons.injEq] at hz
    have he := ends_zero hz.1 o
    obtain ⟨z1, z2, z3⟩ := zeroA_k hz.1
    rcases parL_inv h with hb | ⟨hb, h1, d, m, hd, hs⟩
    · rw [parL_ends hb, parL_ends (he.symm.trans hb)]
      exact ⟨rfl, rfl, hz.2⟩
    · obtain ⟨d', m', hd', zd, zm, zt⟩ := dw_zero hz.2 hd
      rcases hs with ⟨h59, hc⟩ | ⟨h59, h123, ho, hc, hc2⟩
      · obtain ⟨i1, i2, i3⟩ := parL_zero f o m m' zm hc
        rw [parL_semi hb h1 hd h59, parL_semi (he.symm.trans hb) (z1.symm.trans h1) hd' ((sgn_zero zd 59).symm.trans h59)]
        unfold consR
        rw [if_pos hc, if_pos i1]
        exact ⟨rfl, by simp only [Cls.zero, i2, zt, z2], i3⟩
      · obtain ⟨i1, i2, i3⟩ := parL_zero f (o + 1) m m' zm hc
        obtain ⟨j1, j2, j3⟩ := parL_zero f o _ _ i3 hc2
        rw [parL_block hb h1 hd h59 h123 ho hc, parL_block (he.symm.trans hb) (z1.symm.trans h1) hd' ((sgn_zero zd 59).symm.trans h59) ((sgn_zero zd 123).symm.trans h123) ho i1]
        unfold consR
        rw [if_pos hc2, if_pos j1]
        exact ⟨rfl, by simp only [Cls.zero, i2, j2, zt, z2], j3⟩
theorem Cls.zero_app : ∀ (c m : Cls), (c.app m).zero = c.zero.app m.zero
  | .nil, _ => rfl
  | .cons _ _ _ _ _ r, m => by simp only [Cls.app, Cls.zero, Cls.zero_app r m]
theorem Cls.count_app : ∀ (c m : Cls), (c.app m).count = c.count + m.count
  | .nil, _ => by simp [Cls.app, Cls.count]
  | .cons _ _ _ _ _ r, m => by simp only [Cls.app, Cls.count, Cls.count_app r m]; omega
theorem Cls.depth_app : ∀ (c m : Cls), (c.app m).depth = max c.depth m.depth
  | .nil, _ => by simp [Cls.app, Cls.depth]
  | .cons _ _ _ _ _ r, m => by simp only [Cls.app, Cls.depth, Cls.depth_app r m]; omega
theorem Cls.count_zero : ∀ (c : Cls), c.zero.count = c.count
  | .nil => rfl
  | .cons _ _ _ k _ r => by simp only [Cls.zero, Cls.count, Cls.count_zero k, Cls.count_zero r]
theorem Cls.depth_zero : ∀ (c : Cls), c.zero.depth = c.depth
  | .nil => rfl
  | .cons _ _ _ k _ r => by simp only [Cls.zero, Cls.depth, Cls.depth_zero k, Cls.depth_zero r]
end Go.Proofs.YtohalocbghhenaaGreatDoor
