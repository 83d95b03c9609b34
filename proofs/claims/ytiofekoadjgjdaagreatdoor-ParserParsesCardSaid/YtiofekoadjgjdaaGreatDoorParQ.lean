/- Entries: a step of the reading, both ways; two lists of tokens, one behind the other. -/
import Derived.Test.YtiofekoadjgjdaaGreatDoorParP
set_option linter.unusedSimpArgs false
set_option linter.unusedVariables false
namespace Go.Proofs.YtiofekoadjgjdaaGreatDoor
open Go.RowKit

abbrev PR := Cls × List Tk × Int × Int
def consR (t : Tk) (xs : List Tk) (b : Bool) (k : Cls) (q : PR) : PR := if q.2.2.1 = 0 then (.cons t.t xs b k t.a q.1, q.2.1, 0, 0) else (.nil, [], q.2.2)
theorem parL_ends {f o : Nat} {t : Tk} {l : List Tk} (h : endsB o t = true) : parL (f + 1) o (t :: l) = (.nil, l, 0, 0) := by
  unfold parL; rw [if_pos h]
theorem parL_semi {f o : Nat} {t d : Tk} {l m : List Tk} (he : endsB o t = false) (hk : t.k = 1) (hd : l.dropWhile atmB = d :: m) (h5 : sgn d 59 = true) :
    parL (f + 1) o (t :: l) = consR t (l.takeWhile atmB) false .nil (parL f o m) := by
  rw [parL]
  rw [if_neg (by rw [he]; simp), if_neg (by simp [hk]), hd]
  simp only [h5, if_true]
  rfl
theorem parL_block {f o : Nat} {t d : Tk} {l m : List Tk} (he : endsB o t = false) (hk : t.k = 1) (hd : l.dropWhile atmB = d :: m) (h5 : sgn d 59 = false) (h1 : sgn d 123 = true) (ho : o ≠ 8) (h0 : (parL f (o + 1) m).2.2.1 = 0) :
    parL (f + 1) o (t :: l) = consR t (l.takeWhile atmB) true (parL f (o + 1) m).1 (parL f o (parL f (o + 1) m).2.1) := by
  rw [parL]
  rw [if_neg (by rw [he]; simp), if_neg (by simp [hk]), hd]
  simp only [h5, h1, ho, h0, if_true, if_false, Bool.false_eq_true, Bool.true_eq_false]
  rfl
theorem parL_inv {f o : Nat} {t : Tk} {l : List Tk} (h : (parL (f + 1) o (t :: l)).2.2.1 = 0) :
    endsB o t = true ∨ (endsB o t = false ∧ t.k = 1 ∧ ∃ d m, l.dropWhile atmB = d :: m ∧
      ((sgn d 59 = true ∧ (parL f o m).2.2.1 = 0) ∨ (sgn d 59 = false ∧ sgn d 123 = true ∧ o ≠ 8 ∧ (parL f (o + 1) m).2.2.1 = 0 ∧ (parL f o (parL f (o + 1) m).2.1).2.2.1 = 0))) := by
  rw [parL] at h
  split at h
  · rename_i h1
    exact Or.inl h1
  · rename_i h1
    refine Or.inr ⟨by simpa using h1, ?_⟩
    split at h
    · exact absurd h (by simp)
    · rename_i h2
      refine ⟨by simpa using h2, ?_⟩
      cases hd : l.dropWhile atmB with
      | nil =>
        rw [hd] at h
        exact absurd h (by simp)
      | cons d m =>
        rw [hd] at h
        refine ⟨d, m, rfl, ?_⟩
        simp only at h
        split at h
        · rename_i h3
          refine Or.inl ⟨h3, ?_⟩
          split at h
          · assumption
          · exact absurd h (by assumption)
        · rename_i h3
          refine Or.inr ⟨by simpa using h3, ?_⟩
          split at h
          · exact absurd h (by simp)
          · rename_i h4
            refine ⟨by simpa using h4, ?_⟩
            split at h
            · exact absurd h (by simp)
            · rename_i h5
              refine ⟨h5, ?_⟩
              split at h
              · rename_i h6
                refine ⟨h6, ?_⟩
                split at h
                · assumption
                · exact absurd h (by assumption)
              · exact absurd h (by assumption)
/-- a fault comes alone -/
theorem parL_bad : ∀ (f o : Nat) (l : List Tk), (parL f o l).2.2.1 ≠ 0 → parL f o l = (.nil, [], (parL f o l).2.2)
  | 0, _, _, h => absurd rfl h
  | _ + 1, _, [], _ => rfl
  | f + 1, o, t :: l, h => by
    rw [parL] at h ⊢
    split
    · rename_i h1
      rw [if_pos h1] at h
      exact absurd rfl h
    · rename_i h1
      rw [if_neg h1] at h
      split
      · rfl
      · rename_i h2
        rw [if_neg h2] at h
        cases hd : l.dropWhile atmB with
        | nil => rfl
        | cons d m =>
          rw [hd] at h
          simp only at h ⊢
          repeat' split
          all_goals first | rfl | skip
          all_goals simp_all
theorem parL_good : ∀ (f o : Nat) (l : List Tk), (parL f o l).2.2.1 = 0 → (parL f o l).2.2 = (0, 0)
  | 0, _, _, _ => rfl
  | _ + 1, _, [], h => absurd h (by simp [parL])
  | f + 1, o, t :: l, h => by
    rcases parL_inv h with hb | ⟨hb, h1, d, m, hd, hs⟩
    · rw [parL_ends hb]
    · rcases hs with ⟨h59, hc⟩ | ⟨h59, h123, ho, hc, hc2⟩
      · rw [parL_semi hb h1 hd h59]
        unfold consR
        rw [if_pos hc]
      · rw [parL_block hb h1 hd h59 h123 ho hc]
        unfold consR
        rw [if_pos hc2]
def comb (c : Cls) (q : PR) : PR := if q.2.2.1 = 0 then (c.app q.1, q.2.1, 0, 0) else (.nil, [], q.2.2)
theorem comb_nil (f o : Nat) (l : List Tk) : comb .nil (parL f o l) = parL f o l := by
  unfold comb
  split
  · rename_i h
    rw [← parL_good f o l h]; rfl
  · rename_i h
    exact (parL_bad f o l h).symm
theorem dwt_app {l m X : List Tk} {d : Tk} (h : l.dropWhile atmB = d :: m) : (l ++ X).dropWhile atmB = d :: (m ++ X) ∧ (l ++ X).takeWhile atmB = l.takeWhile atmB := by
  induction l with
  | nil => simp at h
  | cons t l ih =>
    cases ht : atmB t with
    | true =>
      simp only [List.cons_append, List.dropWhile_cons, List.takeWhile_cons, ht, if_true] at h ⊢
      exact ⟨(ih h).1, by rw [(ih h).2]⟩
    | false =>
      simp only [List.cons_append, List.dropWhile_cons, List.takeWhile_cons, ht, Bool.false_eq_true, if_false] at h ⊢
      simp only [List.cons.injEq] at h
      obtain ⟨rfl, rfl⟩ := h
      simp
theorem dw_end {l : List Tk} {e : Tk} (h : l.dropWhile atmB = []) (he : e.k = 5) : (l ++ [e]).dropWhile atmB = [e] := by
  induction l with
  | nil => simp [atmB, he]
  | cons t l ih =>
    cases ht : atmB t with
    | true =>
      simp only [List.cons_append, List.dropWhile_cons, ht, if_true] at h ⊢
      exact ih h
    | false =>
      simp only [List.dropWhile_cons, ht, Bool.false_eq_true, if_false] at h
      exact absurd h (by simp)
def NoE (l : List Tk) : Prop := ∀ t ∈ l, t.k ≠ 5
theorem sgn_end {e : Tk} {c : UInt8} (he : e.k = 5) : sgn e c = false := by simp [sgn, he]
theorem noE_dw {l m : List Tk} {d : Tk} (hn : NoE l) (h : l.dropWhile atmB = d :: m) : NoE m := fun x hx => hn x ((List.dropWhile_sublist atmB).subset (by rw [h]; simp [hx]))
/-- tokens that are read to the end, and others behind them -/
theorem parL_app : ∀ (f o : Nat) (ts : List Tk) (e : Tk), NoE ts → e.k = 5 → ts.length + 1 < f → (parL f o (ts ++ [e])).2.2.1 = 0 →
    (0 < o → ∃ r, (parL f o (ts ++ [e])).2.1 = r ++ [e] ∧ NoE r ∧ r.length < ts.length ∧ ∀ m g, (ts ++ m).length < g → parL g o (ts ++ m) = ((parL f o (ts ++ [e])).1, r ++ m, 0, 0)) ∧
    (o = 0 → (parL f o (ts ++ [e])).2.1 = [] ∧ ∀ m g, (ts ++ m).length < g → parL g o (ts ++ m) = comb (parL f o (ts ++ [e])).1 (parL g o m))
  | 0, _, _, _, _, _, h, _ => by omega
  | f + 1, o, [], e, _, he, _, h => by
    rw [List.nil_append] at h ⊢
    rcases parL_inv h with hb | ⟨_, h1, _⟩
    · rw [parL_ends hb]
      refine ⟨fun h0 => ?_, fun h0 => ⟨rfl, fun m g _ => ?_⟩⟩
      · unfold endsB at hb
        rw [if_neg (by omega), sgn_end he] at hb
        exact absurd hb (by simp)
      · rw [comb_nil]; rfl
    · rw [he] at h1
      exact absurd h1 (by decide)
  | f + 1, o, t :: l, e, hn, he, hf, h => by
    have hnl : NoE l := fun x hx => hn x (by simp [hx])
    have ht5 : t.k ≠ 5 := hn t (by simp)
    simp only [List.length_cons] at hf
    rw [List.cons_append] at h ⊢
    rcases parL_inv h with hb | ⟨hb, h1, d, m', hd, hs⟩
    · rw [parL_ends hb]
      refine ⟨fun h0 => ⟨l, rfl, hnl, by simp, fun m g hg => ?_⟩, fun h0 => ?_⟩
      · match g, hg with
        | g + 1, _ => rw [List.cons_append, parL_ends hb]
      · unfold endsB at hb
        rw [if_pos h0] at hb
        exact absurd (by simpa using hb) ht5
    · rcases dw_cases l with ⟨d0, m0, hd0, _, _⟩ | hd0
      · have hm := dw_len hd0
        have hnm := noE_dw hnl hd0
        have ha := fun X => dwt_app (X := X) hd0
        obtain ⟨rfl, rfl⟩ : d = d0 ∧ m' = m0 ++ [e] := by
          have := (ha [e]).1
          rw [hd] at this
          simpa using this
        rcases hs with ⟨h59, hc⟩ | ⟨h59, h123, ho, hc, hc2⟩
        · obtain ⟨i1, i2⟩ := parL_app f o m0 e hnm he (by omega) hc
          rw [parL_semi hb h1 hd h59]
          unfold consR
          rw [if_pos hc]
          simp only
          refine ⟨fun h0 => ?_, fun h0 => ?_⟩
          · obtain ⟨r, r1, r2, r3, r4⟩ := i1 h0
            refine ⟨r, r1, r2, by simp; omega, fun m g hg => ?_⟩
            match g, hg with
            | g + 1, hg =>
              simp at hg
              rw [List.cons_append, parL_semi hb h1 (ha m).1 h59, r4 m g (by simp; omega)]
              unfold consR
              simp [(ha m).2, (ha [e]).2]
          · obtain ⟨r1, r4⟩ := i2 h0
            refine ⟨r1, fun m g hg => ?_⟩
            match g, hg with
            | g + 1, hg =>
              simp at hg
              rw [List.cons_append, parL_semi hb h1 (ha m).1 h59, r4 m g (by simp; omega), parL_fuel (g + 1) g o m (by omega) (by omega)]
              unfold consR comb
              split
              · simp only [Cls.app, (ha m).2, (ha [e]).2, if_true]
              · rename_i hz
                simp [hz]
        · obtain ⟨i1, _⟩ := parL_app f (o + 1) m0 e hnm he (by omega) hc
          obtain ⟨r, r1, r2, r3, r4⟩ := i1 (by omega)
          rw [r1] at hc2
          obtain ⟨j1, j2⟩ := parL_app f o r e r2 he (by omega) hc2
          rw [parL_block hb h1 hd h59 h123 ho hc, r1]
          unfold consR
          rw [if_pos hc2]
          simp only
          refine ⟨fun h0 => ?_, fun h0 => ?_⟩
          · obtain ⟨s, s1, s2, s3, s4⟩ := j1 h0
            refine ⟨s, s1, s2, by simp; omega, fun m g hg => ?_⟩
            match g, hg with
            | g + 1, hg =>
              simp at hg
              have e1 := r4 m g (by simp; omega)
              rw [List.cons_append, parL_block hb h1 (ha m).1 h59 h123 ho (by rw [e1]), e1]
              simp only
              rw [s4 m g (by simp; omega)]
              unfold consR
              simp [(ha m).2, (ha [e]).2]
          · obtain ⟨s1, s4⟩ := j2 h0
            refine ⟨s1, fun m g hg => ?_⟩
            match g, hg with
            | g + 1, hg =>
              simp at hg
              have e1 := r4 m g (by simp; omega)
              rw [List.cons_append, parL_block hb h1 (ha m).1 h59 h123 ho (by rw [e1]), e1]
              simp only
              rw [s4 m g (by simp; omega), parL_fuel (g + 1) g o m (by omega) (by omega)]
              unfold consR comb
              split
              · simp only [Cls.app, (ha m).2, (ha [e]).2, if_true]
              · rename_i hz
                simp [hz]
      · have hde := dw_end hd0 he
        rw [hd] at hde
        simp only [List.cons.injEq] at hde
        obtain ⟨rfl, rfl⟩ := hde
        rcases hs with ⟨h59, _⟩ | ⟨_, h123, _⟩
        · rw [sgn_end he] at h59
          exact absurd h59 (by simp)
        · rw [sgn_end he] at h123
          exact absurd h123 (by simp)
end Go.Proofs.YtiofekoadjgjdaaGreatDoor
