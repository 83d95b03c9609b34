/- Blocks within each other: how deep entries may stand. -/
import Derived.Test.YtepigooldelgnaaDoorParZ
import Derived.Test.YtepigooldelgnaaDoorLexA
import Derived.Test.YtepigooldelgnaaDoorParR
set_option linter.unusedSimpArgs false
set_option linter.unusedVariables false
namespace Go.Proofs.YtepigooldelgnaaDoor
open Go.RowKit

theorem ends_pos {o o' : Nat} (h : 0 < o) (h' : 0 < o') (t : Tk) : endsB o t = endsB o' t := by
  unfold endsB; rw [if_neg (by omega), if_neg (by omega)]
theorem parL_full {f : Nat} {t d : Tk} {l m : List Tk} (he : endsB 8 t = false) (hk : t.k = 1) (hd : l.dropWhile atmB = d :: m) (h5 : sgn d 59 = false) (h1 : sgn d 123 = true) :
    parL (f + 1) 8 (t :: l) = (.nil, [], 6, d.a) := by
  rw [parL]
  rw [if_neg (by rw [he]; simp), if_neg (by simp [hk]), hd]
  simp only [h5, h1, if_true, if_false, Bool.false_eq_true, Bool.true_eq_false]
theorem parL_kids {f o : Nat} {t d : Tk} {l m : List Tk} (he : endsB o t = false) (hk : t.k = 1) (hd : l.dropWhile atmB = d :: m) (h5 : sgn d 59 = false) (h1 : sgn d 123 = true) (ho : o ≠ 8) (h0 : (parL f (o + 1) m).2.2.1 ≠ 0) :
    parL (f + 1) o (t :: l) = (.nil, [], (parL f (o + 1) m).2.2) := by
  rw [parL]
  rw [if_neg (by rw [he]; simp), if_neg (by simp [hk]), hd]
  simp only [h5, h1, ho, h0, if_true, if_false, Bool.false_eq_true, Bool.true_eq_false]
theorem consR_bad {t : Tk} {xs : List Tk} {b : Bool} {k : Cls} {q : PR} (h : q.2.2.1 = 6) : (consR t xs b k q).2.2.1 = 6 := by
  unfold consR
  rw [if_neg (by rw [h]; decide)]
  exact h
/-- tokens that are read within blocks are read within others, unless they are too deep there -/
theorem parL_lift : ∀ (f o o' : Nat) (l : List Tk), 0 < o → 0 < o' → l.length < f → (parL f o l).2.2.1 = 0 →
    ((parL f o l).1.depth + o' ≤ 8 → parL f o' l = parL f o l) ∧ (8 < (parL f o l).1.depth + o' → o' ≤ 8 → (parL f o' l).2.2.1 = 6)
  | 0, _, _, _, _, _, h, _ => by omega
  | f + 1, o, o', [], _, _, _, h => absurd h (by simp [parL])
  | f + 1, o, o', t :: l, ho, ho', hf, h => by
    simp only [List.length_cons] at hf
    rcases parL_inv h with hb | ⟨hb, h1, d, m, hd, hs⟩
    · have hb' := hb
      rw [ends_pos ho ho'] at hb'
      rw [parL_ends hb, parL_ends hb']
      exact ⟨fun _ => rfl, fun h _ => by simp [Cls.depth] at h; omega⟩
    · have hb' := hb
      rw [ends_pos ho ho'] at hb'
      have hm := dw_len hd
      rcases hs with ⟨h59, hc⟩ | ⟨h59, h123, h8, hc, hc2⟩
      · obtain ⟨i1, i2⟩ := parL_lift f o o' m ho ho' (by omega) hc
        rw [parL_semi hb h1 hd h59, parL_semi hb' h1 hd h59]
        have hD : (consR t (l.takeWhile atmB) false .nil (parL f o m)).1.depth = (parL f o m).1.depth := by
          unfold consR; rw [if_pos hc]; simp [Cls.depth]
        rw [hD]
        exact ⟨fun h => by rw [i1 h], fun h h' => consR_bad (i2 h h')⟩
      · have hlr := parL_le f (o + 1) m
        obtain ⟨i1, i2⟩ := parL_lift f (o + 1) (o' + 1) m (by omega) (by omega) (by omega) hc
        obtain ⟨j1, j2⟩ := parL_lift f o o' (parL f (o + 1) m).2.1 ho ho' (by omega) hc2
        rw [parL_block hb h1 hd h59 h123 h8 hc]
        have hD : (consR t (l.takeWhile atmB) true (parL f (o + 1) m).1 (parL f o (parL f (o + 1) m).2.1)).1.depth = max ((parL f (o + 1) m).1.depth + 1) (parL f o (parL f (o + 1) m).2.1).1.depth := by
          unfold consR; rw [if_pos hc2]; simp [Cls.depth]
        rw [hD]
        by_cases e8 : o' = 8
        · subst e8
          rw [parL_full hb' h1 hd h59 h123]
          exact ⟨fun h => by omega, fun _ _ => rfl⟩
        · by_cases hk : (parL f (o + 1) m).1.depth + (o' + 1) ≤ 8
          · have e1 := i1 hk
            rw [parL_block hb' h1 hd h59 h123 e8 (by rw [e1]; exact hc), e1]
            exact ⟨fun h => by rw [j1 (by omega)], fun h h' => consR_bad (j2 (by omega) h')⟩
          · refine ⟨fun h => by omega, fun _ h' => ?_⟩
            have e6 := i2 (by omega) (by omega)
            rw [parL_kids hb' h1 hd h59 h123 e8 (by rw [e6]; decide)]
            exact e6
theorem consR_comb {t : Tk} {xs : List Tk} {b : Bool} {k c : Cls} {q : PR} : consR t xs b k (comb c q) = comb (.cons t.t xs b k t.a c) q := by
  unfold consR comb
  by_cases h : q.2.2.1 = 0
  · simp [h, Cls.app]
  · simp [h]
/-- the same for tokens that are read outside of all blocks, up to the end -/
theorem parL_lift0 : ∀ (f o' : Nat) (ts : List Tk) (e : Tk), NoE ts → e.k = 5 → 0 < o' → ts.length + 1 < f → (parL f 0 (ts ++ [e])).2.2.1 = 0 →
    ((parL f 0 (ts ++ [e])).1.depth + o' ≤ 8 → ∀ m g, (ts ++ m).length < g → parL g o' (ts ++ m) = comb (parL f 0 (ts ++ [e])).1 (parL g o' m)) ∧
    (8 < (parL f 0 (ts ++ [e])).1.depth + o' → o' ≤ 8 → ∀ m g, (ts ++ m).length < g → (parL g o' (ts ++ m)).2.2.1 = 6)
  | 0, _, _, _, _, _, _, h, _ => by omega
  | f + 1, o', [], e, _, he, _, _, h => by
    rw [List.nil_append] at h ⊢
    rw [parL_ends (by simp [endsB, he])]
    exact ⟨fun _ m g _ => by rw [comb_nil]; rfl, fun h _ => by simp [Cls.depth] at h; omega⟩
  | f + 1, o', t :: l, e, hn, he, ho', hf, h => by
    have hnl : NoE l := fun x hx => hn x (by simp [hx])
    have ht5 : t.k ≠ 5 := hn t (by simp)
    simp only [List.length_cons] at hf
    rw [List.cons_append] at h ⊢
    rcases parL_inv h with hb | ⟨hb, h1, d, m', hd, hs⟩
    · unfold endsB at hb
      rw [if_pos rfl] at hb
      exact absurd (by simpa using hb) ht5
    · have hb' : endsB o' t = false := by
        unfold endsB
        rw [if_neg (by omega)]
        simp [sgn, h1]
      rcases dw_cases l with ⟨d0, m0, hd0, _, _⟩ | hd0
      · have hm := dw_len hd0
        have hnm := noE_dw hnl hd0
        have ha := fun X => dwt_app (X := X) hd0
        obtain ⟨rfl, rfl⟩ : d = d0 ∧ m' = m0 ++ [e] := by
          have := (ha [e]).1
          rw [hd] at this
          simpa using this
        rcases hs with ⟨h59, hc⟩ | ⟨h59, h123, ho, hc, hc2⟩
        · obtain ⟨i1, i2⟩ := parL_lift0 f o' m0 e hnm he ho' (by omega) hc
          rw [parL_semi hb h1 hd h59]
          have hD : consR t ((l ++ [e]).takeWhile atmB) false .nil (parL f 0 (m0 ++ [e])) = (.cons t.t (l.takeWhile atmB) false .nil t.a (parL f 0 (m0 ++ [e])).1, (parL f 0 (m0 ++ [e])).2.1, 0, 0) := by
            unfold consR; rw [if_pos hc, (ha [e]).2]
          rw [hD]
          simp only [Cls.depth, Bool.false_eq_true, if_false, Nat.zero_max]
          refine ⟨fun h m g hg => ?_, fun h h' m g hg => ?_⟩
          · match g, hg with
            | g + 1, hg =>
              simp at hg
              rw [List.cons_append, parL_semi hb' h1 (ha m).1 h59, i1 h m g (by simp; omega), (ha m).2, parL_fuel (g + 1) g o' m (by omega) (by omega), consR_comb]
          · match g, hg with
            | g + 1, hg =>
              simp at hg
              rw [List.cons_append, parL_semi hb' h1 (ha m).1 h59]
              exact consR_bad (i2 h h' m g (by simp; omega))
        · obtain ⟨k1, _⟩ := parL_app f (0 + 1) m0 e hnm he (by omega) hc
          obtain ⟨r, r1, r2, r3, r4⟩ := k1 (by omega)
          rw [r1] at hc2
          obtain ⟨j1, j2⟩ := parL_lift0 f o' r e r2 he ho' (by omega) hc2
          rw [parL_block hb h1 hd h59 h123 ho hc, r1]
          generalize (parL f (0 + 1) (m0 ++ [e])).1 = K at *
          have hD : consR t ((l ++ [e]).takeWhile atmB) true K (parL f 0 (r ++ [e])) = (.cons t.t (l.takeWhile atmB) true K t.a (parL f 0 (r ++ [e])).1, (parL f 0 (r ++ [e])).2.1, 0, 0) := by
            unfold consR; rw [if_pos hc2, (ha [e]).2]
          rw [hD]
          simp only [Cls.depth, if_true]
          refine ⟨fun h m g hg => ?_, fun h h' m g hg => ?_⟩
          · match g, hg with
            | g + 1, hg =>
              simp at hg
              have e1 := r4 m g (by simp; omega)
              obtain ⟨l1, _⟩ := parL_lift g (0 + 1) (o' + 1) (m0 ++ m) (by omega) (by omega) (by simp; omega) (by rw [e1])
              rw [e1] at l1
              have e2 := l1 (by show K.depth + (o' + 1) ≤ 8; omega)
              rw [List.cons_append, parL_block hb' h1 (ha m).1 h59 h123 (by omega) (by rw [e2]), e2]
              simp only
              rw [j1 (by omega) m g (by simp; omega), (ha m).2, parL_fuel (g + 1) g o' m (by omega) (by omega), consR_comb]
          · match g, hg with
            | g + 1, hg =>
              simp at hg
              have e1 := r4 m g (by simp; omega)
              obtain ⟨l1, l2⟩ := parL_lift g (0 + 1) (o' + 1) (m0 ++ m) (by omega) (by omega) (by simp; omega) (by rw [e1])
              rw [e1] at l1 l2
              rw [List.cons_append]
              by_cases e8 : o' = 8
              · subst e8
                rw [parL_full hb' h1 (ha m).1 h59 h123]
              · by_cases hk : K.depth + (o' + 1) ≤ 8
                · have e2 := l1 hk
                  rw [parL_block hb' h1 (ha m).1 h59 h123 e8 (by rw [e2]), e2]
                  exact consR_bad (j2 (by omega) h' m g (by simp; omega))
                · have e6 := l2 (by show 8 < K.depth + (o' + 1); omega) (by omega)
                  rw [parL_kids hb' h1 (ha m).1 h59 h123 e8 (by rw [e6]; decide)]
                  exact e6
      · have hde := dw_end hd0 he
        rw [hd] at hde
        simp only [List.cons.injEq] at hde
        obtain ⟨rfl, rfl⟩ := hde
        rcases hs with ⟨h59, _⟩ | ⟨_, h123, _⟩
        · rw [sgn_end he] at h59
          exact absurd h59 (by simp)
        · rw [sgn_end he] at h123
          exact absurd h123 (by simp)
/-- what opens so many blocks -/
def opn : Nat → List UInt8 → List UInt8
  | 0, X => X
  | n + 1, X => 97 :: 123 :: opn n X
def opnT : Nat → Nat → List Tk
  | 0, _ => []
  | n + 1, p => ⟨1, bs [97], 0, (p : Int)⟩ :: ⟨4, bs [123], 0, ((p + 1 : Nat) : Int)⟩ :: opnT n (p + 2)
def clsT : Nat → Nat → List Tk
  | 0, _ => []
  | n + 1, p => ⟨4, bs [125], 0, (p : Int)⟩ :: clsT n (p + 1)
theorem opn_len : ∀ (n : Nat) (X : List UInt8), (opn n X).length = 2 * n + X.length
  | 0, X => by simp [opn]
  | n + 1, X => by simp only [opn, List.length_cons, opn_len n X]; omega
theorem opnT_len : ∀ (n p : Nat), (opnT n p).length = 2 * n
  | 0, _ => rfl
  | n + 1, p => by simp only [opnT, List.length_cons, opnT_len n (p + 2)]; omega
theorem clsT_len : ∀ (n p : Nat), (clsT n p).length = n
  | 0, _ => rfl
  | n + 1, p => by simp only [clsT, List.length_cons, clsT_len n (p + 1)]
theorem clsT_snoc : ∀ (n p : Nat), clsT (n + 1) p = clsT n p ++ [⟨4, bs [125], 0, ((p + n : Nat) : Int)⟩]
  | 0, p => rfl
  | n + 1, p => by
    rw [show clsT (n + 2) p = ⟨4, bs [125], 0, (p : Int)⟩ :: clsT (n + 1) (p + 1) from rfl, clsT_snoc n (p + 1)]
    simp only [clsT, List.cons_append]
    rw [show p + 1 + n = p + (n + 1) by omega]
theorem first_a (Y : List UInt8) (p : Nat) : firstL (97 :: 123 :: Y) p = (⟨1, bs [97], 0, (p : Int)⟩, p + 1, 0, 0) := by
  have hs : skN false (97 :: 123 :: Y) = 0 := skN_none (by decide) (by decide)
  have hr : readL (97 :: 123 :: Y) = (⟨1, bs [97], 0, 0⟩, 1, 0) := by
    rw [readL_cons, if_pos (by decide), List.takeWhile_cons_of_pos (by decide), List.takeWhile_cons_of_neg (by decide)]
    decide
  unfold firstL
  rw [hs, List.drop_zero, hr]
  simp
theorem first_sign (c : UInt8) (h : kB c = 8) (Y : List UInt8) (p : Nat) : firstL (c :: Y) p = (⟨4, bs [c], 0, (p : Int)⟩, p + 1, 0, 0) := by
  have hs : skN false (c :: Y) = 0 := skN_none (by omega) (by omega)
  have hrun : runB c = false := by unfold runB; rw [h]; rfl
  have hr : readL (c :: Y) = (⟨4, bs [c], 0, 0⟩, 1, 0) := by
    rw [readL_cons, if_neg (by rw [hrun]; decide), if_neg (by omega), if_pos h]
  unfold firstL
  rw [hs, List.drop_zero, hr]
  simp
theorem lexR_opn : ∀ (n : Nat) (X : List UInt8) (p f g : Nat), 2 * n + X.length < f → X.length < g → lexR f (opn n X) p = (opnT n p ++ (lexR g X (p + 2 * n)).1, (lexR g X (p + 2 * n)).2)
  | 0, X, p, f, g, hf, hg => by
    simp only [opn, opnT, List.nil_append, Nat.mul_zero, Nat.add_zero]
    rw [lexR_fuel f g X p (by omega) (by omega)]
  | n + 1, X, p, f + 2, g, hf, hg => by
    have ih := lexR_opn n X (p + 2) f g (by omega) hg
    rw [opn, lexR, first_a]
    simp only [if_true]
    rw [if_neg (by decide), show p + 1 - p = 1 by omega, List.drop_succ_cons, List.drop_zero, lexR, first_sign 123 (by decide)]
    simp only [if_true]
    rw [if_neg (by decide), show p + 1 + 1 - (p + 1) = 1 by omega, List.drop_succ_cons, List.drop_zero, ih, show p + 2 + 2 * n = p + 2 * (n + 1) by omega]
    rfl
  | _ + 1, _, _, 0, _, h, _ => by omega
  | _ + 1, _, _, 1, _, h, _ => by omega
theorem lexR_cls : ∀ (n p f : Nat), n < f → lexR f (List.replicate n 125) p = (clsT n p ++ [⟨5, bs [], 0, ((p + n : Nat) : Int)⟩], 0, 0)
  | 0, p, f + 1, _ => by
    have hf : firstL [] p = (⟨5, bs [], 0, (p : Int)⟩, p, 0, 0) := by
      unfold firstL
      simp [skN, readL]
    rw [List.replicate_zero, lexR, hf]
    simp [clsT]
  | n + 1, p, f + 1, hf => by
    have ih := lexR_cls n (p + 1) f (by omega)
    rw [List.replicate_succ, lexR, first_sign 125 (by decide)]
    simp only [if_true]
    rw [if_neg (by decide), show p + 1 - p = 1 by omega, List.drop_succ_cons, List.drop_zero, ih, show p + 1 + n = p + (n + 1) by omega]
    rfl
  | _, _, 0, h => by omega
def nestC : Nat → Nat → Cls → Cls
  | 0, _, c => c
  | n + 1, p, c => .cons (bs [97]) [] true (nestC n (p + 2) c) (p : Int) .nil
theorem nestC_depth : ∀ (n p : Nat) (c : Cls), (nestC n p c).depth = n + c.depth
  | 0, _, c => by simp [nestC]
  | n + 1, p, c => by simp only [nestC, Cls.depth, nestC_depth n (p + 2) c, if_true]; omega
theorem nestC_count : ∀ (n p : Nat) (c : Cls), (nestC n p c).count = n + c.count
  | 0, _, c => by simp [nestC]
  | n + 1, p, c => by simp only [nestC, Cls.count, nestC_count n (p + 2) c]; omega
theorem app_nil : ∀ (c : Cls), c.app .nil = c
  | .nil => rfl
  | .cons _ _ _ _ _ r => by rw [Cls.app, app_nil r]
theorem brace_dw (x : Int) (Z : List Tk) : (⟨4, bs [123], 0, x⟩ :: Z : List Tk).dropWhile atmB = ⟨4, bs [123], 0, x⟩ :: Z ∧ (⟨4, bs [123], 0, x⟩ :: Z : List Tk).takeWhile atmB = [] := by
  have h : atmB ⟨4, bs [123], 0, x⟩ = false := by simp [atmB, sgn]
  exact ⟨List.dropWhile_cons_of_neg (by simp [h]), by rw [List.takeWhile_cons, if_neg (by simp [h])]⟩
theorem sg59 (x : Int) : sgn ⟨4, bs [123], 0, x⟩ 59 = false := by
  have : bs [123] ≠ bs [59] := by decide
  simp [sgn, this]
theorem sg123 (x : Int) : sgn ⟨4, bs [123], 0, x⟩ 123 = true := by simp [sgn]
theorem ends_a (o : Nat) (p : Int) : endsB o ⟨1, bs [97], 0, p⟩ = false := by
  unfold endsB
  split <;> simp [sgn]
theorem ends_brace {o : Nat} (h : 0 < o) (p : Int) : endsB o ⟨4, bs [125], 0, p⟩ = true := by
  unfold endsB
  rw [if_neg (by omega)]
  simp [sgn]
theorem nest_ok : ∀ (n o p q : Nat) (ts : List Tk) (c : Cls), (∀ o', o ≤ o' → c.depth + o' ≤ 8 → ∀ m g, (ts ++ m).length < g → parL g o' (ts ++ m) = comb c (parL g o' m)) → o + n + c.depth ≤ 8 →
    ∀ (x : Tk) (Z : List Tk) (g : Nat), endsB o x = true → (opnT n p ++ (ts ++ (clsT n q ++ x :: Z))).length < g → parL g o (opnT n p ++ (ts ++ (clsT n q ++ x :: Z))) = (nestC n p c, Z, 0, 0)
  | 0, o, p, q, ts, c, H, hd, x, Z, g, hx, hg => by
    simp only [opnT, clsT, List.nil_append, nestC] at hg ⊢
    rw [H o (Nat.le_refl _) (by omega) _ g hg]
    match g, hg with
    | g + 1, _ =>
      rw [parL_ends hx]
      unfold comb
      rw [if_pos rfl, app_nil]
  | n + 1, o, p, q, ts, c, H, hd, x, Z, g, hx, hg => by
    match g, hg with
    | g + 1, hg =>
      rw [clsT_snoc] at hg ⊢
      have ih := nest_ok n (o + 1) (p + 2) q ts c (fun o' h => H o' (by omega)) (by omega) ⟨4, bs [125], 0, ((q + n : Nat) : Int)⟩ (x :: Z) g (ends_brace (by omega) _) (by simp [opnT_len, clsT_len] at hg ⊢; omega)
      have e : opnT (n + 1) p ++ (ts ++ (clsT n q ++ [⟨4, bs [125], 0, ((q + n : Nat) : Int)⟩] ++ x :: Z)) = ⟨1, bs [97], 0, (p : Int)⟩ :: ⟨4, bs [123], 0, ((p + 1 : Nat) : Int)⟩ :: (opnT n (p + 2) ++ (ts ++ (clsT n q ++ ⟨4, bs [125], 0, ((q + n : Nat) : Int)⟩ :: x :: Z))) := by
        simp [opnT]
      rw [e] at hg ⊢
      obtain ⟨b1, b2⟩ := brace_dw ((p + 1 : Nat) : Int) (opnT n (p + 2) ++ (ts ++ (clsT n q ++ ⟨4, bs [125], 0, ((q + n : Nat) : Int)⟩ :: x :: Z)))
      rw [parL_block (ends_a o _) rfl b1 (sg59 _) (sg123 _) (by omega) (by rw [ih]), ih]
      simp only
      match g with
      | 0 => simp [opnT_len, clsT_len] at hg
      | g + 1 =>
        rw [parL_ends hx, b2]
        unfold consR
        rw [if_pos rfl]
        rfl
theorem nest_deep : ∀ (n o p q : Nat) (ts : List Tk) (c : Cls), (∀ o', o ≤ o' → 8 < c.depth + o' → o' ≤ 8 → ∀ m g, (ts ++ m).length < g → (parL g o' (ts ++ m)).2.2.1 = 6) → 8 < o + n + c.depth → o ≤ 8 →
    ∀ (Z : List Tk) (g : Nat), (opnT n p ++ (ts ++ Z)).length < g → (parL g o (opnT n p ++ (ts ++ Z))).2.2.1 = 6
  | 0, o, p, q, ts, c, H, hd, ho, Z, g, hg => by
    simp only [opnT, List.nil_append] at hg ⊢
    exact H o (Nat.le_refl _) (by omega) ho _ g hg
  | n + 1, o, p, q, ts, c, H, hd, ho, Z, g, hg => by
    match g, hg with
    | g + 1, hg =>
      have e : opnT (n + 1) p ++ (ts ++ Z) = ⟨1, bs [97], 0, (p : Int)⟩ :: ⟨4, bs [123], 0, ((p + 1 : Nat) : Int)⟩ :: (opnT n (p + 2) ++ (ts ++ Z)) := by
        simp [opnT]
      obtain ⟨b1, b2⟩ := brace_dw ((p + 1 : Nat) : Int) (opnT n (p + 2) ++ (ts ++ Z))
      rw [e] at hg ⊢
      by_cases e8 : o = 8
      · subst e8
        rw [parL_full (ends_a 8 _) rfl b1 (sg59 _) (sg123 _)]
      · have ih := nest_deep n (o + 1) (p + 2) q ts c (fun o' h => H o' (by omega)) (by omega) (by omega) Z g (by simp at hg ⊢; omega)
        rw [parL_kids (ends_a o _) rfl b1 (sg59 _) (sg123 _) e8 (by rw [ih]; decide)]
        exact ih
theorem nest_over : ∀ (n o p : Nat) (Y : List Tk), 8 < o + n → o ≤ 8 → ∀ (g : Nat), (opnT n p ++ Y).length < g → parL g o (opnT n p ++ Y) = (.nil, [], 6, ((p + 2 * (8 - o) + 1 : Nat) : Int))
  | 0, o, p, Y, h, ho, g, hg => by omega
  | n + 1, o, p, Y, h, ho, g, hg => by
    match g, hg with
    | g + 1, hg =>
      have e : opnT (n + 1) p ++ Y = ⟨1, bs [97], 0, (p : Int)⟩ :: ⟨4, bs [123], 0, ((p + 1 : Nat) : Int)⟩ :: (opnT n (p + 2) ++ Y) := by
        simp [opnT]
      obtain ⟨b1, b2⟩ := brace_dw ((p + 1 : Nat) : Int) (opnT n (p + 2) ++ Y)
      rw [e] at hg ⊢
      by_cases e8 : o = 8
      · subst e8
        rw [parL_full (ends_a 8 _) rfl b1 (sg59 _) (sg123 _)]
      · have ih := nest_over n (o + 1) (p + 2) Y (by omega) (by omega) g (by simp at hg ⊢; omega)
        rw [parL_kids (ends_a o _) rfl b1 (sg59 _) (sg123 _) e8 (by rw [ih]; simp), ih]
        simp only
        rw [show p + 2 + 2 * (8 - (o + 1)) + 1 = p + 2 * (8 - o) + 1 by omega]
/-- blocks within each other: the source that Nests builds -/
theorem parS_nest (n : Nat) (a c : ByteArray) (hc : c.data.toList = opn n (a.data.toList ++ 10 :: List.replicate n 125)) (hs : c.size ≤ 65536) (ha : (parS a).2.1 = 0) :
    (8 < n → parS c = (.nil, 6, 17)) ∧ (8 < n + (parS a).1.depth → (parS c).2.1 = 6) ∧ (n + (parS a).1.depth ≤ 8 → (parS c).2 = (0, 0) ∧ (parS c).1.depth = n + (parS a).1.depth ∧ (parS c).1.count = n + (parS a).1.count) := by
  have hcz : c.size = 2 * n + (a.size + (n + 1)) := by
    have := congrArg List.length hc
    rw [list_size, opn_len, List.length_append, List.length_cons, list_size, List.length_replicate] at this
    omega
  have hla := list_size a
  have hlex : (lexR (a.size + 1) a.data.toList 0).2.1 = 0 ∧ lexS a = lexR (a.size + 1) a.data.toList 0 := by
    have e := lexS_small a (by omega)
    by_cases h0 : (lexR (a.size + 1) a.data.toList 0).2.1 = 0
    · rw [if_pos h0] at e
      exact ⟨h0, e⟩
    · rw [if_neg h0] at e
      unfold parS at ha
      rw [e] at ha
      simp only [h0, if_false] at ha
  obtain ⟨a1, a2⟩ := hlex
  have hpa : parS a = ((parL ((lexR (a.size + 1) a.data.toList 0).1.length + 1) 0 (lexR (a.size + 1) a.data.toList 0).1).1, (parL ((lexR (a.size + 1) a.data.toList 0).1.length + 1) 0 (lexR (a.size + 1) a.data.toList 0).1).2.2) := by
    unfold parS
    rw [a2, if_pos a1]
  rw [hpa] at ha ⊢
  simp only at ha ⊢
  -- the tokens of the inner source where they stand now
  obtain ⟨s1, s2, _⟩ := lexR_shift (a.size + 1) a.data.toList 0 (2 * n)
  rw [Nat.zero_add] at s1 s2
  have b1 : (lexR (a.size + 1) a.data.toList (2 * n)).2.1 = 0 := by rw [s2]; exact a1
  obtain ⟨z1, z2, _⟩ := parL_zero ((lexR (a.size + 1) a.data.toList 0).1.length + 1) 0 _ _ s1.symm ha
  obtain ⟨ts, e, l1, l2, l3, _⟩ := lexR_like (a.size + 1) a.data.toList (2 * n) (by omega) b1
  have hlen : (lexR (a.size + 1) a.data.toList 0).1.length = ts.length + 1 := by
    have := congrArg List.length s1
    rw [l1] at this
    simpa using this.symm
  rw [l1, hlen] at z1 z2
  rw [hlen]
  rw [hlen] at ha
  generalize (lexR (a.size + 1) a.data.toList 0).1 = L0 at *
  have hdep : (parL (ts.length + 1 + 1) 0 (ts ++ [e])).1.depth = (parL (ts.length + 1 + 1) 0 L0).1.depth := by
    rw [← Cls.depth_zero, z2, Cls.depth_zero]
  have hcnt : (parL (ts.length + 1 + 1) 0 (ts ++ [e])).1.count = (parL (ts.length + 1 + 1) 0 L0).1.count := by
    rw [← Cls.count_zero, z2, Cls.count_zero]
  rw [← hdep, ← hcnt]
  have hno : NoE ts := fun t ht => (l2 t ht).2
  have hek : e.k = 5 := by rw [l3]
  obtain ⟨_, r2⟩ := parL_app (ts.length + 1 + 1) 0 ts e hno hek (by omega) z1
  obtain ⟨_, r3⟩ := r2 rfl
  have r4 := fun o' h => parL_lift0 (ts.length + 1 + 1) o' ts e hno hek h (by omega) z1
  -- the tokens of the whole
  obtain ⟨p1, p2⟩ := lexR_app (a.size + 1) a.data.toList (2 * n) (by omega) b1 (List.replicate n 125) (a.size + (n + 1) + 1) (by rw [List.length_append, List.length_cons, List.length_replicate]; omega)
  rw [l1, List.dropLast_concat, lexR_cls n _ _ (by omega)] at p1
  rw [lexR_cls n _ _ (by omega)] at p2
  have hw := lexR_opn n (a.data.toList ++ 10 :: List.replicate n 125) 0 (c.size + 1) (a.size + (n + 1) + 1) (by rw [List.length_append, List.length_cons, List.length_replicate]; omega) (by rw [List.length_append, List.length_cons, List.length_replicate]; omega)
  rw [← hc, Nat.zero_add, p1, p2] at hw
  have hlc : lexS c = lexR (c.size + 1) c.data.toList 0 := by
    rw [lexS_small c hs, if_pos (by rw [hw])]
  have hps : parS c = ((parL ((lexR (c.size + 1) c.data.toList 0).1.length + 1) 0 (lexR (c.size + 1) c.data.toList 0).1).1, (parL ((lexR (c.size + 1) c.data.toList 0).1.length + 1) 0 (lexR (c.size + 1) c.data.toList 0).1).2.2) := by
    unfold parS
    rw [hlc, if_pos (by rw [hw])]
  rw [hps, hw]
  simp only
  generalize hC : (parL (ts.length + 1 + 1) 0 (ts ++ [e])).1 = C at *
  refine ⟨fun h => ?_, fun h => ?_, fun h => ?_⟩
  · rw [nest_over n 0 0 _ (by omega) (by omega) _ (Nat.lt_succ_self _)]
    simp
  · exact nest_deep n 0 0 0 ts C (fun o' _ h1 h2 m g hg => by
      by_cases h0 : o' = 0
      · subst h0
        have := (parL_toks (ts.length + 1 + 1) 0 (ts ++ [e]) (by simp) (fun t ht => by
          rw [List.mem_append] at ht
          rcases ht with ht | ht
          · exact (l2 t ht).1
          · rw [List.mem_singleton] at ht
            rw [ht, l3]; simp [validT, vText, bs]) z1)
        obtain ⟨_, _, _, _, _, _, h5⟩ := this
        have := h5 (by omega)
        rw [hC] at this
        omega
      · exact (r4 o' (by omega)).2 h1 h2 m g hg) (by omega) (by omega) _ _ (Nat.lt_succ_self _)
  · have := nest_ok n 0 0 (2 * n + a.data.toList.length + 1) ts C (fun o' _ h1 m g hg => by
      by_cases h0 : o' = 0
      · subst h0
        exact r3 m g hg
      · exact (r4 o' (by omega)).1 h1 m g hg) (by omega) ⟨5, bs [], 0, ((2 * n + a.data.toList.length + 1 + n : Nat) : Int)⟩ [] _ rfl (Nat.lt_succ_self _)
    rw [this]
    exact ⟨rfl, nestC_depth _ _ _, nestC_count _ _ _⟩
end Go.Proofs.YtepigooldelgnaaDoor
