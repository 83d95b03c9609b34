/- What stands in front of an entry: the tokens of a beginning that ends where a token begins, and the entries that it has. -/
import Derived.Test.YtepigooldelgnaaDoorParR
import Derived.Test.YtepigooldelgnaaDoorLexA
set_option linter.unusedSimpArgs false
set_option linter.unusedVariables false
namespace Go.Proofs.YtepigooldelgnaaDoor
open Go.RowKit

theorem skN_take : ∀ (b : Bool) (l : List UInt8) (m : Nat), skN b (l.take m) = min (skN b l) m
  | b, l, 0 => by cases b <;> simp [skN]
  | b, [], m + 1 => by cases b <;> simp [skN]
  | true, c :: t, m + 1 => by
    have ih := skN_take (c != 10) t m
    rw [List.take_succ_cons, show skN true (c :: t.take m) = skN (c != 10) (t.take m) + 1 from rfl, show skN true (c :: t) = skN (c != 10) t + 1 from rfl, ih]
    omega
  | false, c :: t, m + 1 => by
    have i1 := skN_take true t m
    have i2 := skN_take false t m
    simp only [List.take_succ_cons, skN]
    split
    · rw [i1]; omega
    · split
      · rw [i2]; omega
      · omega
theorem twk_take (p : UInt8 → Bool) : ∀ (l : List UInt8) (m : Nat), (l.takeWhile p).length ≤ m → (l.take m).takeWhile p = l.takeWhile p
  | [], m, _ => by simp
  | c :: t, 0, h => by
    rw [List.takeWhile_cons] at h ⊢
    split at h
    · simp at h
    · rename_i hc
      rw [if_neg hc]; simp
  | c :: t, m + 1, h => by
    rw [List.take_succ_cons]
    rw [List.takeWhile_cons] at h ⊢
    rw [List.takeWhile_cons]
    split
    · rename_i hc
      rw [if_pos hc] at h
      rw [twk_take p t m (by simpa using h)]
    · rfl
theorem readL_take {l : List UInt8} {m : Nat} (h : (readL l).2.2 = 0) (hk : (readL l).1.k ≠ 5) (hm : (readL l).2.1 ≤ m) : readL (l.take m) = readL l := by
  have h1 := (readL_len l h).2.1 hk
  cases l with
  | nil => exact absurd rfl hk
  | cons c t =>
    match m, hm, (show 1 ≤ m by omega) with
    | m + 1, hm, _ =>
      rw [List.take_succ_cons, readL_cons]
      rw [readL_cons] at h hm ⊢
      split
      · rename_i h1
        rw [if_pos h1] at h hm
        obtain ⟨e1, _⟩ := runR_len _ h
        rw [e1] at hm
        rw [← List.take_succ_cons, twk_take runB _ _ hm]
      · rename_i h1
        rw [if_neg h1] at h hm
        split
        · rename_i h2
          rw [if_pos h2] at h hm
          obtain ⟨e1, e2, _⟩ := strR_len t h
          rw [e1] at hm
          have hq : quoL (t.take m) = quoL t := twk_take _ t m (by unfold quoL at hm; omega)
          unfold strR
          rw [hq, if_neg (by simp; omega), if_neg (show ¬ (quoL t).length = t.length by omega)]
        · rfl
theorem first_read {l : List UInt8} {p : Nat} (h : (firstL l p).2.2.1 = 0) : (readL (l.drop (skN false l))).2.2 = 0 ∧ firstL l p = ({ (readL (l.drop (skN false l))).1 with a := ((p + skN false l : Nat) : Int) }, p + skN false l + (readL (l.drop (skN false l))).2.1, 0, 0) := by
  have hr0 : (readL (l.drop (skN false l))).2.2 = 0 := by
    unfold firstL at h
    split at h
    · assumption
    · exact h
  exact ⟨hr0, by unfold firstL; rw [if_pos hr0]⟩
theorem firstL_take {l : List UInt8} {p m : Nat} (h : (firstL l p).2.2.1 = 0) (h5 : (firstL l p).1.k ≠ 5) (hm : (firstL l p).2.1 ≤ p + m) : firstL (l.take m) p = firstL l p := by
  obtain ⟨hr0, e⟩ := first_read h
  have hk : (readL (l.drop (skN false l))).1.k ≠ 5 := by rw [e] at h5; exact h5
  have h1 := (readL_len _ hr0).2.1 hk
  rw [e] at hm
  simp only at hm
  have hs : skN false (l.take m) = skN false l := by rw [skN_take]; omega
  have hd : (l.take m).drop (skN false l) = (l.drop (skN false l)).take (m - skN false l) := by rw [List.drop_take]
  unfold firstL
  rw [hs, hd, readL_take hr0 hk (by omega)]
/-- the tokens of a beginning that ends where a token begins -/
theorem lexR_take : ∀ (f : Nat) (l : List UInt8) (p : Nat), l.length < f → (lexR f l p).2.1 = 0 → ∀ (i : Nat) (x : Tk), (lexR f l p).1[i]? = some x → ∃ q : Nat, x.a = (q : Int) ∧ p ≤ q ∧ q ≤ p + l.length ∧ ∀ g, l.length < g → lexR g (l.take (q - p)) p = ((lexR f l p).1.take i ++ [⟨5, bs [], 0, (q : Int)⟩], 0, 0)
  | 0, _, _, h, _, _, _, _ => by omega
  | f + 1, l, p, hf, h, i, x, hx => by
    have hsk := skN_le false l
    by_cases h0 : (firstL l p).2.2.1 = 0
    · obtain ⟨hr0, e⟩ := first_read h0
      match i, hx with
      | 0, hx =>
        have hxa : x.a = ((p + skN false l : Nat) : Int) := by
          by_cases h5 : (firstL l p).1.k = 5
          · rw [lexR, if_pos h0, if_pos h5] at hx
            simp at hx
            rw [← hx, e]
          · rw [lexR, if_pos h0, if_neg h5] at hx
            simp at hx
            rw [← hx, e]
        refine ⟨p + skN false l, hxa, by omega, by omega, fun g hg => ?_⟩
        match g, hg with
        | g + 1, _ =>
          rw [show p + skN false l - p = skN false l by omega]
          have hfi : firstL (l.take (skN false l)) p = (⟨5, bs [], 0, ((p + skN false l : Nat) : Int)⟩, p + skN false l, 0, 0) := by
            have hs : skN false (l.take (skN false l)) = skN false l := by rw [skN_take]; omega
            unfold firstL
            rw [hs, List.drop_eq_nil_of_le (by rw [List.length_take]; exact Nat.min_le_left _ _)]
            simp [readL]
          rw [lexR, hfi]
          simp
      | i + 1, hx =>
        by_cases h5 : (firstL l p).1.k = 5
        · rw [lexR, if_pos h0, if_pos h5] at hx
          simp at hx
        · obtain ⟨n0, n2, n3, _⟩ := firstL_len l p h0
          have n1 := n3 h5
          have hs : lexR (f + 1) l p = ((firstL l p).1 :: (lexR f (l.drop ((firstL l p).2.1 - p)) (firstL l p).2.1).1, (lexR f (l.drop ((firstL l p).2.1 - p)) (firstL l p).2.1).2) := by
            rw [lexR, if_pos h0, if_neg h5]
          rw [hs] at h hx ⊢
          simp only [List.getElem?_cons_succ] at h hx ⊢
          obtain ⟨q, q1, q2, q3, q4⟩ := lexR_take f (l.drop ((firstL l p).2.1 - p)) (firstL l p).2.1 (by simp; omega) h i x hx
          simp only [List.length_drop] at q3 q4
          refine ⟨q, q1, by omega, by omega, fun g hg => ?_⟩
          match g, hg with
          | g + 1, hg =>
            have ht := firstL_take (l := l) (p := p) (m := q - p) h0 h5 (by omega)
            rw [lexR, ht, if_pos h0, if_neg h5, List.drop_take, show q - p - ((firstL l p).2.1 - p) = q - (firstL l p).2.1 by omega, q4 g (by omega)]
            simp
    · rw [lexR, if_neg h0] at h
      exact absurd h h0
/-- tokens that are read within a block: what stands behind them does not matter -/
theorem parL_pre : ∀ (f o : Nat) (l : List Tk), 0 < o → l.length < f → (parL f o l).2.2.1 = 0 →
    ∃ q, l = q ++ (parL f o l).2.1 ∧ ∀ (r : List Tk) (g : Nat), (q ++ r).length < g → parL g o (q ++ r) = ((parL f o l).1, r, 0, 0)
  | 0, _, _, _, h, _ => by omega
  | f + 1, o, [], _, _, h => absurd h (by simp [parL])
  | f + 1, o, t :: l, ho, hf, h => by
    simp only [List.length_cons] at hf
    rcases parL_inv h with hb | ⟨hb, h1, d, m, hd, hs⟩
    · rw [parL_ends hb]
      refine ⟨[t], rfl, fun r g hg => ?_⟩
      match g, hg with
      | g + 1, _ => rw [List.singleton_append, parL_ends hb]
    · have hm := dw_len hd
      obtain ⟨d', m', hd', hl, hda⟩ | hn := dw_cases l
      rotate_left
      · rw [hd] at hn; exact absurd hn (by simp)
      rw [hd] at hd'
      simp only [List.cons.injEq] at hd'
      obtain ⟨rfl, rfl⟩ := hd'
      have hall : ∀ x ∈ l.takeWhile atmB, atmB x = true := fun x hx => List.all_eq_true.1 (List.all_takeWhile (p := atmB) (l := l)) x hx
      rcases hs with ⟨h59, hc⟩ | ⟨h59, h123, h8, hc, hc2⟩
      · obtain ⟨q, q1, q2⟩ := parL_pre f o m ho (by omega) hc
        rw [parL_semi hb h1 hd h59]
        unfold consR
        rw [if_pos hc]
        refine ⟨t :: (l.takeWhile atmB ++ d :: q), ?_, fun r g hg => ?_⟩
        · simp only [List.cons_append, List.append_assoc]
          rw [← q1, ← hl]
        · match g, hg with
          | g + 1, hg =>
            simp at hg
            obtain ⟨t1, t2⟩ := tw_all (m := q ++ r) hall hda
            rw [List.cons_append, List.append_assoc, List.cons_append, parL_semi hb h1 t1 h59, q2 r g (by simp; omega), t2]
            unfold consR
            rw [if_pos rfl]
      · obtain ⟨q, q1, q2⟩ := parL_pre f (o + 1) m (by omega) (by omega) hc
        have hlr := parL_le f (o + 1) m
        obtain ⟨s, s1, s2⟩ := parL_pre f o _ ho (by omega) hc2
        rw [parL_block hb h1 hd h59 h123 h8 hc]
        unfold consR
        rw [if_pos hc2]
        refine ⟨t :: (l.takeWhile atmB ++ d :: (q ++ s)), ?_, fun r g hg => ?_⟩
        · simp only [List.cons_append, List.append_assoc]
          rw [← s1, ← q1, ← hl]
        · match g, hg with
          | g + 1, hg =>
            simp at hg
            obtain ⟨t1, t2⟩ := tw_all (m := q ++ (s ++ r)) hall hda
            have e1 := q2 (s ++ r) g (by simp; omega)
            rw [List.cons_append, List.append_assoc, List.cons_append, List.append_assoc, parL_block hb h1 t1 h59 h123 h8 (by rw [e1]), e1]
            simp only
            rw [s2 r g (by simp; omega), t2]
            unfold consR
            rw [if_pos rfl]
theorem idx_app (W m : List Tk) (d : Tk) (i : Nat) : (W ++ d :: m)[W.length + 1 + i]? = m[i]? := by
  rw [List.getElem?_append_right (by omega), show W.length + 1 + i - W.length = i + 1 by omega, List.getElem?_cons_succ]
theorem take_app (W m : List Tk) (d : Tk) (i : Nat) : (W ++ d :: m).take (W.length + 1 + i) = W ++ d :: m.take i := by
  rw [List.take_append, show W.length + 1 + i - W.length = i + 1 by omega, List.take_of_length_le (by omega), List.take_succ_cons]
/-- the offset of the first entry -/
def Cls.headA : Cls → Int
  | .nil => 0
  | .cons _ _ _ _ a _ => a
/-- the entries in front of an entry outside of all blocks -/
theorem parL_begin : ∀ (f : Nat) (l : List Tk), l.length < f → (parL f 0 l).2.2.1 = 0 → ∀ (j : Nat), j < (parL f 0 l).1.len →
    ∃ (i : Nat) (x : Tk), l[i]? = some x ∧ x.a = ((parL f 0 l).1.drop j).headA ∧ ∀ (e : Tk) (g : Nat), e.k = 5 → l.length < g → parL g 0 (l.take i ++ [e]) = ((parL f 0 l).1.take j, [], 0, 0)
  | 0, _, h, _, _, _ => by omega
  | f + 1, [], _, h, _, _ => absurd h (by simp [parL])
  | f + 1, t :: l, hf, h, j, hj => by
    simp only [List.length_cons] at hf
    rcases parL_inv h with hb | ⟨hb, h1, d, m, hd, hs⟩
    · rw [parL_ends hb] at hj
      simp [Cls.len] at hj
    · have hm := dw_len hd
      obtain ⟨d', m', hd', hl, hda⟩ | hn := dw_cases l
      rotate_left
      · rw [hd] at hn; exact absurd hn (by simp)
      rw [hd] at hd'
      simp only [List.cons.injEq] at hd'
      obtain ⟨rfl, rfl⟩ := hd'
      have hall : ∀ x ∈ l.takeWhile atmB, atmB x = true := fun x hx => List.all_eq_true.1 (List.all_takeWhile (p := atmB) (l := l)) x hx
      have hlen : l.length = (l.takeWhile atmB).length + (m.length + 1) := by
        have := congrArg List.length hl
        simpa using this
      have zero : ∀ (C : Cls) (b : Bool) (k : Cls) (g : Nat) (e : Tk), e.k = 5 → l.length + 1 < g → parL g 0 ((t :: l).take 0 ++ [e]) = ((Cls.cons t.t (l.takeWhile atmB) b k t.a C).take 0, [], 0, 0) := by
        intro C b k g e he hg
        match g, hg with
        | g + 1, _ =>
          rw [List.take_zero, List.nil_append, parL_ends (by simp [endsB, he])]
          rfl
      rcases hs with ⟨h59, hc⟩ | ⟨h59, h123, h8, hc, hc2⟩
      · rw [parL_semi hb h1 hd h59] at hj ⊢
        unfold consR at hj ⊢
        rw [if_pos hc] at hj ⊢
        match j, hj with
        | 0, _ => exact ⟨0, t, rfl, rfl, fun e g he hg => zero _ _ _ g e he (by simpa using hg)⟩
        | j + 1, hj =>
          obtain ⟨i, x, i1, i2, i3⟩ := parL_begin f m (by omega) hc j (by simpa [Cls.len] using hj)
          refine ⟨(l.takeWhile atmB).length + 1 + i + 1, x, ?_, i2, fun e g he hg => ?_⟩
          · rw [List.getElem?_cons_succ]
            have := idx_app (l.takeWhile atmB) m d i
            rw [← hl] at this
            rw [this]
            exact i1
          · match g, hg with
            | g + 1, hg =>
              simp at hg
              obtain ⟨t1, t2⟩ := tw_all (m := m.take i ++ [e]) hall hda
              have htk : l.take ((l.takeWhile atmB).length + 1 + i) ++ [e] = l.takeWhile atmB ++ d :: (m.take i ++ [e]) := by
                have := take_app (l.takeWhile atmB) m d i
                rw [← hl] at this
                rw [this]
                simp
              rw [List.take_succ_cons, List.cons_append, htk, parL_semi hb h1 t1 h59, i3 e g he (by omega), t2]
              unfold consR
              rw [if_pos rfl]
              rfl
      · rw [parL_block hb h1 hd h59 h123 h8 hc] at hj ⊢
        unfold consR at hj ⊢
        rw [if_pos hc2] at hj ⊢
        match j, hj with
        | 0, _ => exact ⟨0, t, rfl, rfl, fun e g he hg => zero _ _ _ g e he (by simpa using hg)⟩
        | j + 1, hj =>
          obtain ⟨q, q1, q2⟩ := parL_pre f (0 + 1) m (by omega) (by omega) hc
          have hlr := parL_le f (0 + 1) m
          obtain ⟨i, x, i1, i2, i3⟩ := parL_begin f _ (by omega) hc2 j (by simpa [Cls.len] using hj)
          generalize hR : (parL f (0 + 1) m).2.1 = R at *
          have hml : m.length = q.length + R.length := by
            have := congrArg List.length q1
            simpa using this
          refine ⟨(l.takeWhile atmB).length + 1 + q.length + i + 1, x, ?_, i2, fun e g he hg => ?_⟩
          · rw [List.getElem?_cons_succ]
            have := idx_app (l.takeWhile atmB) m d (q.length + i)
            rw [← hl, ← Nat.add_assoc] at this
            rw [this, q1, List.getElem?_append_right (by omega), show q.length + i - q.length = i by omega]
            exact i1
          · match g, hg with
            | g + 1, hg =>
              simp at hg
              obtain ⟨t1, t2⟩ := tw_all (m := q ++ (R.take i ++ [e])) hall hda
              have htk : l.take ((l.takeWhile atmB).length + 1 + q.length + i) ++ [e] = l.takeWhile atmB ++ d :: (q ++ (R.take i ++ [e])) := by
                have := take_app (l.takeWhile atmB) m d (q.length + i)
                rw [← hl, ← Nat.add_assoc] at this
                rw [this, q1, List.take_append, show q.length + i - q.length = i by omega, List.take_of_length_le (by omega)]
                simp
              have e1 := q2 (R.take i ++ [e]) g (by simp; omega)
              rw [List.take_succ_cons, List.cons_append, htk, parL_block hb h1 t1 h59 h123 h8 (by rw [e1]), e1]
              simp only
              rw [i3 e g he (by omega), t2]
              unfold consR
              rw [if_pos rfl]
              rfl
/-- what stands in front of an entry outside of all blocks -/
theorem parS_begin (s : ByteArray) (hs : s.size ≤ 65536) (h : (parS s).2.1 = 0) (j : Nat) (hj : j < (parS s).1.len) :
    ∃ q : Nat, ((parS s).1.drop j).headA = (q : Int) ∧ q ≤ s.size ∧ parS (s.extract 0 q) = ((parS s).1.take j, 0, 0) := by
  have hsz := list_size s
  have e := lexS_small s hs
  by_cases h0 : (lexR (s.size + 1) s.data.toList 0).2.1 = 0
  · rw [if_pos h0] at e
    have hp : parS s = ((parL ((lexR (s.size + 1) s.data.toList 0).1.length + 1) 0 (lexR (s.size + 1) s.data.toList 0).1).1, (parL ((lexR (s.size + 1) s.data.toList 0).1.length + 1) 0 (lexR (s.size + 1) s.data.toList 0).1).2.2) := by
      unfold parS
      rw [e, if_pos h0]
    rw [hp] at h hj ⊢
    simp only at h hj ⊢
    obtain ⟨i, x, i1, i2, i3⟩ := parL_begin _ _ (by omega) h j hj
    obtain ⟨q, q1, q2, q3, q4⟩ := lexR_take (s.size + 1) s.data.toList 0 (by omega) h0 i x i1
    rw [hsz] at q3 q4
    refine ⟨q, by rw [← i2, q1], by omega, ?_⟩
    have hx : (s.extract 0 q).data.toList = s.data.toList.take q := by rw [ext_list]; simp
    have hxs : (s.extract 0 q).size ≤ s.size := by simp; omega
    have hl := q4 (s.size + 1) (by omega)
    rw [Nat.sub_zero] at hl
    have hl2 : lexR ((s.extract 0 q).size + 1) (s.extract 0 q).data.toList 0 = ((lexR (s.size + 1) s.data.toList 0).1.take i ++ [⟨5, bs [], 0, (q : Int)⟩], 0, 0) := by
      rw [← hl, hx]
      exact lexR_fuel _ _ _ _ (by rw [← hx, list_size]; omega) (by simp; omega)
    unfold parS
    rw [lexS_small _ (by omega), hl2]
    simp only [if_true]
    rw [parL_fuel _ ((lexR (s.size + 1) s.data.toList 0).1.length + 2 + i) 0 _ (by omega) (by simp; omega), i3 _ _ rfl (by omega)]
  · rw [if_neg h0] at e
    unfold parS at h
    rw [e] at h
    simp only [h0, if_false] at h
end Go.Proofs.YtepigooldelgnaaDoor
