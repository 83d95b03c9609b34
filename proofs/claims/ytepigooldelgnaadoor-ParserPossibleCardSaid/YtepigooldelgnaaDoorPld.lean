/- What stands in front of an entry: the tokens of a beginning that ends where a token begins, and the entries that it has. -/
import Derived.Test.YtepigooldelgnaaDoorParR
import Derived.Test.YtepigooldelgnaaDoorLexA
import Derived.Test.YtepigooldelgnaaDoorWf
import Derived.Test.YtepigooldelgnaaDoorTok
import Derived.Lib.QuietBelow
set_option linter.unusedSimpArgs false
set_option linter.unusedVariables false
namespace Go.Proofs.YtepigooldelgnaaDoor
open Go.RowKit

theorem skN_take : ∀ (b : Bool) (l : List UInt8) (m : Nat), skN b (l.take m) = min (skN b l) m
  | b, l, 0 => by cases b <;> simp [skN]
  | b, [], m + 1 => by cases b <;> simp [skN]
  | true, c :: t, m + 1 => by
    have ih := skN_take (c != 10) t m
    rw [List.take_succ_cons, show skN true (c :: t.take m) = skN (c != 10) (t.take m) + 1 from rfl, show skN true (c :: t) = skN (c != 10) t + 1 from rfl, ih]
    omega
  | false, c :: t, m + 1 => by
    have i1 := skN_take true t m
    have i2 := skN_take false t m
    simp only [List.take_succ_cons, skN]
    split
    · rw [i1]; omega
    · split
      · rw [i2]; omega
      · omega
theorem twk_take (p : UInt8 → Bool) : ∀ (l : List UInt8) (m : Nat), (l.takeWhile p).length ≤ m → (l.take m).takeWhile p = l.takeWhile p
  | [], m, _ => by simp
  | c :: t, 0, h => by
    rw [List.takeWhile_cons] at h ⊢
    split at h
    · simp at h
    · rename_i hc
      rw [if_neg hc]; simp
  | c :: t, m + 1, h => by
    rw [List.take_succ_cons]
    rw [List.takeWhile_cons] at h ⊢
    rw [List.takeWhile_cons]
    split
    · rename_i hc
      rw [if_pos hc] at h
      rw [twk_take p t m (by simpa using h)]
    · rfl
theorem readL_take {l : List UInt8} {m : Nat} (h : (readL l).2.2 = 0) (hk : (readL l).1.k ≠ 5) (hm : (readL l).2.1 ≤ m) : readL (l.take m) = readL l := by
  have h1 := (readL_len l h).2.1 hk
  cases l with
  | nil => exact absurd rfl hk
  | cons c t =>
    match m, hm, (show 1 ≤ m by omega) with
    | m + 1, hm, _ =>
      rw [List.take_succ_cons, readL_cons]
      rw [readL_cons] at h hm ⊢
      split
      · rename_i h1
        rw [if_pos h1] at h hm
        obtain ⟨e1, _⟩ := runR_len _ h
        rw [e1] at hm
        rw [← List.take_succ_cons, twk_take runB _ _ hm]
      · rename_i h1
        rw [if_neg h1] at h hm
        split
        · rename_i h2
          rw [if_pos h2] at h hm
          obtain ⟨e1, e2, _⟩ := strR_len t h
          rw [e1] at hm
          have hq : quoL (t.take m) = quoL t := twk_take _ t m (by unfold quoL at hm; omega)
          unfold strR
          rw [hq, if_neg (by simp; omega), if_neg (show ¬ (quoL t).length = t.length by omega)]
        · rfl
theorem first_read {l : List UInt8} {p : Nat} (h : (firstL l p).2.2.1 = 0) : (readL (l.drop (skN false l))).2.2 = 0 ∧ firstL l p = ({ (readL (l.drop (skN false l))).1 with a := ((p + skN false l : Nat) : Int) }, p + skN false l + (readL (l.drop (skN false l))).2.1, 0, 0) := by
  have hr0 : (readL (l.drop (skN false l))).2.2 = 0 := by
    unfold firstL at h
    split at h
    · assumption
    · exact h
  exact ⟨hr0, by unfold firstL; rw [if_pos hr0]⟩
theorem firstL_take {l : List UInt8} {p m : Nat} (h : (firstL l p).2.2.1 = 0) (h5 : (firstL l p).1.k ≠ 5) (hm : (firstL l p).2.1 ≤ p + m) : firstL (l.take m) p = firstL l p := by
  obtain ⟨hr0, e⟩ := first_read h
  have hk : (readL (l.drop (skN false l))).1.k ≠ 5 := by rw [e] at h5; exact h5
  have h1 := (readL_len _ hr0).2.1 hk
  rw [e] at hm
  simp only at hm
  have hs : skN false (l.take m) = skN false l := by rw [skN_take]; omega
  have hd : (l.take m).drop (skN false l) = (l.drop (skN false l)).take (m - skN false l) := by rw [List.drop_take]
  unfold firstL
  rw [hs, hd, readL_take hr0 hk (by omega)]
/-- the tokens of a beginning that ends where a token begins -/
theorem lexR_take : ∀ (f : Nat) (l : List UInt8) (p : Nat), l.length < f → (lexR f l p).2.1 = 0 → ∀ (i : Nat) (x : Tk), (lexR f l p).1[i]? = some x → ∃ q : Nat, x.a = (q : Int) ∧ p ≤ q ∧ q ≤ p + l.length ∧ ∀ g, l.length < g → lexR g (l.take (q - p)) p = ((lexR f l p).1.take i ++ [⟨5, bs [], 0, (q : Int)⟩], 0, 0)
  | 0, _, _, h, _, _, _, _ => by omega
  | f + 1, l, p, hf, h, i, x, hx => by
    have hsk := skN_le false l
    by_cases h0 : (firstL l p).2.2.1 = 0
    · obtain ⟨hr0, e⟩ := first_read h0
      match i, hx with
      | 0, hx =>
        have hxa : x.a = ((p + skN false l : Nat) : Int) := by
          by_cases h5 : (firstL l p).1.k = 5
          · rw [lexR, if_pos h0, if_pos h5] at hx
            simp at hx
            rw [← hx, e]
          · rw [lexR, if_pos h0, if_neg h5] at hx
            simp at hx
            rw [← hx, e]
        refine ⟨p + skN false l, hxa, by omega, by omega, fun g hg => ?_⟩
        match g, hg with
        | g + 1, _ =>
          rw [show p + skN false l - p = skN false l by omega]
          have hfi : firstL (l.take (skN false l)) p = (⟨5, bs [], 0, ((p + skN false l : Nat) : Int)⟩, p + skN false l, 0, 0) := by
            have hs : skN false (l.take (skN false l)) = skN false l := by rw [skN_take]; omega
            unfold firstL
            rw [hs, List.drop_eq_nil_of_le (by rw [List.length_take]; exact Nat.min_le_left _ _)]
            simp [readL]
          rw [lexR, hfi]
          simp
      | i + 1, hx =>
        by_cases h5 : (firstL l p).1.k = 5
        · rw [lexR, if_pos h0, if_pos h5] at hx
          simp at hx
        · obtain ⟨n0, n2, n3, _⟩ := firstL_len l p h0
          have n1 := n3 h5
          have hs : lexR (f + 1) l p = ((firstL l p).1 :: (lexR f (l.drop ((firstL l p).2.1 - p)) (firstL l p).2.1).1, (lexR f (l.drop ((firstL l p).2.1 - p)) (firstL l p).2.1).2) := by
            rw [lexR, if_pos h0, if_neg h5]
          rw [hs] at h hx ⊢
          simp only [List.getElem?_cons_succ] at h hx ⊢
          obtain ⟨q, q1, q2, q3, q4⟩ := lexR_take f (l.drop ((firstL l p).2.1 - p)) (firstL l p).2.1 (by simp; omega) h i x hx
          simp only [List.length_drop] at q3 q4
          refine ⟨q, q1, by omega, by omega, fun g hg => ?_⟩
          match g, hg with
          | g + 1, hg =>
            have ht := firstL_take (l := l) (p := p) (m := q - p) h0 h5 (by omega)
            rw [lexR, ht, if_pos h0, if_neg h5, List.drop_take, show q - p - ((firstL l p).2.1 - p) = q - (firstL l p).2.1 by omega, q4 g (by omega)]
            simp
    · rw [lexR, if_neg h0] at h
      exact absurd h h0
/-- tokens that are read within a block: what stands behind them does not matter -/
theorem parL_pre : ∀ (f o : Nat) (l : List Tk), 0 < o → l.length < f → (parL f o l).2.2.1 = 0 →
    ∃ q, l = q ++ (parL f o l).2.1 ∧ ∀ (r : List Tk) (g : Nat), (q ++ r).length < g → parL g o (q ++ r) = ((parL f o l).1, r, 0, 0)
  | 0, _, _, _, h, _ => by omega
  | f + 1, o, [], _, _, h => absurd h (by simp [parL])
  | f + 1, o, t :: l, ho, hf, h => by
    simp only [List.length_cons] at hf
    rcases parL_inv h with hb | ⟨hb, h1, d, m, hd, hs⟩
    · rw [parL_ends hb]
      refine ⟨[t], rfl, fun r g hg => ?_⟩
      match g, hg with
      | g + 1, _ => rw [List.singleton_append, parL_ends hb]
    · have hm := dw_len hd
      obtain ⟨d', m', hd', hl, hda⟩ | hn := dw_cases l
      rotate_left
      · rw [hd] at hn; exact absurd hn (by simp)
      rw [hd] at hd'
      simp only [List.cons.injEq] at hd'
      obtain ⟨rfl, rfl⟩ := hd'
      have hall : ∀ x ∈ l.takeWhile atmB, atmB x = true := fun x hx => List.all_eq_true.1 (List.all_takeWhile (p := atmB) (l := l)) x hx
      rcases hs with ⟨h59, hc⟩ | ⟨h59, h123, h8, hc, hc2⟩
      · obtain ⟨q, q1, q2⟩ := parL_pre f o m ho (by omega) hc
        rw [parL_semi hb h1 hd h59]
        unfold consR
        rw [if_pos hc]
        refine ⟨t :: (l.takeWhile atmB ++ d :: q), ?_, fun r g hg => ?_⟩
        · simp only [List.cons_append, List.append_assoc]
          rw [← q1, ← hl]
        · match g, hg with
          | g + 1, hg =>
            simp at hg
            obtain ⟨t1, t2⟩ := tw_all (m := q ++ r) hall hda
            rw [List.cons_append, List.append_assoc, List.cons_append, parL_semi hb h1 t1 h59, q2 r g (by simp; omega), t2]
            unfold consR
            rw [if_pos rfl]
      · obtain ⟨q, q1, q2⟩ := parL_pre f (o + 1) m (by omega) (by omega) hc
        have hlr := parL_le f (o + 1) m
        obtain ⟨s, s1, s2⟩ := parL_pre f o _ ho (by omega) hc2
        rw [parL_block hb h1 hd h59 h123 h8 hc]
        unfold consR
        rw [if_pos hc2]
        refine ⟨t :: (l.takeWhile atmB ++ d :: (q ++ s)), ?_, fun r g hg => ?_⟩
        · simp only [List.cons_append, List.append_assoc]
          rw [← s1, ← q1, ← hl]
        · match g, hg with
          | g + 1, hg =>
            simp at hg
            obtain ⟨t1, t2⟩ := tw_all (m := q ++ (s ++ r)) hall hda
            have e1 := q2 (s ++ r) g (by simp; omega)
            rw [List.cons_append, List.append_assoc, List.cons_append, List.append_assoc, parL_block hb h1 t1 h59 h123 h8 (by rw [e1]), e1]
            simp only
            rw [s2 r g (by simp; omega), t2]
            unfold consR
            rw [if_pos rfl]
theorem idx_app (W m : List Tk) (d : Tk) (i : Nat) : (W ++ d :: m)[W.length + 1 + i]? = m[i]? := by
  rw [List.getElem?_append_right (by omega), show W.length + 1 + i - W.length = i + 1 by omega, List.getElem?_cons_succ]
theorem take_app (W m : List Tk) (d : Tk) (i : Nat) : (W ++ d :: m).take (W.length + 1 + i) = W ++ d :: m.take i := by
  rw [List.take_append, show W.length + 1 + i - W.length = i + 1 by omega, List.take_of_length_le (by omega), List.take_succ_cons]
/-- the offset of the first entry -/
def Cls.headA : Cls → Int
  | .nil => 0
  | .cons _ _ _ _ a _ => a
/-- the entries in front of an entry outside of all blocks -/
theorem parL_begin : ∀ (f : Nat) (l : List Tk), l.length < f → (parL f 0 l).2.2.1 = 0 → ∀ (j : Nat), j < (parL f 0 l).1.len →
    ∃ (i : Nat) (x : Tk), l[i]? = some x ∧ x.a = ((parL f 0 l).1.drop j).headA ∧ ∀ (e : Tk) (g : Nat), e.k = 5 → l.length < g → parL g 0 (l.take i ++ [e]) = ((parL f 0 l).1.take j, [], 0, 0)
  | 0, _, h, _, _, _ => by omega
  | f + 1, [], _, h, _, _ => absurd h (by simp [parL])
  | f + 1, t :: l, hf, h, j, hj => by
    simp only [List.length_cons] at hf
    rcases parL_inv h with hb | ⟨hb, h1, d, m, hd, hs⟩
    · rw [parL_ends hb] at hj
      simp [Cls.len] at hj
    · have hm := dw_len hd
      obtain ⟨d', m', hd', hl, hda⟩ | hn := dw_cases l
      rotate_left
      · rw [hd] at hn; exact absurd hn (by simp)
      rw [hd] at hd'
      simp only [List.cons.injEq] at hd'
      obtain ⟨rfl, rfl⟩ := hd'
      have hall : ∀ x ∈ l.takeWhile atmB, atmB x = true := fun x hx => List.all_eq_true.1 (List.all_takeWhile (p := atmB) (l := l)) x hx
      have hlen : l.length = (l.takeWhile atmB).length + (m.length + 1) := by
        have := congrArg List.length hl
        simpa using this
      have zero : ∀ (C : Cls) (b : Bool) (k : Cls) (g : Nat) (e : Tk), e.k = 5 → l.length + 1 < g → parL g 0 ((t :: l).take 0 ++ [e]) = ((Cls.cons t.t (l.takeWhile atmB) b k t.a C).take 0, [], 0, 0) := by
        intro C b k g e he hg
        match g, hg with
        | g + 1, _ =>
          rw [List.take_zero, List.nil_append, parL_ends (by simp [endsB, he])]
          rfl
      rcases hs with ⟨h59, hc⟩ | ⟨h59, h123, h8, hc, hc2⟩
      · rw [parL_semi hb h1 hd h59] at hj ⊢
        unfold consR at hj ⊢
        rw [if_pos hc] at hj ⊢
        match j, hj with
        | 0, _ => exact ⟨0, t, rfl, rfl, fun e g he hg => zero _ _ _ g e he (by simpa using hg)⟩
        | j + 1, hj =>
          obtain ⟨i, x, i1, i2, i3⟩ := parL_begin f m (by omega) hc j (by simpa [Cls.len] using hj)
          refine ⟨(l.takeWhile atmB).length + 1 + i + 1, x, ?_, i2, fun e g he hg => ?_⟩
          · rw [List.getElem?_cons_succ]
            have := idx_app (l.takeWhile atmB) m d i
            rw [← hl] at this
            rw [this]
            exact i1
          · match g, hg with
            | g + 1, hg =>
              simp at hg
              obtain ⟨t1, t2⟩ := tw_all (m := m.take i ++ [e]) hall hda
              have htk : l.take ((l.takeWhile atmB).length + 1 + i) ++ [e] = l.takeWhile atmB ++ d :: (m.take i ++ [e]) := by
                have := take_app (l.takeWhile atmB) m d i
                rw [← hl] at this
                rw [this]
                simp
              rw [List.take_succ_cons, List.cons_append, htk, parL_semi hb h1 t1 h59, i3 e g he (by omega), t2]
              unfold consR
              rw [if_pos rfl]
              rfl
      · rw [parL_block hb h1 hd h59 h123 h8 hc] at hj ⊢
        unfold consR at hj ⊢
        rw [if_pos hc2] at hj ⊢
        match j, hj with
        | 0, _ => exact ⟨0, t, rfl, rfl, fun e g he hg => zero _ _ _ g e he (by simpa using hg)⟩
        | j + 1, hj =>
          obtain ⟨q, q1, q2⟩ := parL_pre f (0 + 1) m (by omega) (by omega) hc
          have hlr := parL_le f (0 + 1) m
          obtain ⟨i, x, i1, i2, i3⟩ := parL_begin f _ (by omega) hc2 j (by simpa [Cls.len] using hj)
          generalize hR : (parL f (0 + 1) m).2.1 = R at *
          have hml : m.length = q.length + R.length := by
            have := congrArg List.length q1
            simpa using this
          refine ⟨(l.takeWhile atmB).length + 1 + q.length + i + 1, x, ?_, i2, fun e g he hg => ?_⟩
          · rw [List.getElem?_cons_succ]
            have := idx_app (l.takeWhile atmB) m d (q.length + i)
            rw [← hl, ← Nat.add_assoc] at this
            rw [this, q1, List.getElem?_append_right (by omega), show q.length + i - q.length = i by omega]
            exact i1
          · match g, hg with
            | g + 1, hg =>
              simp at hg
              obtain ⟨t1, t2⟩ := tw_all (m := q ++ (R.take i ++ [e])) hall hda
              have htk : l.take ((l.takeWhile atmB).length + 1 + q.length + i) ++ [e] = l.takeWhile atmB ++ d :: (q ++ (R.take i ++ [e])) := by
                have := take_app (l.takeWhile atmB) m d (q.length + i)
                rw [← hl, ← Nat.add_assoc] at this
                rw [this, q1, List.take_append, show q.length + i - q.length = i by omega, List.take_of_length_le (by omega)]
                simp
              have e1 := q2 (R.take i ++ [e]) g (by simp; omega)
              rw [List.take_succ_cons, List.cons_append, htk, parL_block hb h1 t1 h59 h123 h8 (by rw [e1]), e1]
              simp only
              rw [i3 e g he (by omega), t2]
              unfold consR
              rw [if_pos rfl]
              rfl
/-- what stands in front of an entry outside of all blocks -/
theorem parS_begin (s : ByteArray) (hs : s.size ≤ 65536) (h : (parS s).2.1 = 0) (j : Nat) (hj : j < (parS s).1.len) :
    ∃ q : Nat, ((parS s).1.drop j).headA = (q : Int) ∧ q ≤ s.size ∧ parS (s.extract 0 q) = ((parS s).1.take j, 0, 0) := by
  have hsz := list_size s
  have e := lexS_small s hs
  by_cases h0 : (lexR (s.size + 1) s.data.toList 0).2.1 = 0
  · rw [if_pos h0] at e
    have hp : parS s = ((parL ((lexR (s.size + 1) s.data.toList 0).1.length + 1) 0 (lexR (s.size + 1) s.data.toList 0).1).1, (parL ((lexR (s.size + 1) s.data.toList 0).1.length + 1) 0 (lexR (s.size + 1) s.data.toList 0).1).2.2) := by
      unfold parS
      rw [e, if_pos h0]
    rw [hp] at h hj ⊢
    simp only at h hj ⊢
    obtain ⟨i, x, i1, i2, i3⟩ := parL_begin _ _ (by omega) h j hj
    obtain ⟨q, q1, q2, q3, q4⟩ := lexR_take (s.size + 1) s.data.toList 0 (by omega) h0 i x i1
    rw [hsz] at q3 q4
    refine ⟨q, by rw [← i2, q1], by omega, ?_⟩
    have hx : (s.extract 0 q).data.toList = s.data.toList.take q := by rw [ext_list]; simp
    have hxs : (s.extract 0 q).size ≤ s.size := by simp; omega
    have hl := q4 (s.size + 1) (by omega)
    rw [Nat.sub_zero] at hl
    have hl2 : lexR ((s.extract 0 q).size + 1) (s.extract 0 q).data.toList 0 = ((lexR (s.size + 1) s.data.toList 0).1.take i ++ [⟨5, bs [], 0, (q : Int)⟩], 0, 0) := by
      rw [← hl, hx]
      exact lexR_fuel _ _ _ _ (by rw [← hx, list_size]; omega) (by simp; omega)
    unfold parS
    rw [lexS_small _ (by omega), hl2]
    simp only [if_true]
    rw [parL_fuel _ ((lexR (s.size + 1) s.data.toList 0).1.length + 2 + i) 0 _ (by omega) (by simp; omega), i3 _ _ rfl (by omega)]
  · rw [if_neg h0] at e
    unfold parS at h
    rw [e] at h
    simp only [h0, if_false] at h
end Go.Proofs.YtepigooldelgnaaDoor
/- The reference's Equal, of two lists that are the same, offsets and all. -/
namespace Go.Proofs.YtepigooldelgnaaDoor
open Go.RowKit

theorem undrew {W w1 : World} (h : Below W.drew.heap.size W.drew w1) : Below W.heap.size W w1 := ⟨h.os, h.tape, h.output, h.size, h.block⟩
def EqC (n : Nat) : Prop := ∀ (c : Cls), c.count < n → ∀ (w : World) (F G : Nat → Prop) (a a' : Option Addr) (b o cap b' o' cap' : Nat), SlC w F a b o c.len cap c → SlC w G a' b' o' c.len cap' c →
    Calls Tryd.prog 16 #[.slice a c.len cap, .slice a' c.len cap', .bool true] w fun e w' => e = .returned (.bool true) ∧ Below w.heap.size w w'
set_option maxHeartbeats 8000000 in
set_option maxRecDepth 100000 in
theorem smr_any (n : Nat) (IH : Hid (EqC n)) (wd : ByteArray) (xs : List Tk) (bl : Bool) (k : Cls) (av : Int) (hk : k.count < n) (w : World) (F G : Nat → Prop) (aa ak aa' ak' : Option Addr) (ba oa la ca bk ok ck ba' oa' la' ca' bk' ok' ck' : Nat)
    (hx : SlT w aa ba oa la ca xs) (hc : SlC w F ak bk ok k.len ck k) (hx' : SlT w aa' ba' oa' la' ca' xs) (hc' : SlC w G ak' bk' ok' k.len ck' k) :
    Calls Tryd.prog 26 #[.agg #[.string wd, .slice aa la ca, .bool bl, .slice ak k.len ck, .int .i64 av], .agg #[.string wd, .slice aa' la' ca', .bool bl, .slice ak' k.len ck', .int .i64 av], .bool true] w fun e w' => e = .returned (.bool true) ∧ Below w.heap.size w w' := by
  have HS := Lib.hid (fun W (h : SlC W (fun x => F x ∧ x < w.heap.size) ak bk ok k.len ck k) (h' : SlC W (fun x => G x ∧ x < w.heap.size) ak' bk' ok' k.len ck' k) => IH.out k hk W _ _ _ _ _ _ _ _ _ _ h h')
  have HX := Lib.hid hx
  have HX' := Lib.hid hx'
  have HK := Lib.hid hc.here
  have HK' := Lib.hid hc'.here
  have hl := hx.hl
  have hl' := hx'.hl
  obtain rfl : la' = la := by omega
  have hm := hx.hmax
  have hcp := hx.hcap
  have hcp' := hx'.hcap
  unfold maxLen at hm
  clear hx hc hx' hc' IH
  have HB := Lib.hid (show Below w.heap.size w ((w.alloc (.cells #[.string wd, .slice aa la' ca, .bool bl, .slice ak k.len ck, .int .i64 av] 40)).alloc (.cells #[.string wd, .slice aa' la' ca', .bool bl, .slice ak' k.len ck', .int .i64 av] 40)) from (by repeat (first | with_reducible exact Below.refl _ _ | (with_reducible refine Below.setCell ?_ (by first | exact Nat.le_refl _ | omega | (simp; done) | (simp; omega)) _) | (with_reducible refine Below.alloc ?_ (by first | exact Nat.le_refl _ | omega | (simp; done) | (simp; omega)) _) | with_reducible refine Below.drew ?_ | with_reducible refine bel_drewN ?_ _ | (with_reducible refine bel_by (by with_reducible assumption) (by first | exact Nat.le_refl _ | omega | (simp; done) | (simp; omega)) ?_))))
  have HCA := Lib.hid ((cl_new w wd (.slice aa la' ca) (.slice ak k.len ck) bl av 40).keep ((Below.refl _ _).alloc (Nat.le_refl _) (.cells #[.string wd, .slice aa' la' ca', .bool bl, .slice ak' k.len ck', .int .i64 av] 40)))
  have HCB := Lib.hid (cl_new (w.alloc (.cells #[.string wd, .slice aa la' ca, .bool bl, .slice ak k.len ck, .int .i64 av] 40)) wd (.slice aa' la' ca') (.slice ak' k.len ck') bl av 40)
  simp only [World.size_alloc] at HCB
  have hsz : ((w.alloc (.cells #[.string wd, .slice aa la' ca, .bool bl, .slice ak k.len ck, .int .i64 av] 40)).alloc (.cells #[.string wd, .slice aa' la' ca', .bool bl, .slice ak' k.len ck', .int .i64 av] 40)).heap.size = w.heap.size + 1 + 1 := by simp
  go_enter Tryd.func26, Tryd.ntmps26
  go_wp2_with fail
  generalize (w.alloc (.cells #[.string wd, .slice aa la' ca, .bool bl, .slice ak k.len ck, .int .i64 av] 40)).alloc (.cells #[.string wd, .slice aa' la' ca', .bool bl, .slice ak' k.len ck', .int .i64 av] 40) = W at *
  go_loopw [7] (fun s7 wr => ∃ i : Nat, i ≤ la' ∧ s7 = .int .i64 (i : Int) ∧ Hid (Below W.heap.size W wr)) (fun s7 _ => (la' - (intOf s7)).toNat)
  case atStart => exact ⟨0, Nat.zero_le _, rfl, Lib.hid (Below.refl _ _)⟩
  case round =>
    obtain ⟨i, hi, rfl, HBW⟩ := hrel
    have hbs := HBW.out.size
    have HBr := Lib.hid (HB.out.trans (Below.mono HBW.out HB.out.size))
    obtain ⟨c0, c1, c2, c3, c4, cf, cl⟩ := HCA.out.low HBW.out (by omega)
    obtain ⟨d0, d1, d2, d3, d4, df, dl⟩ := HCB.out.low HBW.out (by omega)
    by_cases hlt : i < la'
    · have hlz : (i : Int) < (la' : Int) := by omega
      have hiL : i < xs.length := by omega
      have HXr := Lib.hid (HX.out.keep HBr.out)
      have HXr' := Lib.hid (HX'.out.keep HBr.out)
      obtain rfl := HXr.out.ha (by omega)
      obtain rfl := HXr'.out.ha (by omega)
      have bb := HXr.out.hb (by omega)
      have bb' := HXr'.out.hb (by omega)
      have p0 := HXr.out.c0 i hiL
      have p1 := HXr.out.c1 i hiL
      have p2 := HXr.out.c2 i hiL
      have p3 := HXr.out.c3 i hiL
      have q0 := HXr'.out.c0 i hiL
      have q1 := HXr'.out.c1 i hiL
      have q2 := HXr'.out.c2 i hiL
      have q3 := HXr'.out.c3 i hiL
      generalize xs[i]'hiL = x at *
      obtain ⟨xk, xt, xn, xa⟩ := x
      simp only at p0 p1 p2 p3 q0 q1 q2 q3
      have HB2 := Lib.hid (show Below W.heap.size W (((wr.alloc (.cells #[.int .i64 xk, .string xt, .int .i64 xn, .int .i64 xa] 51)).alloc (.cells #[.int .i64 xk, .string xt, .int .i64 xn, .int .i64 xa] 51))) from (HBW.out.alloc hbs _).alloc (by simp; omega) _)
      clear HXr HXr' HBr
      go_wp2_with fail
      go_region
      all_goals
        clear p0 p1 p2 p3 q0 q1 q2 q3
        have HBD := Lib.hid (HB2.out.trans (Below.mono ((Below.refl _ _).drew) HB2.out.size))
        go_wp2_with fail
        go_roundw
        case rel => exact ⟨i + 1, by omega, by go_num, HBD⟩
        case measure => simp [intOf]; omega
    · have hlz : ¬ (i : Int) < (la' : Int) := by omega
      obtain rfl : i = la' := by omega
      go_wp2_with fail
      refine (HS.out _ (HK.out.low (fun x hx => hx.2) HBr.out) (HK'.out.low (fun x hx => hx.2) HBr.out)).mono ?_
      rintro e w2 ⟨rfl, hb2⟩
      have HB2 := Lib.hid (HBr.out.trans (Below.mono hb2 HBr.out.size))
      clear hb2 c0 c1 c2 c3 c4 cf cl d0 d1 d2 d3 d4 df dl
      go_wp2_with fail
      go_ret
      exact ⟨rfl, HB2.out⟩
set_option maxHeartbeats 8000000 in
set_option maxRecDepth 100000 in
theorem eqs_any : ∀ n : Nat, n ≤ 4611686018427387904 → EqC n
  | 0, _ => fun _ h => absurd h (Nat.not_lt_zero _)
  | n + 1, hn => fun c hc w F G a a' b o cap b' o' cap' hA hA' => by
    have HG := Lib.hid (fun wd xs bl k av hk W aa ak aa' ak' ba oa la ca bk ok ck ba' oa' la' ca' bk' ok' ck' hx hc hx' hc' => smr_any n (Lib.hid (eqs_any n (by omega))) wd xs bl k av hk W (fun x => F x ∧ x < w.heap.size) (fun x => G x ∧ x < w.heap.size) aa ak aa' ak' ba oa la ca bk ok ck ba' oa' la' ca' bk' ok' ck' hx hc hx' hc')
    have HA := Lib.hid hA.here
    have HA' := Lib.hid hA'.here
    have HM := Lib.hid (fun i wd xs bl k a r => @drop_count c i wd xs bl k a r)
    have hlc : c.len ≤ 4611686018427387904 := by have := kidsN_le c 0; omega
    obtain ⟨N, hN⟩ : ∃ N, c.count = N := ⟨_, rfl⟩
    obtain ⟨l, hl⟩ : ∃ l, c.len = l := ⟨_, rfl⟩
    rw [hN] at HM hc
    rw [hl] at HA HA' hlc ⊢
    have HLN := Lib.hid hl
    clear hA hA' hN hl
    go_enter Tryd.func16, Tryd.ntmps16
    go_wp2_with fail
    go_loopw [7] (fun s7 wr => ∃ i : Nat, i ≤ l ∧ s7 = .int .i64 (i : Int) ∧ Hid (Below w.heap.size w wr)) (fun s7 _ => (l - (intOf s7)).toNat)
    case atStart => exact ⟨0, Nat.zero_le _, rfl, Lib.hid (Below.refl _ _)⟩
    case round =>
      obtain ⟨i, hi, rfl, HB⟩ := hrel
      by_cases hlt : i < l
      · have hlz : (i : Int) < (l : Int) := by omega
        have SA := HA.out.low (fun x hx => hx.2) HB.out
        have SA' := HA'.out.low (fun x hx => hx.2) HB.out
        obtain ⟨rfl, bb, _⟩ := SA.2.2.2.1 (by omega)
        obtain ⟨rfl, bbb, _⟩ := SA'.2.2.2.1 (by omega)
        obtain ⟨wd, xs, bl, kd, av, rest, aa, xb, oa, la, ca, ak, bk, ok, ck, hd, c0, c1, c2, c3, c4, SX, _, SK⟩ := AtC.get i (by rw [HLN.out]; exact hlt) SA.2.2.2.2
        obtain ⟨wd', xs', bl', kd', av', rest', aa', xb', oa', la', ca', ak', bk', ok', ck', hd', d0, d1, d2, d3, d4, SX', _, SK'⟩ := AtC.get i (by rw [HLN.out]; exact hlt) SA'.2.2.2.2
        rw [hd] at hd'
        simp only [Cls.cons.injEq] at hd'
        obtain ⟨rfl, rfl, rfl, rfl, rfl, rfl⟩ := hd'
        have hkc := HM.out _ _ _ _ _ _ _ hd
        have hbs := HB.out.size
        have HSX := Lib.hid SX
        have HSX' := Lib.hid SX'
        have HSK := Lib.hid SK
        have HSK' := Lib.hid SK'
        have HCC := Lib.hid (fun W (hb : Below wr.heap.size wr W) => HG.out wd xs bl kd av (by omega) W aa ak aa' ak' xb oa la ca bk ok ck xb' oa' la' ca' bk' ok' ck' (HSX.out.keep hb) (HSK.out.low (fun x hx => Nat.lt_of_lt_of_le hx.2 hbs) hb) (HSX'.out.keep hb) (HSK'.out.low (fun x hx => Nat.lt_of_lt_of_le hx.2 hbs) hb))
        generalize kd.len = y at *
        clear SA SA' SX SX' SK SK' hd HG HM HSX HSX' HSK HSK'
        have hBB : Below wr.heap.size wr wr := Below.refl _ _
        go_wp2_with fail
        go_cut [19, 20, 21, 22, 23, 24, 25, 26, 27, 28, 29] (fun s19 s20 s21 s22 s23 s24 s25 s26 s27 s28 s29 wx => s29 = .bool false ∧ Hid (Below wr.heap.size wr wx))
        case first =>
          go_region_held3 (fun w' => w'.cell? ⟨b, o + i * 5, none⟩ = some (.string wd) ∧ w'.cell? ⟨b, o + i * 5 + 1, none⟩ = some (.slice aa la ca) ∧ w'.cell? ⟨b, o + i * 5 + 2, none⟩ = some (.bool bl) ∧ w'.cell? ⟨b, o + i * 5 + 3, none⟩ = some (.slice ak y ck) ∧ w'.cell? ⟨b, o + i * 5 + 4, none⟩ = some (.int .i64 av) ∧ w'.cell? ⟨b', o' + i * 5, none⟩ = some (.string wd) ∧ w'.cell? ⟨b', o' + i * 5 + 1, none⟩ = some (.slice aa' la' ca') ∧ w'.cell? ⟨b', o' + i * 5 + 2, none⟩ = some (.bool bl) ∧ w'.cell? ⟨b', o' + i * 5 + 3, none⟩ = some (.slice ak' y ck') ∧ w'.cell? ⟨b', o' + i * 5 + 4, none⟩ = some (.int .i64 av))
            ((first | (simp [go_sem, c0, c1, c2, c3, c4, d0, d1, d2, d3, d4]; done)))
            (first
              | (go_at_call 26; (refine (HCC.out _ ?tab).mono ?_); (case tab => exact (by repeat (first | with_reducible exact Below.refl _ _ | (with_reducible refine Below.setCell ?_ (by first | exact Nat.le_refl _ | omega | (simp; done) | (simp; omega)) _) | (with_reducible refine Below.alloc ?_ (by first | exact Nat.le_refl _ | omega | (simp; done) | (simp; omega)) _) | with_reducible refine Below.drew ?_ | with_reducible refine bel_drewN ?_ _ | (with_reducible refine bel_by (by with_reducible assumption) (by first | exact Nat.le_refl _ | omega | (simp; done) | (simp; omega)) ?_)))); rintro e v1 ⟨rfl, hb⟩; (repeat (with_reducible replace hb := undrew hb)); have c0 := (hb.cell (p := ⟨b, o + i * 5, none⟩) bb).trans c0; have c1 := (hb.cell (p := ⟨b, o + i * 5 + 1, none⟩) bb).trans c1; have c2 := (hb.cell (p := ⟨b, o + i * 5 + 2, none⟩) bb).trans c2; have c3 := (hb.cell (p := ⟨b, o + i * 5 + 3, none⟩) bb).trans c3; have c4 := (hb.cell (p := ⟨b, o + i * 5 + 4, none⟩) bb).trans c4; have d0 := (hb.cell (p := ⟨b', o' + i * 5, none⟩) bbb).trans d0; have d1 := (hb.cell (p := ⟨b', o' + i * 5 + 1, none⟩) bbb).trans d1; have d2 := (hb.cell (p := ⟨b', o' + i * 5 + 2, none⟩) bbb).trans d2; have d3 := (hb.cell (p := ⟨b', o' + i * 5 + 3, none⟩) bbb).trans d3; have d4 := (hb.cell (p := ⟨b', o' + i * 5 + 4, none⟩) bbb).trans d4; have hBB := hBB.trans (Below.mono (B' := wr.heap.size) hb (by first | exact Nat.le_refl _ | exact hBB.size)); clear hb))
          all_goals
            go_wp2_with fail
            go_meet
            exact ⟨rfl, Lib.hid (by repeat (first | with_reducible exact Below.refl _ _ | (with_reducible refine Below.setCell ?_ (by first | exact Nat.le_refl _ | omega | (simp; done) | (simp; omega)) _) | (with_reducible refine Below.alloc ?_ (by first | exact Nat.le_refl _ | omega | (simp; done) | (simp; omega)) _) | with_reducible refine Below.drew ?_ | with_reducible refine bel_drewN ?_ _ | (with_reducible refine bel_by (by with_reducible assumption) (by first | exact Nat.le_refl _ | omega | (simp; done) | (simp; omega)) ?_)))⟩
        obtain ⟨rfl, HBC⟩ := hcut
        generalize wc = w1 at *
        have HB1 := Lib.hid (bel_by HBC.out (by omega) HB.out)
        clear c0 c1 c2 c3 c4 d0 d1 d2 d3 d4 HBC HCC hBB
        go_wp2_with fail
        go_roundw
        case rel => exact ⟨i + 1, by omega, by go_num, HB1⟩
        case measure => simp [intOf]; omega
      · have hlz : ¬ (i : Int) < (l : Int) := by omega
        obtain rfl : i = l := by omega
        go_wp2_with fail
        go_ret
        exact ⟨rfl, HB.out⟩
end Go.Proofs.YtepigooldelgnaaDoor
/- Contract of layer 10's laws: placed. -/
namespace Go.Proofs.YtepigooldelgnaaDoor
open Go.RowKit

theorem parL_nil {F o : Nat} {L rest : List Tk} (hF : L.length < F) (h : parL F o L = (.nil, rest, 0, 0)) : L.length = rest.length + 1 := by
  match F, L, hF, h with
  | F + 1, [], _, h => simp [parL] at h
  | F + 1, t :: l, hF, h =>
    rcases parL_inv (f := F) (o := o) (t := t) (l := l) (by rw [h]) with hb | ⟨hb, h1, d, m, hd, hs⟩
    · rw [parL_ends hb] at h
      simp only [Prod.mk.injEq, true_and, and_true] at h
      rw [← h]; rfl
    · exfalso
      rcases hs with ⟨h59, hc⟩ | ⟨h59, h123, h8, hc, hc2⟩
      · rw [parL_semi hb h1 hd h59] at h
        unfold consR at h
        rw [if_pos hc] at h
        simp at h
      · rw [parL_block hb h1 hd h59 h123 h8 hc] at h
        unfold consR at h
        rw [if_pos hc2] at h
        simp at h
theorem parL_cons {F o : Nat} {L rest : List Tk} {wd : ByteArray} {xs : List Tk} {bl : Bool} {kd : Cls} {av : Int} {r : Cls} (hF : L.length < F) (h : parL F o L = (.cons wd xs bl kd av r, rest, 0, 0)) :
    ∃ t d m, L = t :: (xs ++ d :: m) ∧ t.t = wd ∧ t.a = av ∧ ((bl = false ∧ parL F o m = (r, rest, 0, 0)) ∨ (bl = true ∧ ∃ m2, parL F (o + 1) m = (kd, m2, 0, 0) ∧ parL F o m2 = (r, rest, 0, 0) ∧ m2.length < m.length ∧ m2 = m.drop (m.length - m2.length))) := by
  match F, L, hF, h with
  | F + 1, [], _, h => simp [parL] at h
  | F + 1, t :: l, hF, h =>
    simp only [List.length_cons] at hF
    rcases parL_inv (f := F) (o := o) (t := t) (l := l) (by rw [h]) with hb | ⟨hb, h1, d, m, hd, hs⟩
    · rw [parL_ends hb] at h
      simp at h
    · have hm := dw_len hd
      obtain ⟨d', m', hd', hl, hda⟩ | hn := dw_cases l
      rotate_left
      · rw [hd] at hn; exact absurd hn (by simp)
      rw [hd] at hd'
      simp only [List.cons.injEq] at hd'
      obtain ⟨rfl, rfl⟩ := hd'
      rcases hs with ⟨h59, hc⟩ | ⟨h59, h123, h8, hc, hc2⟩
      · have hg := parL_good F o m hc
        rw [parL_semi hb h1 hd h59] at h
        unfold consR at h
        rw [if_pos hc] at h
        simp only [Prod.mk.injEq, Cls.cons.injEq] at h
        obtain ⟨⟨e1, e2, e3, e4, e5, e6⟩, e7, _⟩ := h
        refine ⟨t, d, m, by rw [← e2, ← hl], e1, e5, Or.inl ⟨e3.symm, ?_⟩⟩
        rw [parL_fuel (F + 1) F o m (by omega) (by omega), ← e6, ← e7, ← hg]
      · have hg := parL_good F (o + 1) m hc
        have hlr := parL_le F (o + 1) m
        have hg2 := parL_good F o _ hc2
        obtain ⟨q, q1, _⟩ := parL_pre F (o + 1) m (by omega) (by omega) hc
        have hne : m ≠ [] := by
          intro e
          subst e
          cases F <;> simp [parL] at hc <;> omega
        have hlt := parL_len F (o + 1) m hne
        rw [parL_block hb h1 hd h59 h123 h8 hc] at h
        unfold consR at h
        rw [if_pos hc2] at h
        simp only [Prod.mk.injEq, Cls.cons.injEq] at h
        obtain ⟨⟨e1, e2, e3, e4, e5, e6⟩, e7, _⟩ := h
        refine ⟨t, d, m, by rw [← e2, ← hl], e1, e5, Or.inr ⟨e3.symm, (parL F (o + 1) m).2.1, ?_, ?_, hlt, ?_⟩⟩
        · rw [parL_fuel (F + 1) F (o + 1) m (by omega) (by omega), ← e4, ← hg]
        · rw [parL_fuel (F + 1) F o _ (by omega) (by omega), ← e6, ← e7, ← hg2]
        · generalize (parL F (o + 1) m).2.1 = R at *
          have : m.length = q.length + R.length := by rw [q1]; simp
          rw [show m.length - R.length = q.length by omega]
          conv => rhs; rw [q1]
          rw [List.drop_left]
theorem drop_split {L : List Tk} {n : Nat} {t d : Tk} {xs m : List Tk} (h : L.drop n = t :: (xs ++ d :: m)) : n + xs.length + 1 < L.length ∧ (∀ (hn : n < L.length), L[n]'hn = t) ∧ (∀ k (hk : k < xs.length) (hn : n + 1 + k < L.length), L[n + 1 + k]'hn = xs[k]'hk) ∧ L.drop (n + (xs.length + 2)) = m := by
  have hl := congrArg List.length h
  simp only [List.length_drop, List.length_cons, List.length_append] at hl
  refine ⟨by omega, fun hn => ?_, fun k hk hn => ?_, ?_⟩
  · have h1 : (L.drop n)[0]? = some t := by rw [h]; rfl
    rw [List.getElem?_drop, Nat.add_zero, List.getElem?_eq_getElem hn] at h1
    exact Option.some.inj h1
  · have h1 : (L.drop n)[1 + k]? = some (xs[k]'hk) := by
      rw [h, show 1 + k = k + 1 by omega, List.getElem?_cons_succ, List.getElem?_append_left hk, List.getElem?_eq_getElem hk]
    rw [List.getElem?_drop, ← Nat.add_assoc, List.getElem?_eq_getElem hn] at h1
    exact Option.some.inj h1
  · rw [← List.drop_drop, h, List.drop_succ_cons, show xs.length + 1 = xs.length + 1 from rfl]
    rw [List.drop_append, List.drop_eq_nil_of_le (by omega), show xs.length + 1 - xs.length = 1 by omega]
    rfl
/-- the tail of a slice of tokens -/
theorem SlT.tail {w : World} {a : Option Addr} {b off len cap : Nat} {L : List Tk} (h : SlT w a b off len cap L) (n : Nat) (hn : n < len) : SlT w (some ⟨b, off + n * 4, none⟩) b (off + n * 4) (len - n) (cap - n) (L.drop n) := by
  obtain ⟨h1, h2, h3, h4, h5, h6, h7, h8, h9⟩ := h
  have e : ∀ k (hk : k < (L.drop n).length), n + k < L.length := fun k hk => by rw [List.length_drop] at hk; omega
  refine ⟨by rw [List.length_drop, h1], fun _ => rfl, fun _ => h3 (by omega), by omega, by omega, fun k hk => ?_, fun k hk => ?_, fun k hk => ?_, fun k hk => ?_⟩
  all_goals rw [List.getElem_drop]
  · rw [show off + n * 4 + k * 4 = off + (n + k) * 4 by omega]; exact h6 (n + k) (e k hk)
  · rw [show off + n * 4 + k * 4 + 1 = off + (n + k) * 4 + 1 by omega]; exact h7 (n + k) (e k hk)
  · rw [show off + n * 4 + k * 4 + 2 = off + (n + k) * 4 + 2 by omega]; exact h8 (n + k) (e k hk)
  · rw [show off + n * 4 + k * 4 + 3 = off + (n + k) * 4 + 3 by omega]; exact h9 (n + k) (e k hk)
theorem lenC_max2 {w : World} {F : Nat → Prop} {a : Option Addr} {b o cap : Nat} {c : Cls} (h : SlC w F a b o c.len cap c) : c.len ≤ maxLen := Nat.le_trans h.2.1 h.2.2.1
def PlC (F n : Nat) : Prop := ∀ (c : Cls), c.count < n → ∀ (o : Nat) (L rest : List Tk), L.length < F → parL F o L = (c, rest, 0, 0) → ∀ (w : World) (G : Nat → Prop) (a : Option Addr) (b oc cap : Nat) (a' : Option Addr) (b' o' cap' : Nat), SlC w G a b oc c.len cap c → SlT w a' b' o' L.length cap' L →
    Calls Tryd.prog 12 #[.slice a c.len cap, .slice a' L.length cap'] w fun e w' => e = .returned (.int .i64 ((L.length : Int) - (rest.length : Int) - 1)) ∧ Below w.heap.size w w'
set_option maxHeartbeats 8000000 in
set_option maxRecDepth 100000 in
theorem pld_any (F : Nat) (hF : F ≤ 1000000) : ∀ n : Nat, n ≤ 4611686018427387904 → PlC F n
  | 0, _ => fun _ h => absurd h (Nat.not_lt_zero _)
  | n + 1, hn => fun c hc op L rest hLF hpar w G a b oc cap a' b' o' cap' hA hS => by
    have IH := Lib.hid (pld_any F hF n (by omega))
    have HA := Lib.hid hA.here
    have HS := Lib.hid hS
    have HM := Lib.hid (fun i wd xs bl k a r => @drop_count c i wd xs bl k a r)
    have HN := Lib.hid (fun i wd xs bl k a r => @drop_next c i wd xs bl k a r)
    have HE := Lib.hid (drop_all c)
    have HP0 := Lib.hid (show parL F op (L.drop 0) = (c.drop 0, rest, 0, 0) by rw [List.drop_zero, hpar]; cases c <;> rfl)
    have hlc : c.len ≤ 4611686018427387904 := by have := kidsN_le c 0; omega
    have hm := hS.hmax
    have hcp := hS.hcap
    unfold maxLen at hm
    obtain ⟨N, hN⟩ : ∃ N, c.count = N := ⟨_, rfl⟩
    obtain ⟨l, hl⟩ : ∃ l, c.len = l := ⟨_, rfl⟩
    obtain ⟨M, hMl⟩ : ∃ M, L.length = M := ⟨_, rfl⟩
    rw [hN] at HM hc
    rw [hl] at HA HE hlc ⊢
    rw [hMl] at HS hLF hcp ⊢
    have HLN := Lib.hid hl
    have HML := Lib.hid hMl
    clear hA hS hN hl hpar hMl
    go_enter Tryd.func12, Tryd.ntmps12
    go_wp2_with fail
    go_loopw [5, 6] (fun s5 s6 wr => ∃ (i nn : Nat), i ≤ l ∧ nn ≤ M ∧ s5 = .int .i64 (nn : Int) ∧ s6 = .int .i64 (i : Int) ∧ Hid (Below w.heap.size w wr) ∧ Hid (parL F op (L.drop nn) = (c.drop i, rest, 0, 0))) (fun _ s6 _ => (l - (intOf s6)).toNat)
    case atStart => exact ⟨0, 0, Nat.zero_le _, Nat.zero_le _, rfl, rfl, Lib.hid (Below.refl _ _), HP0⟩
    case round =>
      obtain ⟨i, nn, hi', hnn, rfl, rfl, HB, HP⟩ := hrel
      by_cases hlt : i < l
      · have hlz : (i : Int) < (l : Int) := by omega
        have SA := HA.out.low (fun x hx => hx.2) HB.out
        obtain ⟨rfl, bb, _⟩ := SA.2.2.2.1 (by omega)
        obtain ⟨wd, xs, bl, kd, av, r, aa, xb, oa, la, ca, ak, bk, ok, ck, hd, e0, e1, e2, e3, e4, SX, _, SK⟩ := AtC.get i (by rw [HLN.out]; exact hlt) SA.2.2.2.2
        have hkc := HM.out _ _ _ _ _ _ _ hd
        have hpp := HP.out
        rw [hd] at hpp
        have hML := HML.out
        obtain ⟨t, d, m, hL, ht1, ht2, hor⟩ := parL_cons (by rw [List.length_drop]; omega) hpp
        obtain ⟨s1, s2, s3, s4⟩ := drop_split hL
        have hxl := SX.hl
        subst hxl
        have hnL : nn < L.length := by omega
        have HSr := Lib.hid (HS.out.keep HB.out)
        obtain rfl := HSr.out.ha (by omega)
        have bb' := HSr.out.hb (by omega)
        have t1 := HSr.out.c1 nn hnL
        have t3 := HSr.out.c3 nn hnL
        rw [s2 hnL, ht1] at t1
        rw [s2 hnL, ht2] at t3
        have HSX := Lib.hid SX
        have HSK := Lib.hid SK
        have hxm := SX.hcap
        have hxx := SX.hmax
        unfold maxLen at hxx
        have HS3 := Lib.hid s3
        have HS4 := Lib.hid s4
        have HOR := Lib.hid hor
        have HNX := Lib.hid (HN.out _ _ _ _ _ _ _ hd)
        have hkm := lenC_max2 SK
        unfold maxLen at hkm
        have hbs := HB.out.size
        have HCL := Lib.hid (cl_new wr wd (.slice aa xs.length ca) (.slice ak kd.len ck) bl av 40)
        have HBA := Lib.hid (HB.out.alloc hbs (.cells #[.string wd, .slice aa xs.length ca, .bool bl, .slice ak kd.len ck, .int .i64 av] 40))
        have HBR := Lib.hid ((Below.refl wr.heap.size wr).alloc (Nat.le_refl _) (.cells #[.string wd, .slice aa xs.length ca, .bool bl, .slice ak kd.len ck, .int .i64 av] 40))
        have t1' := (HBR.out.cell (p := ⟨b', o' + nn * 4 + 1, none⟩) bb').trans t1
        have t3' := (HBR.out.cell (p := ⟨b', o' + nn * 4 + 3, none⟩) bb').trans t3
        obtain ⟨c0, c1, c2, c3, c4, cf, cl⟩ := HCL.out
        clear SA SX SK hd hpp hL s2 s3 s4 hor t1 t3 HP
        have g1 : decide ((nn : Int) + (xs.length : Int) + 1 ≥ (M : Int)) = false := decide_eq_false (by omega)
        have g2 : ¬ (M : Int) ≤ (nn : Int) + (xs.length : Int) + 1 := by omega
        have g3 : (nn : Int) < (M : Int) := by omega
        go_wp2_with fail
        go_quiet (fail)
        go_wp2_with fail
        clear c0 c1 c2 c3 c4 cf cl t1' t3' g1 g2 g3
        have HC1 := Lib.hid (HCL.out.keep (below_drewN _ nq))
        have HB1 := Lib.hid (bel_drewN HBA.out nq)
        have HR1 := Lib.hid (bel_drewN HBR.out nq)
        have hsz1 : ((wr.alloc (.cells #[.string wd, .slice aa xs.length ca, .bool bl, .slice ak kd.len ck, .int .i64 av] 40)).drewN nq).heap.size = wr.heap.size + 1 := by show (wr.alloc (.cells #[.string wd, .slice aa xs.length ca, .bool bl, .slice ak kd.len ck, .int .i64 av] 40)).heap.size = _; simp
        clear HCL HBA HBR
        generalize (wr.alloc (.cells #[.string wd, .slice aa xs.length ca, .bool bl, .slice ak kd.len ck, .int .i64 av] 40)).drewN nq = W1 at *
        obtain ⟨cb, hcb⟩ : ∃ cb, wr.heap.size = cb := ⟨_, rfl⟩
        rw [hcb] at HC1 ⊢
        go_loopw [8] (fun s8 wi => ∃ k : Nat, k ≤ xs.length ∧ s8 = .int .i64 (k : Int) ∧ Hid (Below W1.heap.size W1 wi)) (fun s8 _ => (xs.length - (intOf s8)).toNat)
        case atStart => exact ⟨0, Nat.zero_le _, rfl, Lib.hid (Below.refl _ _)⟩
        case round =>
          obtain ⟨k, hk, rfl, HBi⟩ := hrel
          have hbi := HBi.out.size
          obtain ⟨c0, c1, c2, c3, c4, cf, cl⟩ := HC1.out.low HBi.out (by omega)
          by_cases hltk : k < xs.length
          · have hlk : (k : Int) < (xs.length : Int) := by omega
            have hx1 : nn + 1 + k < L.length := by omega
            have HRi := Lib.hid (HR1.out.trans (Below.mono HBi.out HR1.out.size))
            have hSi := HSr.out.keep HRi.out
            have hXi := HSX.out.keep HRi.out
            obtain rfl := hXi.ha (by omega)
            have bbx := hXi.hb (by omega)
            have bbs := hSi.hb (by omega)
            have p0 := hSi.c0 (nn + 1 + k) hx1
            have p1 := hSi.c1 (nn + 1 + k) hx1
            have p2 := hSi.c2 (nn + 1 + k) hx1
            have p3 := hSi.c3 (nn + 1 + k) hx1
            rw [HS3.out k hltk hx1] at p0 p1 p2 p3
            have q0 := hXi.c0 k hltk
            have q1 := hXi.c1 k hltk
            have q2 := hXi.c2 k hltk
            have q3 := hXi.c3 k hltk
            have HBQ := HBi
            generalize xs[k]'hltk = x at *
            obtain ⟨xk, xt, xn, xa⟩ := x
            simp only at p0 p1 p2 p3 q0 q1 q2 q3
            have j2 : nn + 1 + k < M := by omega
            have j3 : (nn : Int) + 1 + (k : Int) < (M : Int) := by omega
            clear hSi hXi
            go_wp2_with fail
            go_quiet (fail)
            go_wp2_with fail
            go_roundw
            case rel => exact ⟨k + 1, by omega, by go_num, Lib.hid (bel_drewN HBi.out nq)⟩
            case measure => simp [intOf]; omega
          · have hlk : ¬ (k : Int) < (xs.length : Int) := by omega
            obtain rfl : k = xs.length := by omega
            have HRi := Lib.hid (HR1.out.trans (Below.mono HBi.out HR1.out.size))
            have HBi2 := Lib.hid (HB1.out.trans (Below.mono HBi.out HB1.out.size))
            have hd1 : ¬ ((nn : Int) + ((xs.length : Int) + 2) > (M : Int)) := by omega
            have hd2 : ¬ (M : Int) < (nn : Int) + ((xs.length : Int) + 2) := by omega
            have hd3 : decide ((nn : Int) + ((xs.length : Int) + 2) > (M : Int)) = false := decide_eq_false hd1
            have hS4 := HS4.out
            clear HB HB1 HR1 HS3 HS4
            cases bl with
            | false =>
              obtain ⟨_, hq⟩ | ⟨h, _⟩ := HOR.out
              rotate_left
              · exact absurd h (by simp)
              have HQ := Lib.hid hq
              clear hq HOR
              go_wp2_with fail
              go_roundw
              case rel => exact ⟨i + 1, nn + (xs.length + 2), by omega, by omega, by go_num, by go_num, HBi2, Lib.hid (by rw [hS4, HNX.out]; exact HQ.out)⟩
              case measure => simp [intOf]; omega
            | true =>
              obtain ⟨h, _⟩ | ⟨_, m2, hq1, hq2, hq3, hq4⟩ := HOR.out
              · exact absurd h (by simp)
              have hml : m.length = M - (nn + (xs.length + 2)) := by rw [← hS4, List.length_drop, hML]
              have hst := (HSr.out.keep HRi.out).tail (nn + (xs.length + 2)) (by omega)
              rw [hS4] at hst
              rw [← hml] at hst
              obtain ⟨n2, hn2⟩ : ∃ n2 : Nat, nn + (xs.length + 2) = n2 := ⟨_, rfl⟩
              have hn2i : (nn : Int) + ((xs.length : Int) + 2) = (n2 : Int) := by omega
              rw [hn2] at hst hml hS4
              have hcn : ¬ cap' = n2 := by omega
              have HST := Lib.hid hst
              have HKK := Lib.hid (HSK.out.here.low (fun x hx => hx.2) HRi.out)
              have hwi := HRi.out.size
              have HCC := Lib.hid (fun W (hb : Below wr.heap.size wr W) => IH.out kd (by omega) (op + 1) m m2 (by omega) hq1 W _ ak bk ok ck _ b' (o' + n2 * 4) (cap' - n2) (HKK.out.low (fun x hx => by have := hx.2; omega) hb) (HST.out.keep hb))
              rw [hml] at HCC
              have HQ2 := Lib.hid hq2
              have HQ4 := Lib.hid hq4
              clear hq1 hq2 hq4 hst HST HKK HOR
              generalize kd.len = y at *
              have hBB : Below wr.heap.size wr wr := Below.refl _ _
              go_wp2_with fail
              have k3 := cell_regrown c3
              have cQ := fun (d : Nat) (os : Array Obj) => Calls.regrown_of (HCC.out (Sort.grow (redrawn wr d) os) (below_regrown wr d os))
              clear c0 c1 c2 c3 c4
              try rw [hn2i]
              have sl1 : (0 : Int) ≤ (n2 : Int) := by omega
              have sl2 : (n2 : Int) ≤ (M : Int) := by omega
              have sl3 : (M : Int) ≤ (cap' : Int) := by omega
              refine wp_region_quiet_below (by kernel_rfl) (by kernel_rfl) ?_
              repeat (quiet_step (exact cQ _ _))
              refine wpQuiet_nil ?_
              intro _ hw'
              obtain ⟨⟨dq, osq⟩, hw''⟩ := hw'
              subst hw''
              clear k3 cQ
              have HBI := Lib.hid (below_regrown wr dq osq)
              generalize Sort.grow (redrawn wr dq) osq = w3 at *
              have HB3 := Lib.hid (HBi2.out.trans (Below.mono HBI.out HBi2.out.size))
              clear cf cl
              clear sl1 sl2 sl3 hn2i
              have hk2 : ¬ ((M - n2 : Nat) : Int) - (m2.length : Int) - 1 < 0 := by omega
              have hk3 : (n2 : Int) + (((M - n2 : Nat) : Int) - (m2.length : Int) - 1 + 1) = ((M - m2.length : Nat) : Int) := by omega
              have HDR := Lib.hid (show L.drop (M - m2.length) = m2 by
                have h4 := HQ4.out
                rw [← hS4, List.drop_drop, List.length_drop, hML] at h4
                rw [show n2 + (M - n2 - m2.length) = M - m2.length by omega] at h4
                exact h4.symm)
              go_wp2_with fail
              go_roundw
              case rel => exact ⟨i + 1, M - m2.length, by omega, by omega, by simp only [Value.int.injEq, true_and]; omega, by go_num, HB3, Lib.hid (by rw [HDR.out, HNX.out]; exact HQ2.out)⟩
              case measure => simp [intOf]; omega
      · have hlz : ¬ (i : Int) < (l : Int) := by omega
        obtain rfl : i = l := by omega
        have hML := HML.out
        have HQ := Lib.hid (show M - nn = rest.length + 1 by
          have := HP.out
          rw [HE.out] at this
          have := parL_nil (by rw [List.length_drop]; omega) this
          rw [List.length_drop] at this
          omega)
        go_wp2_with fail
        go_ret
        exact ⟨ret_int (by have := HQ.out; omega), HB.out⟩
end Go.Proofs.YtepigooldelgnaaDoor
