/- Entries: what is read is possible and has the tokens that were read; what is possible is read from its tokens. -/
import Derived.Test.YtiofekoadjgjdaaGreatDoorParQ
set_option linter.unusedSimpArgs false
set_option linter.unusedVariables false
namespace Go.Proofs.YtiofekoadjgjdaaGreatDoor
open Go.RowKit

theorem zeroA_k {x y : Tk} (h : zeroA x = zeroA y) : x.k = y.k ∧ x.t = y.t ∧ x.n = y.n := by
  unfold zeroA at h
  simp only [Tk.mk.injEq] at h
  exact ⟨h.1, h.2.1, h.2.2.1⟩
theorem sgn_zero {x y : Tk} (h : zeroA x = zeroA y) (c : UInt8) : sgn x c = sgn y c := by
  obtain ⟨h1, h2, _⟩ := zeroA_k h
  unfold sgn; rw [h1, h2]
theorem atm_zero {x y : Tk} (h : zeroA x = zeroA y) : atmB x = atmB y := by
  unfold atmB
  rw [sgn_zero h, sgn_zero h, sgn_zero h, (zeroA_k h).1]
theorem valid_zero {x y : Tk} (h : zeroA x = zeroA y) : validT x = validT y := by
  obtain ⟨h1, h2, h3⟩ := zeroA_k h
  unfold validT; rw [h1, h2, h3]
theorem valid_n {t : Tk} (h : validT t = true) (hk : t.k ≠ 2) : t.n = 0 := by
  unfold validT at h
  rw [if_neg hk] at h
  simp at h
  exact h.1
theorem word_zero {t : Tk} (h : validT t = true) (hk : t.k = 1) : zeroA t = ⟨1, t.t, 0, 0⟩ := by
  have := valid_n h (by omega)
  unfold zeroA
  simp [hk, this]
theorem sign_zero {t : Tk} {c : UInt8} (h : validT t = true) (hk : sgn t c = true) : zeroA t = ⟨4, bs [c], 0, 0⟩ := by
  unfold sgn at hk
  simp at hk
  have := valid_n h (by omega)
  unfold zeroA
  simp [hk.1, hk.2, this]
theorem sgn_not {t : Tk} {c d : UInt8} (h : sgn t c = true) (hc : c ≠ d) : sgn t d = false := by
  unfold sgn at h ⊢
  simp at h ⊢
  intro _ h2
  rw [h.2] at h2
  have : [c] = [d] := by rw [← bs_data [c], h2, bs_data]
  simp at this
  exact hc this
theorem ends_word {o : Nat} {t : Tk} (h : t.k = 1) : endsB o t = false := by
  unfold endsB sgn
  split <;> simp [h]
theorem atm_end {o : Nat} {t : Tk} (h : endsB o t = true) : atmB t = false := by
  unfold endsB at h
  unfold atmB
  split at h
  · simp at h; simp [h]
  · simp [h]
/-- what is read: the tokens up to the one that ends it -/
theorem parL_toks : ∀ (f o : Nat) (l : List Tk), l.length < f → (∀ t ∈ l, validT t = true) → (parL f o l).2.2.1 = 0 →
    ∃ L x, l = L ++ x :: (parL f o l).2.1 ∧ endsB o x = true ∧ L.map zeroA = (toksC (parL f o l).1).map zeroA ∧ formed (parL f o l).1 = true ∧ (o ≤ 8 → (parL f o l).1.depth + o ≤ 8)
  | 0, _, _, h, _, _ => by omega
  | f + 1, o, [], _, _, h => absurd h (by simp [parL])
  | f + 1, o, t :: l, hf, hv, h => by
    simp only [List.length_cons] at hf
    have hvt := hv t (by simp)
    have hvl : ∀ t ∈ l, validT t = true := fun x hx => hv x (by simp [hx])
    rcases parL_inv h with hb | ⟨hb, h1, d, m, hd, hs⟩
    · rw [parL_ends hb]
      exact ⟨[], t, rfl, hb, rfl, rfl, fun h => by simpa [Cls.depth] using h⟩
    · have hm := dw_len hd
      obtain ⟨d', m', hd', hl, _⟩ | hn := dw_cases l
      rotate_left
      · rw [hd] at hn; exact absurd hn (by simp)
      rw [hd] at hd'
      simp only [List.cons.injEq] at hd'
      obtain ⟨rfl, rfl⟩ := hd'
      have hvd : validT d = true := hvl d (by rw [hl]; simp)
      have hvm : ∀ t ∈ m, validT t = true := fun x hx => hvl x (by rw [hl]; simp [hx])
      have hva : (l.takeWhile atmB).all (fun t => validT t && atmB t) = true := by
        rw [List.all_eq_true]
        intro x hx
        have h1 := hvl x ((List.takeWhile_sublist atmB).subset hx)
        have h2 := List.all_eq_true.1 (List.all_takeWhile (p := atmB) (l := l)) x hx
        simp [h1, h2]
      have hw : validT ⟨1, t.t, 0, 0⟩ = true := by rw [← word_zero hvt h1]; exact hvt
      rcases hs with ⟨h59, hc⟩ | ⟨h59, h123, ho, hc, hc2⟩
      · obtain ⟨L, x, i1, i2, i3, i4, i5⟩ := parL_toks f o m (by omega) hvm hc
        rw [parL_semi hb h1 hd h59]
        unfold consR
        rw [if_pos hc]
        refine ⟨t :: (l.takeWhile atmB ++ d :: L), x, ?_, i2, ?_, ?_, fun h => ?_⟩
        · simp only [List.cons_append, List.append_assoc]
          rw [← i1, ← hl]
        · simp [toksC, word_zero hvt h1, sign_zero hvd h59, i3]
          simp [zeroA]
        · simp only [formed, hw, hva, i4, Cls.len]
          rfl
        · simp only [Cls.depth]
          have := i5 h
          simpa using this
      · obtain ⟨L, x, i1, i2, i3, i4, i5⟩ := parL_toks f (o + 1) m (by omega) hvm hc
        have hvr : ∀ t ∈ (parL f (o + 1) m).2.1, validT t = true := fun y hy => hvm y (by rw [i1]; simp [hy])
        have hlr := parL_le f (o + 1) m
        obtain ⟨M, y, j1, j2, j3, j4, j5⟩ := parL_toks f o _ (by omega) hvr hc2
        have hx : sgn x 125 = true := by
          unfold endsB at i2
          rwa [if_neg (by omega)] at i2
        have hvx : validT x = true := hvm x (by rw [i1]; simp)
        rw [parL_block hb h1 hd h59 h123 ho hc]
        unfold consR
        rw [if_pos hc2]
        refine ⟨t :: (l.takeWhile atmB ++ d :: (L ++ x :: M)), y, ?_, j2, ?_, ?_, fun h => ?_⟩
        · simp only [List.cons_append, List.append_assoc]
          rw [← j1, ← i1, ← hl]
        · simp [toksC, word_zero hvt h1, sign_zero hvd h123, sign_zero hvx hx, i3, j3]
          simp [zeroA]
        · simp only [formed, hw, hva, i4, j4]
          rfl
        · simp only [Cls.depth, if_true]
          have := i5 (by omega)
          have := j5 h
          omega
theorem Cls.len_nil {c : Cls} (h : c.len = 0) : c = .nil := by
  cases c with
  | nil => rfl
  | cons w xs b k a r => simp [Cls.len] at h
theorem tw_all {l : List Tk} {p : Tk → Bool} {d : Tk} {m : List Tk} (h : ∀ x ∈ l, p x = true) (hd : p d = false) : (l ++ d :: m).dropWhile p = d :: m ∧ (l ++ d :: m).takeWhile p = l := by
  constructor
  · rw [List.dropWhile_append_of_pos h, List.dropWhile_cons_of_neg (by simp [hd])]
  · rw [List.takeWhile_append_of_pos h, List.takeWhile_cons_of_neg (by simp [hd])]
    simp
/-- what is possible is read from its tokens -/
theorem parL_spelled : ∀ (c : Cls) (o : Nat), formed c = true → c.depth + o ≤ 8 → ∀ (L : List Tk) (x : Tk) (m : List Tk) (g : Nat), L.map zeroA = (toksC c).map zeroA → endsB o x = true → (L ++ x :: m).length < g →
    ∃ c', parL g o (L ++ x :: m) = (c', m, 0, 0) ∧ c'.zero = c.zero
  | .nil, o, _, _, L, x, m, g, hL, hx, hg => by
    obtain rfl : L = [] := by simpa [toksC] using hL
    match g, hg with
    | g + 1, _ => exact ⟨.nil, parL_ends hx, rfl⟩
  | .cons w xs b k a r, o, hf, hdp, L, x, m, g, hL, hx, hg => by
    simp only [formed, Bool.and_eq_true] at hf
    obtain ⟨⟨⟨⟨f1, f2⟩, f3⟩, f4⟩, f5⟩ := hf
    simp only [Cls.depth] at hdp
    simp only [toksC, List.map_cons, List.map_append] at hL
    obtain ⟨t, L1, rfl, ht, hL1⟩ := List.map_eq_cons_iff.1 hL
    obtain ⟨As, L2, rfl, hA, hL2⟩ := List.map_eq_append_iff.1 hL1
    obtain ⟨tk, tt, tn⟩ := zeroA_k ht
    simp only at tk tt tn
    have hAt : ∀ y ∈ As, atmB y = true := by
      intro y hy
      have hm : zeroA y ∈ xs.map zeroA := by rw [← hA]; exact List.mem_map_of_mem hy
      obtain ⟨z, hz, hzy⟩ := List.mem_map.1 hm
      rw [← atm_zero hzy]
      have := List.all_eq_true.1 f2 z hz
      simp at this
      exact this.2
    have hbw : endsB o t = false := ends_word tk
    match g, hg with
    | g + 1, hg =>
    cases b with
    | false =>
      simp only [Bool.false_eq_true, if_false, List.map_cons, List.map_nil, List.cons_append, List.nil_append] at hL2
      obtain ⟨d, R, rfl, hd, hR⟩ := List.map_eq_cons_iff.1 hL2
      have hd59 : sgn d 59 = true := by rw [sgn_zero hd]; simp [sgn]
      have had : atmB d = false := by rw [atm_zero hd]; simp [atmB, sgn]
      obtain ⟨t1, t2⟩ := tw_all (m := R ++ x :: m) hAt had
      simp at hg
      obtain ⟨r', p1, p2⟩ := parL_spelled r o f5 (by simp at hdp; exact hdp) R x m g hR hx (by simp; omega)
      refine ⟨.cons w As false .nil t.a r', ?_, ?_⟩
      · rw [List.cons_append, List.append_assoc, List.cons_append, parL_semi hbw tk t1 hd59, p1]
        unfold consR
        simp [t2, tt]
      · have hk : k = .nil := Cls.len_nil (by simpa using f3)
        subst hk
        simp [Cls.zero, hA, p2]
    | true =>
      simp only [if_true, List.map_cons, List.map_nil, List.map_append, List.cons_append, List.append_assoc, List.nil_append] at hL2
      obtain ⟨d, L3, rfl, hd, hL3⟩ := List.map_eq_cons_iff.1 hL2
      obtain ⟨K, L4, rfl, hK, hL4⟩ := List.map_eq_append_iff.1 hL3
      obtain ⟨y, R, rfl, hy, hR⟩ := List.map_eq_cons_iff.1 hL4
      have hd123 : sgn d 123 = true := by rw [sgn_zero hd]; simp [sgn]
      have hd59 : sgn d 59 = false := sgn_not hd123 (by decide)
      have had : atmB d = false := by rw [atm_zero hd]; simp [atmB, sgn]
      have hy2 : endsB (o + 1) y = true := by
        unfold endsB
        rw [if_neg (by omega), sgn_zero hy]; simp [sgn]
      simp only [if_true] at hdp
      obtain ⟨t1, t2⟩ := tw_all (m := K ++ y :: (R ++ x :: m)) hAt had
      simp at hg
      obtain ⟨k', p1, p2⟩ := parL_spelled k (o + 1) f4 (by omega) K y (R ++ x :: m) g hK hy2 (by simp; omega)
      obtain ⟨r', q1, q2⟩ := parL_spelled r o f5 (by omega) R x m g hR hx (by simp; omega)
      refine ⟨.cons w As true k' t.a r', ?_, ?_⟩
      · rw [List.cons_append, List.append_assoc, List.cons_append, List.append_assoc, List.cons_append, parL_block hbw tk t1 hd59 hd123 (by omega) (by rw [p1]), p1]
        simp only
        rw [q1]
        unfold consR
        simp [t2, tt]
      · simp [Cls.zero, hA, p2, q2]
end Go.Proofs.YtiofekoadjgjdaaGreatDoor
