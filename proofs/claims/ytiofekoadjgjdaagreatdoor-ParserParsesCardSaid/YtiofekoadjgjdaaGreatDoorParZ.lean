/- Entries: offsets don't count for the reading. -/
import Derived.Test.YtiofekoadjgjdaaGreatDoorParR
set_option linter.unusedSimpArgs false
set_option linter.unusedVariables false
namespace Go.Proofs.YtiofekoadjgjdaaGreatDoor
open Go.RowKit

theorem ends_zero {x y : Tk} (h : zeroA x = zeroA y) (o : Nat) : endsB o x = endsB o y := by
  unfold endsB
  rw [sgn_zero h, (zeroA_k h).1]
theorem dw_zero : ∀ {l l' m : List Tk} {d : Tk}, l.map zeroA = l'.map zeroA → l.dropWhile atmB = d :: m → ∃ d' m', l'.dropWhile atmB = d' :: m' ∧ zeroA d = zeroA d' ∧ m.map zeroA = m'.map zeroA ∧ (l'.takeWhile atmB).map zeroA = (l.takeWhile atmB).map zeroA
  | [], _, _, _, _, h => by simp at h
  | t :: l, [], _, _, hz, _ => by simp at hz
  | t :: l, t' :: l', m, d, hz, h => by
    simp only [List.map_cons, List.cons.injEq] at hz
    have ha := atm_zero hz.1
    cases ht : atmB t with
    | true =>
      rw [ht] at ha
      rw [List.dropWhile_cons_of_pos ht] at h
      obtain ⟨d', m', h1, h2, h3, h4⟩ := dw_zero hz.2 h
      refine ⟨d', m', ?_, h2, h3, ?_⟩
      · rw [List.dropWhile_cons_of_pos ha.symm, h1]
      · rw [List.takeWhile_cons_of_pos ha.symm, List.takeWhile_cons_of_pos ht, List.map_cons, List.map_cons, h4, hz.1]
    | false =>
      rw [ht] at ha
      rw [List.dropWhile_cons_of_neg (by simp [ht])] at h
      simp only [List.cons.injEq] at h
      obtain ⟨rfl, rfl⟩ := h
      refine ⟨t', l', ?_, hz.1, hz.2, ?_⟩
      · rw [List.dropWhile_cons_of_neg (by simp [← ha])]
      · rw [List.takeWhile_cons_of_neg (by simp [← ha]), List.takeWhile_cons_of_neg (by simp [ht])]
theorem parL_zero : ∀ (f o : Nat) (l l' : List Tk), l.map zeroA = l'.map zeroA → (parL f o l).2.2.1 = 0 →
    (parL f o l').2.2.1 = 0 ∧ (parL f o l').1.zero = (parL f o l).1.zero ∧ (parL f o l).2.1.map zeroA = (parL f o l').2.1.map zeroA
  | 0, _, _, _, _, _ => ⟨rfl, rfl, rfl⟩
  | f + 1, o, [], _, _, h => absurd h (by simp [parL])
  | f + 1, o, t :: l, [], hz, _ => by simp at hz
  | f + 1, o, t :: l, t' :: l', hz, h => by
    simp only [List.map_cons, List.cons.injEq] at hz
    have he := ends_zero hz.1 o
    obtain ⟨z1, z2, z3⟩ := zeroA_k hz.1
    rcases parL_inv h with hb | ⟨hb, h1, d, m, hd, hs⟩
    · rw [parL_ends hb, parL_ends (he.symm.trans hb)]
      exact ⟨rfl, rfl, hz.2⟩
    · obtain ⟨d', m', hd', zd, zm, zt⟩ := dw_zero hz.2 hd
      rcases hs with ⟨h59, hc⟩ | ⟨h59, h123, ho, hc, hc2⟩
      · obtain ⟨i1, i2, i3⟩ := parL_zero f o m m' zm hc
        rw [parL_semi hb h1 hd h59, parL_semi (he.symm.trans hb) (z1.symm.trans h1) hd' ((sgn_zero zd 59).symm.trans h59)]
        unfold consR
        rw [if_pos hc, if_pos i1]
        exact ⟨rfl, by simp only [Cls.zero, i2, zt, z2], i3⟩
      · obtain ⟨i1, i2, i3⟩ := parL_zero f (o + 1) m m' zm hc
        obtain ⟨j1, j2, j3⟩ := parL_zero f o _ _ i3 hc2
        rw [parL_block hb h1 hd h59 h123 ho hc, parL_block (he.symm.trans hb) (z1.symm.trans h1) hd' ((sgn_zero zd 59).symm.trans h59) ((sgn_zero zd 123).symm.trans h123) ho i1]
        unfold consR
        rw [if_pos hc2, if_pos j1]
        exact ⟨rfl, by simp only [Cls.zero, i2, j2, zt, z2], j3⟩
theorem Cls.zero_app : ∀ (c m : Cls), (c.app m).zero = c.zero.app m.zero
  | .nil, _ => rfl
  | .cons _ _ _ _ _ r, m => by simp only [Cls.app, Cls.zero, Cls.zero_app r m]
theorem Cls.count_app : ∀ (c m : Cls), (c.app m).count = c.count + m.count
  | .nil, _ => by simp [Cls.app, Cls.count]
  | .cons _ _ _ _ _ r, m => by simp only [Cls.app, Cls.count, Cls.count_app r m]; omega
theorem Cls.depth_app : ∀ (c m : Cls), (c.app m).depth = max c.depth m.depth
  | .nil, _ => by simp [Cls.app, Cls.depth]
  | .cons _ _ _ _ _ r, m => by simp only [Cls.app, Cls.depth, Cls.depth_app r m]; omega
theorem Cls.count_zero : ∀ (c : Cls), c.zero.count = c.count
  | .nil => rfl
  | .cons _ _ _ k _ r => by simp only [Cls.zero, Cls.count, Cls.count_zero k, Cls.count_zero r]
theorem Cls.depth_zero : ∀ (c : Cls), c.zero.depth = c.depth
  | .nil => rfl
  | .cons _ _ _ k _ r => by simp only [Cls.zero, Cls.depth, Cls.depth_zero k, Cls.depth_zero r]
end Go.Proofs.YtiofekoadjgjdaaGreatDoor
