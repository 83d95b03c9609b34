/- Contracts of package encode: measure, Depth, Valid, Skip. -/
import Derived.Test.YtljeialaefmbmaaDoorHeadB
set_option linter.unusedSimpArgs false
set_option linter.unusedVariables false
namespace Go.Proofs.YtljeialaefmbmaaDoor
open Go.RowKit

theorem headS_kind (s : ByteArray) (a : Nat) : 0 ≤ (headS s a).kind ∧ (headS s a).kind ≤ 4 ∧ ((headS s a).kind ≠ 0 → a < (headS s a).fin ∧ (headS s a).fin ≤ s.size ∧ a < s.size) := by
  unfold headS
  split
  · simp [hdNo]
  · rename_i h0
    split
    · unfold rintS
      have b1 := rnumS_bd s (a + 1) 59 (by omega)
      split
      · rename_i h1
        have b2 := rnumS_bd s (a + 1 + 1) 59 (by omega)
        split
        · simp [hdNo]
        · rename_i h2
          have := b2.2.2.2 (fun h => h2 (Or.inl h))
          refine ⟨by simp, by simp, fun _ => ⟨by simp only; omega, b2.2.2.1, by omega⟩⟩
      · split
        · simp [hdNo]
        · rename_i h2
          have := b1.2.2.2 (fun h => h2 (Or.inl h))
          refine ⟨by simp, by simp, fun _ => ⟨by simp only; omega, b1.2.2.1, by omega⟩⟩
    · split
      · refine ⟨by simp, by simp, fun _ => ⟨by simp, by simp only; omega, by omega⟩⟩
      · split
        · refine ⟨by simp, by simp, fun _ => ⟨by simp, by simp only; omega, by omega⟩⟩
        · unfold rtextS
          have b := rnumS_bd s a 58 (by omega)
          split
          · simp [hdNo]
          · rename_i h2
            have h3 : (rnumS s a 58).2 ≠ 0 := fun h => h2 (Or.inl h)
            have := b.2.2.2 h3
            have h4 : ¬ (s.size : Int) - (rnumS s a 58).2 < (rnumS s a 58).1 := fun h => h2 (Or.inr h)
            refine ⟨by simp, by simp, fun _ => ⟨by simp only; omega, by simp only; omega, by omega⟩⟩

/-- how far a head opens or closes -/
def stepO (k o : Int) : Int := if k = 3 then o + 1 else if k = 4 then o - 1 else o
def stepD (k o d : Int) : Int := if k = 3 then max d (o + 1) else d
def measF (s : ByteArray) : Nat → Nat → Int → Int → Int × Int
  | 0, _, _, _ => (0, -1)
  | f + 1, a, o, d =>
    if (headS s a).kind = 0 then (0, -1)
    else if stepO (headS s a).kind o < 0 ∨ 32 < stepO (headS s a).kind o then (0, -1)
    else if stepO (headS s a).kind o = 0 then (((headS s a).fin : Int), stepD (headS s a).kind o d)
    else measF s f (headS s a).fin (stepO (headS s a).kind o) (stepD (headS s a).kind o d)
/-- measure: the offset behind the value, and its depth -/
def measS (s : ByteArray) (a : Nat) : Int × Int := measF s (s.size + 1) a 0 0

set_option maxHeartbeats 4000000 in
set_option maxRecDepth 100000 in
theorem meas_any (s : ByteArray) (a : Nat) (hs : s.size ≤ 4611686018427387904) (h63 : a ≤ 9223372036854775807) (w : World) :
    Calls Tryd.prog 31 #[.string s, .int .i64 (a : Int)] w fun r w' => r = .returned (.tuple #[.int .i64 (measS s a).1, .int .i64 (measS s a).2]) ∧ Below w.heap.size w w' := by
  have HT := Lib.hid (show measF s (s.size + 1) a 0 0 = measS s a from rfl)
  generalize measS s a = T at *
  go_enter Tryd.func31, Tryd.ntmps31
  go_wp2
  go_loopw [1, 6, 7] (fun s1 s6 s7 wr => ∃ (f b : Nat) (o d : Int), s1 = .int .i64 (b : Int) ∧ s6 = .int .i64 o ∧ s7 = .int .i64 d ∧ 0 ≤ o ∧ o ≤ 32 ∧ 0 ≤ d ∧ d ≤ 32 ∧ b ≤ 9223372036854775807 ∧ s.size < f + b ∧ measF s f b o d = T ∧ Below w.heap.size w wr) (fun s1 _ _ _ => (s.size + 1 - intOf s1).toNat)
  case atStart => exact ⟨s.size + 1, a, 0, 0, rfl, rfl, rfl, by omega, by omega, by omega, by omega, h63, by omega, HT.out, Below.refl _ _⟩
  case round =>
    obtain ⟨f, b, o, d, rfl, rfl, rfl, o0, o1, d0, d1, hb, hf, hT, hbel⟩ := hrel
    have HH := Lib.hid (fun W => head_any s b hs hb W)
    obtain ⟨k0, k4, kk⟩ := headS_kind s b
    have HK := Lib.hid kk
    have hT' : (if (headS s b).kind = 0 then (0, -1) else if stepO (headS s b).kind o < 0 ∨ 32 < stepO (headS s b).kind o then (0, -1) else if stepO (headS s b).kind o = 0 then (((headS s b).fin : Int), stepD (headS s b).kind o d) else measF s (f - 1) (headS s b).fin (stepO (headS s b).kind o) (stepD (headS s b).kind o d)) = T := by
      cases f with
      | zero =>
        have : headS s b = hdNo := by unfold headS; rw [if_pos (by omega)]
        rw [this]
        exact hT
      | succ f => exact hT
    have HTT := Lib.hid hT'
    clear hT hT' kk
    generalize headS s b = h at *
    obtain ⟨k, n, tx, fn⟩ := h
    simp only at k0 k4
    unfold Hd.v at HH
    simp only at HH HK HTT
    by_cases hk0 : k = 0
    · subst hk0
      go_wp2_with fail
      refine (HH.out _).mono ?_
      rintro r w1 ⟨rfl, hb1⟩
      have hz := bsize hbel
      have hz1 := bsize hb1
      go_wp2
      go_ret2
      have e : ((0, -1) : Int × Int) = T := by simpa using HTT.out
      exact ⟨by rw [← e]; rfl, (by repeat (first | with_reducible exact Below.refl _ _ | (with_reducible refine Below.setCell ?_ (by first | exact Nat.le_refl _ | omega | (simp; done) | (simp; omega)) _) | (with_reducible refine Below.alloc ?_ (by first | exact Nat.le_refl _ | omega | (simp; done) | (simp; omega)) _) | with_reducible refine Below.drew ?_ | with_reducible refine bel_drewN ?_ _ | (with_reducible refine bel_by (by with_reducible assumption) (by first | exact Nat.le_refl _ | omega | (simp; done) | (simp; omega)) ?_)))⟩
    · obtain ⟨f1, f2, f3⟩ := HK.out hk0
      have e1 := HTT.out
      rw [if_neg hk0] at e1
      have y0 : (k == 0) = false := by simpa using hk0
      have f4 : (fn : Int) ≤ (s.size : Int) := by omega
      by_cases hk3 : k = 3
      · subst hk3
        rw [show stepO 3 o = o + 1 from rfl, show stepD 3 o d = max d (o + 1) from rfl] at e1
        by_cases h32 : 32 < o + 1
        · rw [if_pos (Or.inr h32)] at e1
          have HE := Lib.hid e1
          clear e1 f1 f2 f3
          go_wp2_with fail
          refine (HH.out _).mono ?_
          rintro r w1 ⟨rfl, hb1⟩
          have hz := bsize hbel
          have hz1 := bsize hb1
          go_wp2
          go_ret2
          exact ⟨by rw [← HE.out]; rfl, (by repeat (first | with_reducible exact Below.refl _ _ | (with_reducible refine Below.setCell ?_ (by first | exact Nat.le_refl _ | omega | (simp; done) | (simp; omega)) _) | (with_reducible refine Below.alloc ?_ (by first | exact Nat.le_refl _ | omega | (simp; done) | (simp; omega)) _) | with_reducible refine Below.drew ?_ | with_reducible refine bel_drewN ?_ _ | (with_reducible refine bel_by (by with_reducible assumption) (by first | exact Nat.le_refl _ | omega | (simp; done) | (simp; omega)) ?_)))⟩
        · rw [if_neg (by omega), if_neg (by omega)] at e1
          have HE := Lib.hid e1
          have y1 : (o + 1 == 0) = false := by simp; omega
          have y2 : ¬ o + 1 < 0 := by omega
          have HF := Lib.hid (And.intro f1 f2)
          clear e1 f1 f2 f3
          go_wp2_with fail
          refine (HH.out _).mono ?_
          rintro r w1 ⟨rfl, hb1⟩
          have hz := bsize hbel
          have hz1 := bsize hb1
          go_wp2
          go_roundw
          case rel => exact ⟨f - 1, fn, o + 1, max d (o + 1), by first | rfl | go_num, rfl, by first | rfl | (simp; done) | go_num, by omega, by omega, by omega, by omega, by have := HF.out; omega, by have := HF.out; omega, HE.out, (by repeat (first | with_reducible exact Below.refl _ _ | (with_reducible refine Below.setCell ?_ (by first | exact Nat.le_refl _ | omega | (simp; done) | (simp; omega)) _) | (with_reducible refine Below.alloc ?_ (by first | exact Nat.le_refl _ | omega | (simp; done) | (simp; omega)) _) | with_reducible refine Below.drew ?_ | with_reducible refine bel_drewN ?_ _ | (with_reducible refine bel_by (by with_reducible assumption) (by first | exact Nat.le_refl _ | omega | (simp; done) | (simp; omega)) ?_)))⟩
          case measure => have := HF.out; simp [intOf]; omega
      · by_cases hk4 : k = 4
        · subst hk4
          rw [show stepO 4 o = o - 1 from rfl, show stepD 4 o d = d from rfl] at e1
          have y3 : ((4 : Int) == 3) = false := rfl
          by_cases h0 : o - 1 < 0
          · rw [if_pos (Or.inl h0)] at e1
            have HE := Lib.hid e1
            clear e1 f1 f2 f3
            go_wp2_with fail
            refine (HH.out _).mono ?_
            rintro r w1 ⟨rfl, hb1⟩
            have hz := bsize hbel
            have hz1 := bsize hb1
            go_wp2
            go_ret2
            exact ⟨by rw [← HE.out]; rfl, (by repeat (first | with_reducible exact Below.refl _ _ | (with_reducible refine Below.setCell ?_ (by first | exact Nat.le_refl _ | omega | (simp; done) | (simp; omega)) _) | (with_reducible refine Below.alloc ?_ (by first | exact Nat.le_refl _ | omega | (simp; done) | (simp; omega)) _) | with_reducible refine Below.drew ?_ | with_reducible refine bel_drewN ?_ _ | (with_reducible refine bel_by (by with_reducible assumption) (by first | exact Nat.le_refl _ | omega | (simp; done) | (simp; omega)) ?_)))⟩
          · rw [if_neg (by omega)] at e1
            have y2 : ¬ 32 < o - 1 := by omega
            by_cases hz0 : o - 1 = 0
            · rw [if_pos hz0] at e1
              have HE := Lib.hid e1
              have y1 : (o - 1 == 0) = true := by simpa using hz0
              clear e1 f1 f2 f3 hz0
              go_wp2_with fail
              refine (HH.out _).mono ?_
              rintro r w1 ⟨rfl, hb1⟩
              have hz := bsize hbel
              have hz1 := bsize hb1
              go_wp2
              go_ret2
              exact ⟨by rw [← HE.out]; rfl, (by repeat (first | with_reducible exact Below.refl _ _ | (with_reducible refine Below.setCell ?_ (by first | exact Nat.le_refl _ | omega | (simp; done) | (simp; omega)) _) | (with_reducible refine Below.alloc ?_ (by first | exact Nat.le_refl _ | omega | (simp; done) | (simp; omega)) _) | with_reducible refine Below.drew ?_ | with_reducible refine bel_drewN ?_ _ | (with_reducible refine bel_by (by with_reducible assumption) (by first | exact Nat.le_refl _ | omega | (simp; done) | (simp; omega)) ?_)))⟩
            · rw [if_neg hz0] at e1
              have HE := Lib.hid e1
              have y1 : (o - 1 == 0) = false := by simpa using hz0
              have HF := Lib.hid (And.intro f1 f2)
              clear e1 f1 f2 f3 hz0
              go_wp2_with fail
              refine (HH.out _).mono ?_
              rintro r w1 ⟨rfl, hb1⟩
              have hz := bsize hbel
              have hz1 := bsize hb1
              go_wp2
              go_roundw
              case rel => exact ⟨f - 1, fn, o - 1, d, by first | rfl | go_num, rfl, rfl, by omega, by omega, by omega, by omega, by have := HF.out; omega, by have := HF.out; omega, HE.out, (by repeat (first | with_reducible exact Below.refl _ _ | (with_reducible refine Below.setCell ?_ (by first | exact Nat.le_refl _ | omega | (simp; done) | (simp; omega)) _) | (with_reducible refine Below.alloc ?_ (by first | exact Nat.le_refl _ | omega | (simp; done) | (simp; omega)) _) | with_reducible refine Below.drew ?_ | with_reducible refine bel_drewN ?_ _ | (with_reducible refine bel_by (by with_reducible assumption) (by first | exact Nat.le_refl _ | omega | (simp; done) | (simp; omega)) ?_)))⟩
              case measure => have := HF.out; simp [intOf]; omega
        · rw [show stepO k o = o from by unfold stepO; rw [if_neg hk3, if_neg hk4], show stepD k o d = d from by unfold stepD; rw [if_neg hk3]] at e1
          have y3 : (k == 3) = false := by simpa using hk3
          have y4 : (k == 4) = false := by simpa using hk4
          rw [if_neg (by omega)] at e1
          have y2 : ¬ 32 < o := by omega
          have y5 : ¬ o < 0 := by omega
          by_cases hz0 : o = 0
          · rw [if_pos hz0] at e1
            have HE := Lib.hid e1
            have y1 : (o == 0) = true := by simpa using hz0
            clear e1 f1 f2 f3 hz0
            go_wp2_with fail
            refine (HH.out _).mono ?_
            rintro r w1 ⟨rfl, hb1⟩
            have hz := bsize hbel
            have hz1 := bsize hb1
            go_wp2
            go_ret2
            exact ⟨by rw [← HE.out]; rfl, (by repeat (first | with_reducible exact Below.refl _ _ | (with_reducible refine Below.setCell ?_ (by first | exact Nat.le_refl _ | omega | (simp; done) | (simp; omega)) _) | (with_reducible refine Below.alloc ?_ (by first | exact Nat.le_refl _ | omega | (simp; done) | (simp; omega)) _) | with_reducible refine Below.drew ?_ | with_reducible refine bel_drewN ?_ _ | (with_reducible refine bel_by (by with_reducible assumption) (by first | exact Nat.le_refl _ | omega | (simp; done) | (simp; omega)) ?_)))⟩
          · rw [if_neg hz0] at e1
            have HE := Lib.hid e1
            have y1 : (o == 0) = false := by simpa using hz0
            have HF := Lib.hid (And.intro f1 f2)
            clear e1 f1 f2 f3 hz0
            go_wp2_with fail
            refine (HH.out _).mono ?_
            rintro r w1 ⟨rfl, hb1⟩
            have hz := bsize hbel
            have hz1 := bsize hb1
            go_wp2
            go_roundw
            case rel => exact ⟨f - 1, fn, o, d, by first | rfl | go_num, rfl, rfl, by omega, by omega, by omega, by omega, by have := HF.out; omega, by have := HF.out; omega, HE.out, (by repeat (first | with_reducible exact Below.refl _ _ | (with_reducible refine Below.setCell ?_ (by first | exact Nat.le_refl _ | omega | (simp; done) | (simp; omega)) _) | (with_reducible refine Below.alloc ?_ (by first | exact Nat.le_refl _ | omega | (simp; done) | (simp; omega)) _) | with_reducible refine Below.drew ?_ | with_reducible refine bel_drewN ?_ _ | (with_reducible refine bel_by (by with_reducible assumption) (by first | exact Nat.le_refl _ | omega | (simp; done) | (simp; omega)) ?_)))⟩
            case measure => have := HF.out; simp [intOf]; omega
end Go.Proofs.YtljeialaefmbmaaDoor
