/- Contracts of layer 10: Depth. -/
import Derived.Test.YtohalocbghhenaaGreatDoorCount
set_option linter.unusedSimpArgs false
set_option linter.unusedVariables false
namespace Go.Proofs.YtohalocbghhenaaGreatDoor
open Go.RowKit

/-- the depth of the first entries -/
def kidsD : Cls → Nat → Nat
  | _, 0 => 0
  | .nil, _ + 1 => 0
  | .cons _ _ b k _ r, i + 1 => max (if b then k.depth + 1 else 0) (kidsD r i)
theorem kidsD_next : ∀ (c : Cls) (i : Nat) {wd : ByteArray} {xs : List Tk} {bl : Bool} {k : Cls} {a : Int} {r : Cls}, c.drop i = .cons wd xs bl k a r → kidsD c (i + 1) = max (kidsD c i) (if bl then k.depth + 1 else 0)
  | .nil, 0, _, _, _, _, _, _, h => by simp [Cls.drop] at h
  | .nil, _ + 1, _, _, _, _, _, _, h => by simp [Cls.drop] at h
  | .cons _ _ _ _ _ _, 0, _, _, _, _, _, _, h => by
    simp only [Cls.drop, Cls.cons.injEq] at h
    obtain ⟨_, _, rfl, rfl, _, rfl⟩ := h
    simp only [kidsD]; omega
  | .cons w' xs' b' k' a' r', i + 1, _, _, _, _, _, _, h => by
    have := kidsD_next r' i h
    show max (if b' then k'.depth + 1 else 0) (kidsD r' (i + 1)) = max (max (if b' then k'.depth + 1 else 0) (kidsD r' i)) _
    rw [this]; omega
theorem kidsD_all : ∀ (c : Cls), kidsD c c.len = c.depth
  | .nil => rfl
  | .cons _ _ _ k _ r => by
    have := kidsD_all r
    simp only [Cls.len, kidsD, Cls.depth, this]
theorem depth_count : ∀ (c : Cls), c.depth ≤ c.count
  | .nil => Nat.le_refl _
  | .cons _ _ b k _ r => by
    have h1 := depth_count k
    have h2 := depth_count r
    simp only [Cls.depth, Cls.count]
    split <;> omega
theorem drop_count : ∀ (c : Cls) (i : Nat) {wd : ByteArray} {xs : List Tk} {bl : Bool} {k : Cls} {a : Int} {r : Cls}, c.drop i = .cons wd xs bl k a r → k.count < c.count
  | .nil, 0, _, _, _, _, _, _, h => by simp [Cls.drop] at h
  | .nil, _ + 1, _, _, _, _, _, _, h => by simp [Cls.drop] at h
  | .cons _ _ _ _ _ _, 0, _, _, _, _, _, _, h => by
    simp only [Cls.drop, Cls.cons.injEq] at h
    obtain ⟨_, _, rfl, rfl, _, rfl⟩ := h
    simp only [Cls.count]; omega
  | .cons w' xs' b' k' a' r', i + 1, _, _, _, _, _, _, h => by
    have := drop_count r' i h
    simp only [Cls.count]; omega
theorem kidsD_le : ∀ (c : Cls) (i : Nat), kidsD c i ≤ c.count
  | .nil, i => by cases i <;> simp [kidsD]
  | .cons _ _ _ k _ r, 0 => by simp [kidsD]
  | .cons _ _ b k _ r, i + 1 => by
    have := kidsD_le r i
    have := depth_count k
    simp only [kidsD, Cls.count]
    split <;> omega
set_option maxHeartbeats 4000000 in
set_option maxRecDepth 100000 in
theorem depth_any : ∀ (n : Nat), n ≤ 4611686018427387904 → ∀ (c : Cls), c.count < n → ∀ (w : World) (F : Nat → Prop) (a : Option Addr) (b o cap : Nat), SlC w F a b o c.len cap c →
    Calls Tryz.prog 42 #[.slice a c.len cap] w fun e w' => e = .returned (.int .i64 (c.depth : Int)) ∧ Below w.heap.size w w'
  | 0, _, _, h, _, _, _, _, _, _, _ => absurd h (Nat.not_lt_zero _)
  | n + 1, hn, c, hc, w, F, a, b, o, cap, hA => by
    have IH := Lib.hid (depth_any n (by omega))
    have HA := Lib.hid hA.here
    have HN := Lib.hid (fun i wd xs bl k a r => @kidsD_next c i wd xs bl k a r)
    have HM := Lib.hid (fun i wd xs bl k a r => @drop_count c i wd xs bl k a r)
    have HL := Lib.hid (kidsD_le c)
    have HE := Lib.hid (kidsD_all c)
    have hlc : c.len ≤ 4611686018427387904 := by have := kidsN_le c 0; omega
    obtain ⟨N, hN⟩ : ∃ N, c.count = N := ⟨_, rfl⟩
    obtain ⟨l, hl⟩ : ∃ l, c.len = l := ⟨_, rfl⟩
    obtain ⟨D, hD⟩ : ∃ D, c.depth = D := ⟨_, rfl⟩
    rw [hN] at HL HM hc
    rw [hl] at HA HE hlc ⊢
    rw [hD] at HE ⊢
    have HLN := Lib.hid hl
    clear hA hN hl hD
    go_enter Tryz.func42, Tryz.ntmps42
    go_wp2_with fail
    go_loopw [3, 8] (fun s3 s8 wr => ∃ (k : Nat), k ≤ l ∧ s8 = .int .i64 (k : Int) ∧ s3 = .int .i64 ((kidsD c k : Nat) : Int) ∧ Hid (Below w.heap.size w wr)) (fun _ s8 _ => (l - (intOf s8)).toNat)
    case atStart => exact ⟨0, Nat.zero_le _, rfl, by rw [show kidsD c 0 = 0 by cases c <;> rfl]; rfl, Lib.hid (Below.refl _ _)⟩
    case round =>
      obtain ⟨k, hk, rfl, rfl, HB⟩ := hrel
      by_cases hlt : k < l
      · have hl : (k : Int) < (l : Int) := by omega
        have SA := HA.out.low (fun x hx => hx.2) HB.out
        obtain ⟨rfl, ba, _⟩ := SA.2.2.2.1 (by omega)
        obtain ⟨wd, xs, bl, kd, av, rest, aa, ba', oa, la, ca, ak, bk, ok, ck, hd, c0, c1, c2, c3, c4, _, _, SK⟩ := AtC.get k (by rw [HLN.out]; exact hlt) SA.2.2.2.2
        have hnx := HN.out _ _ _ _ _ _ _ hd
        have hkc := HM.out _ _ _ _ _ _ _ hd
        have hkd := depth_count kd
        have HKD := Lib.hid (IH.out kd (by omega) )
        have HSK := Lib.hid SK
        have hq := HL.out k
        generalize kidsD c k = q at *
        generalize kd.depth = z at *
        generalize kd.len = y at *
        have hbs := HB.out.size
        have hbw := HB.out
        cases bl with
        | false =>
          have HNX := Lib.hid hnx
          clear SA SK hd hnx HL HE HKD HSK IH HN HM
          have HB1 := Lib.hid (show Below w.heap.size w (wr.alloc (.cells #[.string wd, .slice aa la ca, .bool false, .slice ak y ck, .int .i64 av] 25)) from (by repeat (first | with_reducible exact Below.refl _ _ | (with_reducible refine Below.setCell ?_ (by first | exact Nat.le_refl _ | omega | (simp; done) | (simp; omega)) _) | (with_reducible refine Below.alloc ?_ (by first | exact Nat.le_refl _ | omega | (simp; done) | (simp; omega)) _) | with_reducible refine Below.drew ?_ | with_reducible refine bel_drewN ?_ _ | (with_reducible refine bel_by (by with_reducible assumption) (by first | exact Nat.le_refl _ | omega | (simp; done) | (simp; omega)) ?_))))
          clear hbw HB HA
          go_wp2_with fail
          go_roundw
          case rel => exact ⟨k + 1, by omega, by go_num, by rw [HNX.out]; simp, HB1⟩
          case measure => simp [intOf]; omega
        | true =>
          have HNX := Lib.hid hnx
          clear SA SK hd hnx HL HE
          go_wp2_with fail
          refine (HKD.out _ _ _ _ _ _ (HSK.out.low (B := wr.heap.size) (fun x hx => Nat.lt_of_lt_of_le hx.2 hbs) ((Below.refl _ _).alloc (Nat.le_refl _) _))).mono ?_
          rintro e w1 ⟨rfl, hb1⟩
          have hz1 := bsize hb1
          simp at hz1
          have HB1 := Lib.hid (show Below w.heap.size w w1 from (by repeat (first | with_reducible exact Below.refl _ _ | (with_reducible refine Below.setCell ?_ (by first | exact Nat.le_refl _ | omega | (simp; done) | (simp; omega)) _) | (with_reducible refine Below.alloc ?_ (by first | exact Nat.le_refl _ | omega | (simp; done) | (simp; omega)) _) | with_reducible refine Below.drew ?_ | with_reducible refine bel_drewN ?_ _ | (with_reducible refine bel_by (by with_reducible assumption) (by first | exact Nat.le_refl _ | omega | (simp; done) | (simp; omega)) ?_))))
          clear hb1 hbw HB HA HKD HSK IH HN HM
          by_cases hm : q < z + 1
          · have hm1 : (q : Int) < 1 + (z : Int) := by omega
            go_wp2_with fail
            go_roundw
            case rel => exact ⟨k + 1, by omega, by go_num, by rw [HNX.out]; simp only [if_true]; rw [Nat.max_eq_right (by omega)]; go_num, HB1⟩
            case measure => simp [intOf]; omega
          · have hm1 : ¬ (q : Int) < 1 + (z : Int) := by omega
            go_wp2_with fail
            go_roundw
            case rel => exact ⟨k + 1, by omega, by go_num, by rw [HNX.out]; simp only [if_true]; rw [Nat.max_eq_left (by omega)]; go_num, HB1⟩
            case measure => simp [intOf]; omega
      · have hl : ¬ (k : Int) < (l : Int) := by omega
        obtain rfl : k = l := by omega
        have he := HE.out
        clear HA HN HL HE IH HM
        go_wp2_with fail
        go_ret
        exact ⟨ret_int (by omega), HB.out⟩
end Go.Proofs.YtohalocbghhenaaGreatDoor
