/- Contracts of layer 10: Count. -/
import Derived.Test.YtohalocbghhenaaGreatDoorVal
import Derived.Test.YtohalocbghhenaaGreatDoorCls
set_option linter.unusedSimpArgs false
set_option linter.unusedVariables false
namespace Go.Proofs.YtohalocbghhenaaGreatDoor
open Go.RowKit

/-- an entry in a block -/
structure ClAt (w : World) (b : Nat) (wd : ByteArray) (va : Value) (bl : Bool) (vk : Value) (a : Int) : Prop where
  c0 : w.cell? ⟨b, 0, none⟩ = some (.string wd)
  c1 : w.cell? ⟨b, 1, none⟩ = some va
  c2 : w.cell? ⟨b, 2, none⟩ = some (.bool bl)
  c3 : w.cell? ⟨b, 3, none⟩ = some vk
  c4 : w.cell? ⟨b, 4, none⟩ = some (.int .i64 a)
  f : ∀ k, w.frozen? ⟨b, k, none⟩ = false
  lt : b < w.heap.size
theorem ClAt.low {B : Nat} {W w1 : World} {b : Nat} {wd : ByteArray} {va vk : Value} {bl : Bool} {a : Int} (h : ClAt W b wd va bl vk a) (hb : Below B W w1) (hB : b < B) : ClAt w1 b wd va bl vk a :=
  ⟨(hb.cell (p := ⟨b, 0, none⟩) hB).trans h.c0, (hb.cell (p := ⟨b, 1, none⟩) hB).trans h.c1, (hb.cell (p := ⟨b, 2, none⟩) hB).trans h.c2, (hb.cell (p := ⟨b, 3, none⟩) hB).trans h.c3, (hb.cell (p := ⟨b, 4, none⟩) hB).trans h.c4, fun k => (hb.frozen (p := ⟨b, k, none⟩) hB).trans (h.f k), Nat.lt_of_lt_of_le h.lt hb.size⟩
theorem ClAt.keep {W w1 : World} {b : Nat} {wd : ByteArray} {va vk : Value} {bl : Bool} {a : Int} (h : ClAt W b wd va bl vk a) (hb : Below W.heap.size W w1) : ClAt w1 b wd va bl vk a := h.low hb h.lt
theorem cl_new (w : World) (wd : ByteArray) (va vk : Value) (bl : Bool) (a : Int) (T : TypeId) : ClAt (w.alloc (.cells #[.string wd, va, .bool bl, vk, .int .i64 a] T)) w.heap.size wd va bl vk a := by
  refine ⟨?_, ?_, ?_, ?_, ?_, fun k => ?_, ?_⟩
  all_goals simp [go_sem]
/-- the counts of the kids of the first entries -/
def kidsN : Cls → Nat → Nat
  | _, 0 => 0
  | .nil, _ + 1 => 0
  | .cons _ _ _ k _ r, i + 1 => k.count + kidsN r i
theorem kidsN_next : ∀ (c : Cls) (i : Nat) {wd : ByteArray} {xs : List Tk} {bl : Bool} {k : Cls} {a : Int} {r : Cls}, c.drop i = .cons wd xs bl k a r → kidsN c (i + 1) = kidsN c i + k.count
  | .nil, 0, _, _, _, _, _, _, h => by simp [Cls.drop] at h
  | .nil, _ + 1, _, _, _, _, _, _, h => by simp [Cls.drop] at h
  | .cons _ _ _ _ _ _, 0, _, _, _, _, _, _, h => by
    simp only [Cls.drop, Cls.cons.injEq] at h
    obtain ⟨_, _, _, rfl, _, rfl⟩ := h
    simp [kidsN]
  | .cons w' xs' b' k' a' r', i + 1, _, _, _, _, _, _, h => by
    have := kidsN_next r' i h
    show k'.count + kidsN r' (i + 1) = k'.count + kidsN r' i + _
    rw [this]; omega
theorem kidsN_all : ∀ (c : Cls), kidsN c c.len + c.len = c.count
  | .nil => rfl
  | .cons _ _ _ k _ r => by
    have := kidsN_all r
    simp only [Cls.len, kidsN, Cls.count]; omega
theorem kidsN_le : ∀ (c : Cls) (i : Nat), kidsN c i + c.len ≤ c.count
  | .nil, i => by cases i <;> simp [kidsN, Cls.len]
  | .cons _ _ _ k _ r, 0 => by
    have := kidsN_le r 0
    simp only [Cls.len, kidsN, Cls.count]
    cases r <;> simp only [kidsN] at this <;> omega
  | .cons _ _ _ k _ r, i + 1 => by
    have := kidsN_le r i
    simp only [Cls.len, kidsN, Cls.count]; omega
set_option maxHeartbeats 4000000 in
set_option maxRecDepth 100000 in
theorem count_any : ∀ (n : Nat), n ≤ 4611686018427387904 → ∀ (c : Cls), c.count < n → ∀ (w : World) (F : Nat → Prop) (a : Option Addr) (b o cap : Nat), SlC w F a b o c.len cap c →
    Calls Tryz.prog 19 #[.slice a c.len cap] w fun e w' => e = .returned (.int .i64 (c.count : Int)) ∧ Below w.heap.size w w'
  | 0, _, _, h, _, _, _, _, _, _, _ => absurd h (Nat.not_lt_zero _)
  | n + 1, hn, c, hc, w, F, a, b, o, cap, hA => by
    have IH := Lib.hid (count_any n (by omega))
    have HA := Lib.hid hA.here
    have HN := Lib.hid (fun i wd xs bl k a r => @kidsN_next c i wd xs bl k a r)
    have HL := Lib.hid (kidsN_le c)
    have HE := Lib.hid (kidsN_all c)
    have hlc : c.len ≤ 4611686018427387904 := by have := kidsN_le c 0; omega
    obtain ⟨N, hN⟩ : ∃ N, c.count = N := ⟨_, rfl⟩
    obtain ⟨l, hl⟩ : ∃ l, c.len = l := ⟨_, rfl⟩
    rw [hN] at HL HE hc ⊢
    rw [hl] at HA HL HE hlc ⊢
    have HLN := Lib.hid hl
    clear hA hN hl
    go_enter Tryz.func19, Tryz.ntmps19
    go_wp2_with fail
    go_loopw [3, 10] (fun s3 s10 wr => ∃ (k : Nat), k ≤ l ∧ s10 = .int .i64 (k : Int) ∧ s3 = .int .i64 ((l + kidsN c k : Nat) : Int) ∧ Hid (Below w.heap.size w wr)) (fun _ s10 _ => (l - (intOf s10)).toNat)
    case atStart => exact ⟨0, Nat.zero_le _, rfl, by rw [show kidsN c 0 = 0 by cases c <;> rfl]; rfl, Lib.hid (Below.refl _ _)⟩
    case round =>
      obtain ⟨k, hk, rfl, rfl, HB⟩ := hrel
      by_cases hlt : k < l
      · have hl : (k : Int) < (l : Int) := by omega
        have SA := HA.out.low (fun x hx => hx.2) HB.out
        obtain ⟨rfl, ba, _⟩ := SA.2.2.2.1 (by omega)
        obtain ⟨wd, xs, bl, kd, av, rest, aa, ba', oa, la, ca, ak, bk, ok, ck, hd, c0, c1, c2, c3, c4, _, _, SK⟩ := AtC.get k (by rw [HLN.out]; exact hlt) SA.2.2.2.2
        have hnx := HN.out _ _ _ _ _ _ _ hd
        have hle := HL.out (k + 1)
        have HKD := Lib.hid (IH.out kd (by omega) )
        have HSK := Lib.hid SK
        have HNX := Lib.hid hnx
        have hb64 : l + kidsN c k + kd.count ≤ 4611686018427387904 := by omega
        generalize kidsN c k = q at *
        generalize kd.count = z at *
        generalize kd.len = y at *
        clear SA SK hd hnx hle HL HE
        have hbs := HB.out.size
        go_wp2_with fail
        refine (HKD.out _ _ _ _ _ _ (HSK.out.low (B := wr.heap.size) (fun x hx => Nat.lt_of_lt_of_le hx.2 hbs) ((Below.refl _ _).alloc (Nat.le_refl _) _))).mono ?_
        rintro e w1 ⟨rfl, hb1⟩
        have hz1 := bsize hb1
        simp at hz1
        have hbw := HB.out
        have HB1 := Lib.hid (show Below w.heap.size w w1 from (by repeat (first | with_reducible exact Below.refl _ _ | (with_reducible refine Below.setCell ?_ (by first | exact Nat.le_refl _ | omega | (simp; done) | (simp; omega)) _) | (with_reducible refine Below.alloc ?_ (by first | exact Nat.le_refl _ | omega | (simp; done) | (simp; omega)) _) | with_reducible refine Below.drew ?_ | with_reducible refine bel_drewN ?_ _ | (with_reducible refine bel_by (by with_reducible assumption) (by first | exact Nat.le_refl _ | omega | (simp; done) | (simp; omega)) ?_))))
        clear hb1 hbw HB HA HKD HSK IH HN
        go_wp2_with fail
        go_roundw
        case rel => exact ⟨k + 1, by omega, by go_num, by rw [HNX.out]; go_num, HB1⟩
        case measure => simp [intOf]; omega
      · have hl : ¬ (k : Int) < (l : Int) := by omega
        obtain rfl : k = l := by omega
        have he := HE.out
        clear HA HN HL HE IH
        go_wp2_with fail
        go_ret
        exact ⟨ret_int (by omega), HB.out⟩
end Go.Proofs.YtohalocbghhenaaGreatDoor
