/- Contracts of layer 9: how many bytes of each kind a text has; runs, words, digits. -/
import Derived.Test.YtohalocbghhenaaGreatDoorKind
set_option linter.unusedSimpArgs false
set_option linter.unusedVariables false
namespace Go.Proofs.YtohalocbghhenaaGreatDoor
open Go.RowKit

def cK (k : Nat) (l : List UInt8) : Int := ((l.countP fun c => kB c == k : Nat) : Int)
def cKs (l : List UInt8) : Value := .agg #[.int .i64 (cK 0 l), .int .i64 (cK 1 l), .int .i64 (cK 2 l), .int .i64 (cK 3 l), .int .i64 (cK 4 l), .int .i64 (cK 5 l), .int .i64 (cK 6 l), .int .i64 (cK 7 l), .int .i64 (cK 8 l)]
theorem cK_le (k : Nat) (l : List UInt8) : 0 ≤ cK k l ∧ cK k l ≤ l.length := by
  have := List.countP_le_length (p := fun c => kB c == k) (l := l)
  unfold cK; omega
theorem cK_next (k : Nat) (l : List UInt8) (i : Nat) (h : i < l.length) : cK k (l.take (i + 1)) = cK k (l.take i) + (if kB (l[i]'h) = k then 1 else 0) := by
  unfold cK
  rw [List.take_succ_eq_append_getElem h, List.countP_append, List.countP_singleton]
  by_cases e : kB (l[i]'h) = k
  · simp [e]
  · simp [e]
/-- nine numbers in a block -/
structure Nine (w : World) (b : Nat) (f : Nat → Int) : Prop where
  cell : ∀ k, k < 9 → w.cell? ⟨b, k, none⟩ = some (.int .i64 (f k))
  free : ∀ k, w.frozen? ⟨b, k, none⟩ = false
theorem Nine.set {w : World} {b : Nat} {f g : Nat → Int} (h : Nine w b f) (k : Nat) (hk : k < 9) (x : Int) (hx : x = g k) (hg : ∀ j, j ≠ k → g j = f j) : Nine (w.setCell ⟨b, k, none⟩ (.int .i64 x)) b g := by
  have hc := h.cell k hk
  have hf := h.free k
  refine ⟨fun j hj => ?_, fun j => ?_⟩
  · by_cases e : j = k
    · subst e
      rw [hx]
      simp (maxDischargeDepth := 6) [go_sem, hc]
    · have := h.cell j hj
      rw [hg j e, ← this]
      have e2 : ¬ k = j := fun h => e h.symm
      simp (maxDischargeDepth := 6) [go_sem, e, e2]
  · have := h.free j
    rw [← this]
    simp (maxDischargeDepth := 6) [go_sem]
theorem Nine.other {w : World} {b : Nat} {f : Nat → Int} (h : Nine w b f) (a : Addr) (ha : a.block ≠ b) (v : Value) : Nine (w.setCell a v) b f := by
  refine ⟨fun j hj => ?_, fun j => ?_⟩
  · rw [World.cell?_setCell_other (b := ⟨b, j, none⟩)]
    · exact h.cell j hj
    · intro e; apply ha; rw [e]
  · rw [World.frozen?_setCell]; exact h.free j
theorem Nine.at0 {w : World} {b : Nat} {f : Nat → Int} (h : Nine w b f) : w.cell? ⟨b, 0, none⟩ = some (.int .i64 (f 0)) ∧ w.cell? ⟨b, 1, none⟩ = some (.int .i64 (f 1)) ∧ w.cell? ⟨b, 2, none⟩ = some (.int .i64 (f 2)) ∧ w.cell? ⟨b, 3, none⟩ = some (.int .i64 (f 3)) ∧ w.cell? ⟨b, 4, none⟩ = some (.int .i64 (f 4)) ∧ w.cell? ⟨b, 5, none⟩ = some (.int .i64 (f 5)) ∧ w.cell? ⟨b, 6, none⟩ = some (.int .i64 (f 6)) ∧ w.cell? ⟨b, 7, none⟩ = some (.int .i64 (f 7)) ∧ w.cell? ⟨b, 8, none⟩ = some (.int .i64 (f 8)) :=
  ⟨h.cell 0 (by omega), h.cell 1 (by omega), h.cell 2 (by omega), h.cell 3 (by omega), h.cell 4 (by omega), h.cell 5 (by omega), h.cell 6 (by omega), h.cell 7 (by omega), h.cell 8 (by omega)⟩
def put9 (w : World) (b : Nat) (f : Nat → Int) : World := ((((((((w.setCell ⟨b, 0, none⟩ (.int .i64 (f 0))).setCell ⟨b, 1, none⟩ (.int .i64 (f 1))).setCell ⟨b, 2, none⟩ (.int .i64 (f 2))).setCell ⟨b, 3, none⟩ (.int .i64 (f 3))).setCell ⟨b, 4, none⟩ (.int .i64 (f 4))).setCell ⟨b, 5, none⟩ (.int .i64 (f 5))).setCell ⟨b, 6, none⟩ (.int .i64 (f 6))).setCell ⟨b, 7, none⟩ (.int .i64 (f 7))).setCell ⟨b, 8, none⟩ (.int .i64 (f 8))
def upd (g : Nat → Int) (k : Nat) (x : Int) : Nat → Int := fun j => if j = k then x else g j
theorem Nine.put {w : World} {b : Nat} {g : Nat → Int} (h : Nine w b g) (k : Nat) (hk : k < 9) (x : Int) : Nine (w.setCell ⟨b, k, none⟩ (.int .i64 x)) b (upd g k x) :=
  h.set k hk x (by simp [upd]) (fun j hj => by simp [upd, hj])
theorem nine_put9 {w : World} {b : Nat} {g : Nat → Int} (h : Nine w b g) (f : Nat → Int) : Nine (put9 w b f) b f := by
  unfold put9
  have h0 := h.put 0 (by omega) (f 0)
  generalize w.setCell ⟨b, 0, none⟩ (.int .i64 (f 0)) = w0 at *
  have h1 := h0.put 1 (by omega) (f 1)
  generalize w0.setCell ⟨b, 1, none⟩ (.int .i64 (f 1)) = w1 at *
  have h2 := h1.put 2 (by omega) (f 2)
  generalize w1.setCell ⟨b, 2, none⟩ (.int .i64 (f 2)) = w2 at *
  have h3 := h2.put 3 (by omega) (f 3)
  generalize w2.setCell ⟨b, 3, none⟩ (.int .i64 (f 3)) = w3 at *
  have h4 := h3.put 4 (by omega) (f 4)
  generalize w3.setCell ⟨b, 4, none⟩ (.int .i64 (f 4)) = w4 at *
  have h5 := h4.put 5 (by omega) (f 5)
  generalize w4.setCell ⟨b, 5, none⟩ (.int .i64 (f 5)) = w5 at *
  have h6 := h5.put 6 (by omega) (f 6)
  generalize w5.setCell ⟨b, 6, none⟩ (.int .i64 (f 6)) = w6 at *
  have h7 := h6.put 7 (by omega) (f 7)
  generalize w6.setCell ⟨b, 7, none⟩ (.int .i64 (f 7)) = w7 at *
  have h8 := h7.put 8 (by omega) (f 8)
  generalize w7.setCell ⟨b, 8, none⟩ (.int .i64 (f 8)) = w8 at *
  refine ⟨fun k hk => ?_, h8.free⟩
  have := h8.cell k hk
  refine this.trans ?_
  congr 2
  obtain rfl | rfl | rfl | rfl | rfl | rfl | rfl | rfl | rfl : k = 0 ∨ k = 1 ∨ k = 2 ∨ k = 3 ∨ k = 4 ∨ k = 5 ∨ k = 6 ∨ k = 7 ∨ k = 8 := by omega
  all_goals simp [upd]
theorem put9_bel {w : World} {B b : Nat} (h : B ≤ b) (a : World) (ha : Below B a w) (f : Nat → Int) : Below B a (put9 w b f) := by
  unfold put9
  exact ((((((((ha.setCell h _).setCell h _).setCell h _).setCell h _).setCell h _).setCell h _).setCell h _).setCell h _).setCell h _
end Go.Proofs.YtohalocbghhenaaGreatDoor
/- Contract of layer 9: tally. -/
namespace Go.Proofs.YtohalocbghhenaaGreatDoor
open Go.RowKit

set_option maxHeartbeats 1000000 in
set_option maxRecDepth 100000 in
theorem tally_any (s : ByteArray) (hs : s.size ≤ 1000000000) (w : World) (hT : Tabs w) : Calls Tryz.prog 117 #[.string s] w fun e w' => e = .returned (cKs s.data.toList) ∧ Below w.heap.size w w' := by
  have HT := Lib.hid hT
  clear hT
  go_enter Tryz.func117, Tryz.ntmps117
  go_wp2_with fail
  go_loopw [7] (fun s7 wr => ∃ k : Nat, k ≤ s.size ∧ s7 = .int .i64 (k : Int) ∧ Hid (Nine wr (w.heap.size + 1) (fun j => cK j (s.data.toList.take k))) ∧ Hid (Nine wr w.heap.size (fun _ => 0)) ∧ Hid (Below w.heap.size w wr) ∧ Hid (w.heap.size + 2 ≤ wr.heap.size)) (fun s7 _ => (s.size - (intOf s7)).toNat)
  case atStart =>
    refine ⟨0, Nat.zero_le _, rfl, Lib.hid ⟨fun j hj => ?_, fun j => ?_⟩, Lib.hid ⟨fun j hj => ?_, fun j => ?_⟩, Lib.hid (by repeat (first | with_reducible exact Below.refl _ _ | (with_reducible refine Below.setCell ?_ (by first | exact Nat.le_refl _ | omega | (simp; done) | (simp; omega)) _) | (with_reducible refine Below.alloc ?_ (by first | exact Nat.le_refl _ | omega | (simp; done) | (simp; omega)) _) | with_reducible refine Below.drew ?_ | with_reducible refine bel_drewN ?_ _ | (with_reducible refine bel_by (by with_reducible assumption) (by first | exact Nat.le_refl _ | omega | (simp; done) | (simp; omega)) ?_))), Lib.hid ?_⟩
    · obtain rfl | rfl | rfl | rfl | rfl | rfl | rfl | rfl | rfl : j = 0 ∨ j = 1 ∨ j = 2 ∨ j = 3 ∨ j = 4 ∨ j = 5 ∨ j = 6 ∨ j = 7 ∨ j = 8 := by omega
      all_goals simp [go_sem, cK]
    · simp [go_sem]
    · obtain rfl | rfl | rfl | rfl | rfl | rfl | rfl | rfl | rfl : j = 0 ∨ j = 1 ∨ j = 2 ∨ j = 3 ∨ j = 4 ∨ j = 5 ∨ j = 6 ∨ j = 7 ∨ j = 8 := by omega
      all_goals simp [go_sem]
    · simp [go_sem]
    · simp
  case round =>
    obtain ⟨k, hk, rfl, HN, HZ, HB, HL⟩ := hrel
    by_cases hlt : k < s.size
    · have hl : (k : Int) < (s.size : Int) := by omega
      have HK := Lib.hid (fun W hW => kind_any (s[k]'hlt) W hW)
      have hkb := kB_lt (s[k]'hlt)
      have hkL : k < s.data.toList.length := by rw [list_size]; exact hlt
      have hnx := fun j => cK_next j s.data.toList k hkL
      have hge : s.data.toList[k]'hkL = s[k]'hlt := rfl
      simp only [hge] at hnx
      obtain ⟨q, hq⟩ : ∃ q, kB (s[k]'hlt) = q := ⟨_, rfl⟩
      rw [hq] at HK hkb
      simp only [hq] at hnx
      have hcell := HN.out.cell q hkb
      have hfree := HN.out.free q
      have hx : cK q (s.data.toList.take (k + 1)) = cK q (s.data.toList.take k) + 1 := by rw [hnx, if_pos rfl]
      have hc0 := cK_le q (s.data.toList.take k)
      have hc1 : (s.data.toList.take k).length ≤ 1000000000 := by rw [List.length_take, list_size]; omega
      have HX := Lib.hid (fun (x : Int) (h : x = cK q (s.data.toList.take (k + 1))) => HN.out.set (g := fun j => cK j (s.data.toList.take (k + 1))) q hkb x h (fun j hj => by show cK j _ = cK j _; rw [hnx, if_neg (fun h => hj h.symm), Int.add_zero]))
      have HX1 := Lib.hid hx
      clear hnx hx
      change wr.cell? ⟨w.heap.size + 1, q, none⟩ = some (.int .i64 (cK q (s.data.toList.take k))) at hcell
      generalize cK q (s.data.toList.take k) = y at *
      have HTr := Lib.hid (HT.out.below HB.out)
      have hcz := HZ.out
      have HL2 := HL.out
      go_wp2_with fail
      refine (HK.out _ HTr.out).mono ?_
      rintro e w1 ⟨rfl, rfl⟩
      go_wp2_with fail
      go_roundw
      case rel =>
        refine ⟨k + 1, by omega, by go_num, Lib.hid (HX.out _ (by rw [HX1.out])), Lib.hid (HZ.out.other _ (by simp) _), Lib.hid ?_, Lib.hid (by simp; exact HL.out)⟩
        exact HB.out.setCell (by simp) _
      case measure => simp [intOf]; omega
    · obtain rfl : k = s.size := by omega
      have hl : ¬ (s.size : Int) < (s.size : Int) := by omega
      obtain ⟨c0, c1, c2, c3, c4, c5, c6, c7, c8⟩ := HN.out.at0
      obtain ⟨z0, z1, z2, z3, z4, z5, z6, z7, z8⟩ := HZ.out.at0
      have f1 := HN.out.free
      have f2 := HZ.out.free
      have HE := Lib.hid (show s.data.toList.take s.size = s.data.toList by rw [← list_size, List.take_length])
      go_wp2_with fail
      rw [HE.out] at *
      have hP := nine_put9 HZ.out (fun k => cK k s.data.toList)
      have hPB := put9_bel (Nat.le_refl _) w HB.out (fun k => cK k s.data.toList)
      unfold put9 at hP hPB
      generalize World.setCell _ ⟨w.heap.size, 8, none⟩ _ = W at *
      obtain ⟨p0, p1, p2, p3, p4, p5, p6, p7, p8⟩ := hP.at0
      clear z0 z1 z2 z3 z4 z5 z6 z7 z8 c0 c1 c2 c3 c4 c5 c6 c7 c8 f1 f2
      refine bodyPost_ret (v := cKs s.data.toList) (by simp [results, Tryz.results117, go_sem, cKs, p0, p1, p2, p3, p4, p5, p6, p7, p8]) rfl ⟨rfl, hPB⟩
end Go.Proofs.YtohalocbghhenaaGreatDoor
