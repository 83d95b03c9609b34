/- Contracts of package encode: a step of a Reader. -/
import Derived.Test.YtljeialaefmbmaaDoorMeasB
set_option linter.unusedSimpArgs false
set_option linter.unusedVariables false
namespace Go.Proofs.YtljeialaefmbmaaDoor
open Go.RowKit

/-- what a Reader holds -/
structure RSt where
  s : ByteArray
  at' : Nat
  opn : Nat
  err : Int
/-- a Reader in its block -/
structure RAt (w : World) (b : Nat) (r : RSt) : Prop where
  c0 : w.cell? ⟨b, 0, none⟩ = some (.string r.s)
  c1 : w.cell? ⟨b, 1, none⟩ = some (.int .i64 (r.at' : Int))
  c2 : w.cell? ⟨b, 2, none⟩ = some (.int .i64 (r.opn : Int))
  c3 : w.cell? ⟨b, 3, none⟩ = some (.int .i64 r.err)
  f : ∀ o, w.frozen? ⟨b, o, none⟩ = false
  lt : b < w.heap.size
/-- nothing but one block and what is new has turned -/
structure But (b : Nat) (w w' : World) : Prop where
  os : w'.os = w.os
  tape : w'.tape = w.tape
  output : w'.output = w.output
  size : w.heap.size ≤ w'.heap.size
  block : ∀ k, k < w.heap.size → k ≠ b → w'.heap[k]? = w.heap[k]?
theorem But.of {b : Nat} {w w' : World} (h : Below w.heap.size w w') : But b w w' := ⟨h.os, h.tape, h.output, h.size, fun k hk _ => h.block k hk⟩
theorem But.trans {b : Nat} {w w1 w2 : World} (h : But b w w1) (k : But b w1 w2) : But b w w2 :=
  ⟨k.os.trans h.os, k.tape.trans h.tape, k.output.trans h.output, Nat.le_trans h.size k.size, fun i hi hb => (k.block i (Nat.lt_of_lt_of_le hi h.size) hb).trans (h.block i hi hb)⟩
theorem But.set {b : Nat} {a w : World} (h : But b a w) (o : Nat) (v : Value) : But b a (w.setCell ⟨b, o, none⟩ v) :=
  h.trans ⟨rfl, rfl, rfl, by simp [World.setCell], fun k _ hk => Below.heap_setCell _ _ _ _ (by simpa using hk)⟩
theorem But.far {b : Nat} {a w : World} (h : But b a w) {p : Addr} (hp : a.heap.size ≤ p.block) (v : Value) : But b a (w.setCell p v) :=
  ⟨h.os, h.tape, h.output, by have := h.size; simpa [World.setCell] using this, fun k hk hb => by rw [Below.heap_setCell _ _ _ _ (by omega)]; exact h.block k hk hb⟩
/-- one step -/
def readR (r : RSt) (K : Int) : RSt × Hd :=
  if r.err = 0 then
    (if (headS r.s r.at').kind ≠ K ∨ (K = 3 ∧ r.opn = 32) ∨ (K = 4 ∧ r.opn = 0) then ({ r with err := 2 }, hdNo)
     else ({ r with at' := (headS r.s r.at').fin, opn := if K = 3 then r.opn + 1 else if K = 4 then r.opn - 1 else r.opn }, headS r.s r.at'))
  else (r, hdNo)

set_option maxHeartbeats 2000000 in
set_option maxRecDepth 100000 in
theorem read_err (b : Nat) (r : RSt) (K : Int) (w : World) (hR : RAt w b r) (hs : r.s.size ≤ 4611686018427387904) (ha : r.at' ≤ 9223372036854775807) (he : r.err ≠ 0) :
    Calls Tryd.prog 30 #[.pointer (some ⟨b, 0, none⟩), .int .i64 K] w fun e w' => e = .returned (hdNo).v ∧ RAt w' b r ∧ But b w w' := by
  obtain ⟨s, at', opn, err⟩ := r
  obtain ⟨c0, c1, c2, c3, ff, lt⟩ := hR
  simp only at *
  have y0 : (err != 0) = true := by simpa using he
  go_enter Tryd.func30, Tryd.ntmps30
  go_wp2
  have hB : Below w.heap.size w (w.alloc (.cells #[.int .i64 0, .int .i64 0, .string ⟨#[]⟩, .int .i64 0] 60)) := (by repeat (first | with_reducible exact Below.refl _ _ | (with_reducible refine Below.setCell ?_ (by first | exact Nat.le_refl _ | omega | (simp; done) | (simp; omega)) _) | (with_reducible refine Below.alloc ?_ (by first | exact Nat.le_refl _ | omega | (simp; done) | (simp; omega)) _) | with_reducible refine Below.drew ?_ | with_reducible refine bel_drewN ?_ _ | (with_reducible refine bel_by (by with_reducible assumption) (by first | exact Nat.le_refl _ | omega | (simp; done) | (simp; omega)) ?_)))
  refine bodyPost_ret (v := hdNo.v) (by simp [results, Tryd.results30, go_sem, hdNo, Hd.v]) rfl ⟨rfl, ⟨(hB.cell lt).trans c0, (hB.cell lt).trans c1, (hB.cell lt).trans c2, (hB.cell lt).trans c3, fun o => (hB.frozen (p := ⟨b, o, none⟩) lt).trans (ff o), by simp; omega⟩, But.of hB⟩

theorem undrew {W w1 : World} (hb : Below W.drew.heap.size W.drew w1) : Below W.heap.size W w1 := ⟨hb.os, hb.tape, hb.output, hb.size, hb.block⟩

set_option maxHeartbeats 2000000 in
set_option maxRecDepth 100000 in
theorem read_bad1 (b : Nat) (r : RSt) (K : Int) (w : World) (hR : RAt w b r) (hs : r.s.size ≤ 4611686018427387904) (ha : r.at' ≤ 9223372036854775807) (he : r.err = 0) (hk : (headS r.s r.at').kind ≠ K) :
    Calls Tryd.prog 30 #[.pointer (some ⟨b, 0, none⟩), .int .i64 K] w fun e w' => e = .returned (hdNo).v ∧ RAt w' b { r with err := 2 } ∧ But b w w' := by
  obtain ⟨s, at', opn, err⟩ := r
  obtain ⟨c0, c1, c2, c3, ff, lt⟩ := hR
  simp only at *
  subst he
  have y0 : ((0 : Int) != 0) = false := rfl
  have HH := Lib.hid (fun W => head_any s at' hs ha W)
  generalize headS s at' = h at *
  obtain ⟨k, n, tx, fn⟩ := h
  unfold Hd.v at HH
  simp only at *
  go_enter Tryd.func30, Tryd.ntmps30
  go_upto_region 3 with fail
  have hB : Below w.heap.size w (w.alloc (.cells #[.int .i64 0, .int .i64 0, .string ⟨#[]⟩, .int .i64 0] 60)) := (by repeat (first | with_reducible exact Below.refl _ _ | (with_reducible refine Below.setCell ?_ (by first | exact Nat.le_refl _ | omega | (simp; done) | (simp; omega)) _) | (with_reducible refine Below.alloc ?_ (by first | exact Nat.le_refl _ | omega | (simp; done) | (simp; omega)) _) | with_reducible refine Below.drew ?_ | with_reducible refine bel_drewN ?_ _ | (with_reducible refine bel_by (by with_reducible assumption) (by first | exact Nat.le_refl _ | omega | (simp; done) | (simp; omega)) ?_)))
  have c0 := (hB.cell (p := ⟨b, 0, none⟩) lt).trans c0
  have c1 := (hB.cell (p := ⟨b, 1, none⟩) lt).trans c1
  have c2 := (hB.cell (p := ⟨b, 2, none⟩) lt).trans c2
  have c3 := (hB.cell (p := ⟨b, 3, none⟩) lt).trans c3
  have ff : ∀ o, (w.alloc (.cells #[.int .i64 0, .int .i64 0, .string ⟨#[]⟩, .int .i64 0] 60)).frozen? ⟨b, o, none⟩ = false := fun o => (hB.frozen (p := ⟨b, o, none⟩) lt).trans (ff o)
  have r0 : (w.alloc (.cells #[.int .i64 0, .int .i64 0, .string ⟨#[]⟩, .int .i64 0] 60)).cell? ⟨w.heap.size, 0, none⟩ = some (.int .i64 0) := by simp [go_sem]
  have r1 : (w.alloc (.cells #[.int .i64 0, .int .i64 0, .string ⟨#[]⟩, .int .i64 0] 60)).cell? ⟨w.heap.size, 1, none⟩ = some (.int .i64 0) := by simp [go_sem]
  have r2 : (w.alloc (.cells #[.int .i64 0, .int .i64 0, .string ⟨#[]⟩, .int .i64 0] 60)).cell? ⟨w.heap.size, 2, none⟩ = some (.string ⟨#[]⟩) := by simp [go_sem]
  have r3 : (w.alloc (.cells #[.int .i64 0, .int .i64 0, .string ⟨#[]⟩, .int .i64 0] 60)).cell? ⟨w.heap.size, 3, none⟩ = some (.int .i64 0) := by simp [go_sem]
  have rf : ∀ o, (w.alloc (.cells #[.int .i64 0, .int .i64 0, .string ⟨#[]⟩, .int .i64 0] 60)).frozen? ⟨w.heap.size, o, none⟩ = false := fun o => by simp [go_sem]
  have hzA : (w.alloc (.cells #[.int .i64 0, .int .i64 0, .string ⟨#[]⟩, .int .i64 0] 60)).heap.size = w.heap.size + 1 := by simp
  generalize w.alloc (.cells #[.int .i64 0, .int .i64 0, .string ⟨#[]⟩, .int .i64 0] 60) = wA at *
  have lA : b < wA.heap.size := by omega
  have lB : b < wA.heap.size + 1 := by omega
  have HBA := Lib.hid hB
  have lR : w.heap.size < wA.heap.size := by omega
  have HZA := Lib.hid hzA
  clear hB hzA
  go_cut [5] (fun s5 wx => ∃ g : Nat, s5 = .pointer (some ⟨g, 0, none⟩) ∧ wx.cell? ⟨g, 0, none⟩ = some (.int .i64 k) ∧ wx.cell? ⟨g, 1, none⟩ = some (.int .i64 n) ∧ wx.cell? ⟨g, 2, none⟩ = some (.string tx) ∧ wx.cell? ⟨g, 3, none⟩ = some (.int .i64 (fn : Int)) ∧ wA.heap.size ≤ g ∧ g < wx.heap.size ∧ Below wA.heap.size wA wx)
  case first =>
    go_region_held3 (fun w' => w'.cell? ⟨b, 0, none⟩ = some (.string s) ∧ w'.cell? ⟨b, 1, none⟩ = some (.int .i64 (at' : Int)))
      ((first | (simp [go_sem, c0, c1, lA]; done) | (simp (maxDischargeDepth := 6) [go_sem, c0, c1, lA, lB, n3]; done) | (simp (maxDischargeDepth := 6) [go_sem, hc2, c0, c1, lA, lB, n3]; done)))
      (first
        | (go_at_call 36; refine (HH.out _).mono ?_; rintro e w2 ⟨rfl, hb2⟩; (repeat (with_reducible replace hb2 := undrew hb2)); obtain ⟨hc2, hf2⟩ := bcell hb2; have hz2 := bsize hb2; (try simp at hz2); have n3 : b < w2.heap.size := (by omega)))
    all_goals
      go_wp2_with fail
      go_meet
      refine ⟨_, rfl, ?_, ?_, ?_, ?_, ?_, ?_, (by repeat (first | with_reducible exact Below.refl _ _ | (with_reducible refine Below.setCell ?_ (by first | exact Nat.le_refl _ | omega | (simp; done) | (simp; omega)) _) | (with_reducible refine Below.alloc ?_ (by first | exact Nat.le_refl _ | omega | (simp; done) | (simp; omega)) _) | with_reducible refine Below.drew ?_ | with_reducible refine bel_drewN ?_ _ | (with_reducible refine bel_by (by with_reducible assumption) (by first | exact Nat.le_refl _ | omega | (simp; done) | (simp; omega)) ?_)))⟩
      · first | (simp [go_sem]; done) | (simp (maxDischargeDepth := 6) [go_sem, hc2]; done)
      · first | (simp [go_sem]; done) | (simp (maxDischargeDepth := 6) [go_sem, hc2]; done)
      · first | (simp [go_sem]; done) | (simp (maxDischargeDepth := 6) [go_sem, hc2]; done)
      · first | (simp [go_sem]; done) | (simp (maxDischargeDepth := 6) [go_sem, hc2]; done)
      · first | (simp; done) | (simp; omega) | omega
      · first | (simp; done) | (simp; omega) | omega
  obtain ⟨g, rfl, g0, g1, g2, g3, hg, hgl, hbC⟩ := hcut
  have c0 := (hbC.cell (p := ⟨b, 0, none⟩) lA).trans c0
  have c1 := (hbC.cell (p := ⟨b, 1, none⟩) lA).trans c1
  have c2 := (hbC.cell (p := ⟨b, 2, none⟩) lA).trans c2
  have c3 := (hbC.cell (p := ⟨b, 3, none⟩) lA).trans c3
  have ff : ∀ o, wc.frozen? ⟨b, o, none⟩ = false := fun o => (hbC.frozen (p := ⟨b, o, none⟩) lA).trans (ff o)
  have r0 := (hbC.cell (p := ⟨w.heap.size, 0, none⟩) lR).trans r0
  have r1 := (hbC.cell (p := ⟨w.heap.size, 1, none⟩) lR).trans r1
  have r2 := (hbC.cell (p := ⟨w.heap.size, 2, none⟩) lR).trans r2
  have r3 := (hbC.cell (p := ⟨w.heap.size, 3, none⟩) lR).trans r3
  have rf : ∀ o, wc.frozen? ⟨w.heap.size, o, none⟩ = false := fun o => (hbC.frozen (p := ⟨w.heap.size, o, none⟩) lR).trans (rf o)
  have hzC := hbC.size
  have lC : b < wc.heap.size := by omega
  have m0 : ¬ b = w.heap.size := by omega
  have m1 : ¬ w.heap.size = b := by omega
  have m2 : ¬ g = b := by omega
  have m3 : ¬ b = g := by omega
  have m4 : ¬ g = w.heap.size := by omega
  have m5 : ¬ w.heap.size = g := by omega
  have hbut0 : But b w wc := But.of (HBA.out.trans (hbC.mono (by omega)))
  have HBU := Lib.hid hbut0
  clear hbC hzC hbut0
  have y1 : (k != K) = true := by simpa using hk
  go_wp2
  have hbut := HBU.out
  refine bodyPost_ret (v := (hdNo).v) (by simp [results, Tryd.results30, go_sem, hdNo, Hd.v, c0, c1, c2, c3, ff, r0, r1, r2, r3, rf, m0, m1, m2, m3, m4, m5, g0, g1, g2, g3, lC]) rfl ⟨rfl, ⟨?_, ?_, ?_, ?_, fun o => ?_, ?_⟩, (by repeat (first | exact hbut | with_reducible refine But.set ?_ _ _ | (with_reducible refine But.far ?_ (by first | exact Nat.le_refl _ | simp) _)))⟩
  · simp (maxDischargeDepth := 6) [go_sem, c0, c1, c2, c3, ff, r0, r1, r2, r3, rf, m0, m1, m2, m3, m4, m5, lC]
  · simp (maxDischargeDepth := 6) [go_sem, c0, c1, c2, c3, ff, r0, r1, r2, r3, rf, m0, m1, m2, m3, m4, m5, lC]
  · simp (maxDischargeDepth := 6) [go_sem, c0, c1, c2, c3, ff, r0, r1, r2, r3, rf, m0, m1, m2, m3, m4, m5, lC]
  · simp (maxDischargeDepth := 6) [go_sem, c0, c1, c2, c3, ff, r0, r1, r2, r3, rf, m0, m1, m2, m3, m4, m5, lC]
  · simp (maxDischargeDepth := 6) [go_sem, c0, c1, c2, c3, ff, r0, r1, r2, r3, rf, m0, m1, m2, m3, m4, m5, lC]
  · simp (maxDischargeDepth := 6) [go_sem, c0, c1, c2, c3, ff, r0, r1, r2, r3, rf, m0, m1, m2, m3, m4, m5, lC]

set_option maxHeartbeats 2000000 in
set_option maxRecDepth 100000 in
theorem read_bad3 (b : Nat) (r : RSt) (K : Int) (w : World) (hR : RAt w b r) (hs : r.s.size ≤ 4611686018427387904) (ha : r.at' ≤ 9223372036854775807) (he : r.err = 0) (hK : K = 3) (hk : (headS r.s r.at').kind = 3) (ho : r.opn = 32) :
    Calls Tryd.prog 30 #[.pointer (some ⟨b, 0, none⟩), .int .i64 K] w fun e w' => e = .returned (hdNo).v ∧ RAt w' b { r with err := 2 } ∧ But b w w' := by
  obtain ⟨s, at', opn, err⟩ := r
  obtain ⟨c0, c1, c2, c3, ff, lt⟩ := hR
  simp only at *
  subst he
  have y0 : ((0 : Int) != 0) = false := rfl
  have HH := Lib.hid (fun W => head_any s at' hs ha W)
  generalize headS s at' = h at *
  obtain ⟨k, n, tx, fn⟩ := h
  unfold Hd.v at HH
  simp only at *
  subst hK hk ho
  go_enter Tryd.func30, Tryd.ntmps30
  go_upto_region 3 with fail
  have hB : Below w.heap.size w (w.alloc (.cells #[.int .i64 0, .int .i64 0, .string ⟨#[]⟩, .int .i64 0] 60)) := (by repeat (first | with_reducible exact Below.refl _ _ | (with_reducible refine Below.setCell ?_ (by first | exact Nat.le_refl _ | omega | (simp; done) | (simp; omega)) _) | (with_reducible refine Below.alloc ?_ (by first | exact Nat.le_refl _ | omega | (simp; done) | (simp; omega)) _) | with_reducible refine Below.drew ?_ | with_reducible refine bel_drewN ?_ _ | (with_reducible refine bel_by (by with_reducible assumption) (by first | exact Nat.le_refl _ | omega | (simp; done) | (simp; omega)) ?_)))
  have c0 := (hB.cell (p := ⟨b, 0, none⟩) lt).trans c0
  have c1 := (hB.cell (p := ⟨b, 1, none⟩) lt).trans c1
  have c2 := (hB.cell (p := ⟨b, 2, none⟩) lt).trans c2
  have c3 := (hB.cell (p := ⟨b, 3, none⟩) lt).trans c3
  have ff : ∀ o, (w.alloc (.cells #[.int .i64 0, .int .i64 0, .string ⟨#[]⟩, .int .i64 0] 60)).frozen? ⟨b, o, none⟩ = false := fun o => (hB.frozen (p := ⟨b, o, none⟩) lt).trans (ff o)
  have r0 : (w.alloc (.cells #[.int .i64 0, .int .i64 0, .string ⟨#[]⟩, .int .i64 0] 60)).cell? ⟨w.heap.size, 0, none⟩ = some (.int .i64 0) := by simp [go_sem]
  have r1 : (w.alloc (.cells #[.int .i64 0, .int .i64 0, .string ⟨#[]⟩, .int .i64 0] 60)).cell? ⟨w.heap.size, 1, none⟩ = some (.int .i64 0) := by simp [go_sem]
  have r2 : (w.alloc (.cells #[.int .i64 0, .int .i64 0, .string ⟨#[]⟩, .int .i64 0] 60)).cell? ⟨w.heap.size, 2, none⟩ = some (.string ⟨#[]⟩) := by simp [go_sem]
  have r3 : (w.alloc (.cells #[.int .i64 0, .int .i64 0, .string ⟨#[]⟩, .int .i64 0] 60)).cell? ⟨w.heap.size, 3, none⟩ = some (.int .i64 0) := by simp [go_sem]
  have rf : ∀ o, (w.alloc (.cells #[.int .i64 0, .int .i64 0, .string ⟨#[]⟩, .int .i64 0] 60)).frozen? ⟨w.heap.size, o, none⟩ = false := fun o => by simp [go_sem]
  have hzA : (w.alloc (.cells #[.int .i64 0, .int .i64 0, .string ⟨#[]⟩, .int .i64 0] 60)).heap.size = w.heap.size + 1 := by simp
  generalize w.alloc (.cells #[.int .i64 0, .int .i64 0, .string ⟨#[]⟩, .int .i64 0] 60) = wA at *
  have lA : b < wA.heap.size := by omega
  have lB : b < wA.heap.size + 1 := by omega
  have HBA := Lib.hid hB
  have lR : w.heap.size < wA.heap.size := by omega
  have HZA := Lib.hid hzA
  clear hB hzA
  go_cut [5] (fun s5 wx => ∃ g : Nat, s5 = .pointer (some ⟨g, 0, none⟩) ∧ wx.cell? ⟨g, 0, none⟩ = some (.int .i64 3) ∧ wx.cell? ⟨g, 1, none⟩ = some (.int .i64 n) ∧ wx.cell? ⟨g, 2, none⟩ = some (.string tx) ∧ wx.cell? ⟨g, 3, none⟩ = some (.int .i64 (fn : Int)) ∧ wA.heap.size ≤ g ∧ g < wx.heap.size ∧ Below wA.heap.size wA wx)
  case first =>
    go_region_held3 (fun w' => w'.cell? ⟨b, 0, none⟩ = some (.string s) ∧ w'.cell? ⟨b, 1, none⟩ = some (.int .i64 (at' : Int)))
      ((first | (simp [go_sem, c0, c1, lA]; done) | (simp (maxDischargeDepth := 6) [go_sem, c0, c1, lA, lB, n3]; done) | (simp (maxDischargeDepth := 6) [go_sem, hc2, c0, c1, lA, lB, n3]; done)))
      (first
        | (go_at_call 36; refine (HH.out _).mono ?_; rintro e w2 ⟨rfl, hb2⟩; (repeat (with_reducible replace hb2 := undrew hb2)); obtain ⟨hc2, hf2⟩ := bcell hb2; have hz2 := bsize hb2; (try simp at hz2); have n3 : b < w2.heap.size := (by omega)))
    all_goals
      go_wp2_with fail
      go_meet
      refine ⟨_, rfl, ?_, ?_, ?_, ?_, ?_, ?_, (by repeat (first | with_reducible exact Below.refl _ _ | (with_reducible refine Below.setCell ?_ (by first | exact Nat.le_refl _ | omega | (simp; done) | (simp; omega)) _) | (with_reducible refine Below.alloc ?_ (by first | exact Nat.le_refl _ | omega | (simp; done) | (simp; omega)) _) | with_reducible refine Below.drew ?_ | with_reducible refine bel_drewN ?_ _ | (with_reducible refine bel_by (by with_reducible assumption) (by first | exact Nat.le_refl _ | omega | (simp; done) | (simp; omega)) ?_)))⟩
      · first | (simp [go_sem]; done) | (simp (maxDischargeDepth := 6) [go_sem, hc2]; done)
      · first | (simp [go_sem]; done) | (simp (maxDischargeDepth := 6) [go_sem, hc2]; done)
      · first | (simp [go_sem]; done) | (simp (maxDischargeDepth := 6) [go_sem, hc2]; done)
      · first | (simp [go_sem]; done) | (simp (maxDischargeDepth := 6) [go_sem, hc2]; done)
      · first | (simp; done) | (simp; omega) | omega
      · first | (simp; done) | (simp; omega) | omega
  obtain ⟨g, rfl, g0, g1, g2, g3, hg, hgl, hbC⟩ := hcut
  have c0 := (hbC.cell (p := ⟨b, 0, none⟩) lA).trans c0
  have c1 := (hbC.cell (p := ⟨b, 1, none⟩) lA).trans c1
  have c2 := (hbC.cell (p := ⟨b, 2, none⟩) lA).trans c2
  have c3 := (hbC.cell (p := ⟨b, 3, none⟩) lA).trans c3
  have ff : ∀ o, wc.frozen? ⟨b, o, none⟩ = false := fun o => (hbC.frozen (p := ⟨b, o, none⟩) lA).trans (ff o)
  have r0 := (hbC.cell (p := ⟨w.heap.size, 0, none⟩) lR).trans r0
  have r1 := (hbC.cell (p := ⟨w.heap.size, 1, none⟩) lR).trans r1
  have r2 := (hbC.cell (p := ⟨w.heap.size, 2, none⟩) lR).trans r2
  have r3 := (hbC.cell (p := ⟨w.heap.size, 3, none⟩) lR).trans r3
  have rf : ∀ o, wc.frozen? ⟨w.heap.size, o, none⟩ = false := fun o => (hbC.frozen (p := ⟨w.heap.size, o, none⟩) lR).trans (rf o)
  have hzC := hbC.size
  have lC : b < wc.heap.size := by omega
  have m0 : ¬ b = w.heap.size := by omega
  have m1 : ¬ w.heap.size = b := by omega
  have m2 : ¬ g = b := by omega
  have m3 : ¬ b = g := by omega
  have m4 : ¬ g = w.heap.size := by omega
  have m5 : ¬ w.heap.size = g := by omega
  have hbut0 : But b w wc := But.of (HBA.out.trans (hbC.mono (by omega)))
  have HBU := Lib.hid hbut0
  clear hbC hzC hbut0
  go_wp2
  have hbut := HBU.out
  refine bodyPost_ret (v := (hdNo).v) (by simp [results, Tryd.results30, go_sem, hdNo, Hd.v, c0, c1, c2, c3, ff, r0, r1, r2, r3, rf, m0, m1, m2, m3, m4, m5, g0, g1, g2, g3, lC]) rfl ⟨rfl, ⟨?_, ?_, ?_, ?_, fun o => ?_, ?_⟩, (by repeat (first | exact hbut | with_reducible refine But.set ?_ _ _ | (with_reducible refine But.far ?_ (by first | exact Nat.le_refl _ | simp) _)))⟩
  · simp (maxDischargeDepth := 6) [go_sem, c0, c1, c2, c3, ff, r0, r1, r2, r3, rf, m0, m1, m2, m3, m4, m5, lC]
  · simp (maxDischargeDepth := 6) [go_sem, c0, c1, c2, c3, ff, r0, r1, r2, r3, rf, m0, m1, m2, m3, m4, m5, lC]
  · simp (maxDischargeDepth := 6) [go_sem, c0, c1, c2, c3, ff, r0, r1, r2, r3, rf, m0, m1, m2, m3, m4, m5, lC]
  · simp (maxDischargeDepth := 6) [go_sem, c0, c1, c2, c3, ff, r0, r1, r2, r3, rf, m0, m1, m2, m3, m4, m5, lC]
  · simp (maxDischargeDepth := 6) [go_sem, c0, c1, c2, c3, ff, r0, r1, r2, r3, rf, m0, m1, m2, m3, m4, m5, lC]
  · simp (maxDischargeDepth := 6) [go_sem, c0, c1, c2, c3, ff, r0, r1, r2, r3, rf, m0, m1, m2, m3, m4, m5, lC]

set_option maxHeartbeats 2000000 in
set_option maxRecDepth 100000 in
theorem read_bad4 (b : Nat) (r : RSt) (K : Int) (w : World) (hR : RAt w b r) (hs : r.s.size ≤ 4611686018427387904) (ha : r.at' ≤ 9223372036854775807) (he : r.err = 0) (hK : K = 4) (hk : (headS r.s r.at').kind = 4) (ho : r.opn = 0) :
    Calls Tryd.prog 30 #[.pointer (some ⟨b, 0, none⟩), .int .i64 K] w fun e w' => e = .returned (hdNo).v ∧ RAt w' b { r with err := 2 } ∧ But b w w' := by
  obtain ⟨s, at', opn, err⟩ := r
  obtain ⟨c0, c1, c2, c3, ff, lt⟩ := hR
  simp only at *
  subst he
  have y0 : ((0 : Int) != 0) = false := rfl
  have HH := Lib.hid (fun W => head_any s at' hs ha W)
  generalize headS s at' = h at *
  obtain ⟨k, n, tx, fn⟩ := h
  unfold Hd.v at HH
  simp only at *
  subst hK hk ho
  go_enter Tryd.func30, Tryd.ntmps30
  go_upto_region 3 with fail
  have hB : Below w.heap.size w (w.alloc (.cells #[.int .i64 0, .int .i64 0, .string ⟨#[]⟩, .int .i64 0] 60)) := (by repeat (first | with_reducible exact Below.refl _ _ | (with_reducible refine Below.setCell ?_ (by first | exact Nat.le_refl _ | omega | (simp; done) | (simp; omega)) _) | (with_reducible refine Below.alloc ?_ (by first | exact Nat.le_refl _ | omega | (simp; done) | (simp; omega)) _) | with_reducible refine Below.drew ?_ | with_reducible refine bel_drewN ?_ _ | (with_reducible refine bel_by (by with_reducible assumption) (by first | exact Nat.le_refl _ | omega | (simp; done) | (simp; omega)) ?_)))
  have c0 := (hB.cell (p := ⟨b, 0, none⟩) lt).trans c0
  have c1 := (hB.cell (p := ⟨b, 1, none⟩) lt).trans c1
  have c2 := (hB.cell (p := ⟨b, 2, none⟩) lt).trans c2
  have c3 := (hB.cell (p := ⟨b, 3, none⟩) lt).trans c3
  have ff : ∀ o, (w.alloc (.cells #[.int .i64 0, .int .i64 0, .string ⟨#[]⟩, .int .i64 0] 60)).frozen? ⟨b, o, none⟩ = false := fun o => (hB.frozen (p := ⟨b, o, none⟩) lt).trans (ff o)
  have r0 : (w.alloc (.cells #[.int .i64 0, .int .i64 0, .string ⟨#[]⟩, .int .i64 0] 60)).cell? ⟨w.heap.size, 0, none⟩ = some (.int .i64 0) := by simp [go_sem]
  have r1 : (w.alloc (.cells #[.int .i64 0, .int .i64 0, .string ⟨#[]⟩, .int .i64 0] 60)).cell? ⟨w.heap.size, 1, none⟩ = some (.int .i64 0) := by simp [go_sem]
  have r2 : (w.alloc (.cells #[.int .i64 0, .int .i64 0, .string ⟨#[]⟩, .int .i64 0] 60)).cell? ⟨w.heap.size, 2, none⟩ = some (.string ⟨#[]⟩) := by simp [go_sem]
  have r3 : (w.alloc (.cells #[.int .i64 0, .int .i64 0, .string ⟨#[]⟩, .int .i64 0] 60)).cell? ⟨w.heap.size, 3, none⟩ = some (.int .i64 0) := by simp [go_sem]
  have rf : ∀ o, (w.alloc (.cells #[.int .i64 0, .int .i64 0, .string ⟨#[]⟩, .int .i64 0] 60)).frozen? ⟨w.heap.size, o, none⟩ = false := fun o => by simp [go_sem]
  have hzA : (w.alloc (.cells #[.int .i64 0, .int .i64 0, .string ⟨#[]⟩, .int .i64 0] 60)).heap.size = w.heap.size + 1 := by simp
  generalize w.alloc (.cells #[.int .i64 0, .int .i64 0, .string ⟨#[]⟩, .int .i64 0] 60) = wA at *
  have lA : b < wA.heap.size := by omega
  have lB : b < wA.heap.size + 1 := by omega
  have HBA := Lib.hid hB
  have lR : w.heap.size < wA.heap.size := by omega
  have HZA := Lib.hid hzA
  clear hB hzA
  go_cut [5] (fun s5 wx => ∃ g : Nat, s5 = .pointer (some ⟨g, 0, none⟩) ∧ wx.cell? ⟨g, 0, none⟩ = some (.int .i64 4) ∧ wx.cell? ⟨g, 1, none⟩ = some (.int .i64 n) ∧ wx.cell? ⟨g, 2, none⟩ = some (.string tx) ∧ wx.cell? ⟨g, 3, none⟩ = some (.int .i64 (fn : Int)) ∧ wA.heap.size ≤ g ∧ g < wx.heap.size ∧ Below wA.heap.size wA wx)
  case first =>
    go_region_held3 (fun w' => w'.cell? ⟨b, 0, none⟩ = some (.string s) ∧ w'.cell? ⟨b, 1, none⟩ = some (.int .i64 (at' : Int)))
      ((first | (simp [go_sem, c0, c1, lA]; done) | (simp (maxDischargeDepth := 6) [go_sem, c0, c1, lA, lB, n3]; done) | (simp (maxDischargeDepth := 6) [go_sem, hc2, c0, c1, lA, lB, n3]; done)))
      (first
        | (go_at_call 36; refine (HH.out _).mono ?_; rintro e w2 ⟨rfl, hb2⟩; (repeat (with_reducible replace hb2 := undrew hb2)); obtain ⟨hc2, hf2⟩ := bcell hb2; have hz2 := bsize hb2; (try simp at hz2); have n3 : b < w2.heap.size := (by omega)))
    all_goals
      go_wp2_with fail
      go_meet
      refine ⟨_, rfl, ?_, ?_, ?_, ?_, ?_, ?_, (by repeat (first | with_reducible exact Below.refl _ _ | (with_reducible refine Below.setCell ?_ (by first | exact Nat.le_refl _ | omega | (simp; done) | (simp; omega)) _) | (with_reducible refine Below.alloc ?_ (by first | exact Nat.le_refl _ | omega | (simp; done) | (simp; omega)) _) | with_reducible refine Below.drew ?_ | with_reducible refine bel_drewN ?_ _ | (with_reducible refine bel_by (by with_reducible assumption) (by first | exact Nat.le_refl _ | omega | (simp; done) | (simp; omega)) ?_)))⟩
      · first | (simp [go_sem]; done) | (simp (maxDischargeDepth := 6) [go_sem, hc2]; done)
      · first | (simp [go_sem]; done) | (simp (maxDischargeDepth := 6) [go_sem, hc2]; done)
      · first | (simp [go_sem]; done) | (simp (maxDischargeDepth := 6) [go_sem, hc2]; done)
      · first | (simp [go_sem]; done) | (simp (maxDischargeDepth := 6) [go_sem, hc2]; done)
      · first | (simp; done) | (simp; omega) | omega
      · first | (simp; done) | (simp; omega) | omega
  obtain ⟨g, rfl, g0, g1, g2, g3, hg, hgl, hbC⟩ := hcut
  have c0 := (hbC.cell (p := ⟨b, 0, none⟩) lA).trans c0
  have c1 := (hbC.cell (p := ⟨b, 1, none⟩) lA).trans c1
  have c2 := (hbC.cell (p := ⟨b, 2, none⟩) lA).trans c2
  have c3 := (hbC.cell (p := ⟨b, 3, none⟩) lA).trans c3
  have ff : ∀ o, wc.frozen? ⟨b, o, none⟩ = false := fun o => (hbC.frozen (p := ⟨b, o, none⟩) lA).trans (ff o)
  have r0 := (hbC.cell (p := ⟨w.heap.size, 0, none⟩) lR).trans r0
  have r1 := (hbC.cell (p := ⟨w.heap.size, 1, none⟩) lR).trans r1
  have r2 := (hbC.cell (p := ⟨w.heap.size, 2, none⟩) lR).trans r2
  have r3 := (hbC.cell (p := ⟨w.heap.size, 3, none⟩) lR).trans r3
  have rf : ∀ o, wc.frozen? ⟨w.heap.size, o, none⟩ = false := fun o => (hbC.frozen (p := ⟨w.heap.size, o, none⟩) lR).trans (rf o)
  have hzC := hbC.size
  have lC : b < wc.heap.size := by omega
  have m0 : ¬ b = w.heap.size := by omega
  have m1 : ¬ w.heap.size = b := by omega
  have m2 : ¬ g = b := by omega
  have m3 : ¬ b = g := by omega
  have m4 : ¬ g = w.heap.size := by omega
  have m5 : ¬ w.heap.size = g := by omega
  have hbut0 : But b w wc := But.of (HBA.out.trans (hbC.mono (by omega)))
  have HBU := Lib.hid hbut0
  clear hbC hzC hbut0
  go_wp2
  have hbut := HBU.out
  refine bodyPost_ret (v := (hdNo).v) (by simp [results, Tryd.results30, go_sem, hdNo, Hd.v, c0, c1, c2, c3, ff, r0, r1, r2, r3, rf, m0, m1, m2, m3, m4, m5, g0, g1, g2, g3, lC]) rfl ⟨rfl, ⟨?_, ?_, ?_, ?_, fun o => ?_, ?_⟩, (by repeat (first | exact hbut | with_reducible refine But.set ?_ _ _ | (with_reducible refine But.far ?_ (by first | exact Nat.le_refl _ | simp) _)))⟩
  · simp (maxDischargeDepth := 6) [go_sem, c0, c1, c2, c3, ff, r0, r1, r2, r3, rf, m0, m1, m2, m3, m4, m5, lC]
  · simp (maxDischargeDepth := 6) [go_sem, c0, c1, c2, c3, ff, r0, r1, r2, r3, rf, m0, m1, m2, m3, m4, m5, lC]
  · simp (maxDischargeDepth := 6) [go_sem, c0, c1, c2, c3, ff, r0, r1, r2, r3, rf, m0, m1, m2, m3, m4, m5, lC]
  · simp (maxDischargeDepth := 6) [go_sem, c0, c1, c2, c3, ff, r0, r1, r2, r3, rf, m0, m1, m2, m3, m4, m5, lC]
  · simp (maxDischargeDepth := 6) [go_sem, c0, c1, c2, c3, ff, r0, r1, r2, r3, rf, m0, m1, m2, m3, m4, m5, lC]
  · simp (maxDischargeDepth := 6) [go_sem, c0, c1, c2, c3, ff, r0, r1, r2, r3, rf, m0, m1, m2, m3, m4, m5, lC]

set_option maxHeartbeats 2000000 in
set_option maxRecDepth 100000 in
theorem read_ok3 (b : Nat) (r : RSt) (K : Int) (w : World) (hR : RAt w b r) (hs : r.s.size ≤ 4611686018427387904) (ha : r.at' ≤ 9223372036854775807) (he : r.err = 0) (hK : K = 3) (hk : (headS r.s r.at').kind = 3) (ho : r.opn < 32) :
    Calls Tryd.prog 30 #[.pointer (some ⟨b, 0, none⟩), .int .i64 K] w fun e w' => e = .returned ((headS r.s r.at')).v ∧ RAt w' b { r with at' := (headS r.s r.at').fin, opn := r.opn + 1 } ∧ But b w w' := by
  obtain ⟨s, at', opn, err⟩ := r
  obtain ⟨c0, c1, c2, c3, ff, lt⟩ := hR
  simp only at *
  subst he
  have y0 : ((0 : Int) != 0) = false := rfl
  have HH := Lib.hid (fun W => head_any s at' hs ha W)
  generalize headS s at' = h at *
  obtain ⟨k, n, tx, fn⟩ := h
  unfold Hd.v at HH
  simp only at *
  subst hK hk
  go_enter Tryd.func30, Tryd.ntmps30
  go_upto_region 3 with fail
  have hB : Below w.heap.size w (w.alloc (.cells #[.int .i64 0, .int .i64 0, .string ⟨#[]⟩, .int .i64 0] 60)) := (by repeat (first | with_reducible exact Below.refl _ _ | (with_reducible refine Below.setCell ?_ (by first | exact Nat.le_refl _ | omega | (simp; done) | (simp; omega)) _) | (with_reducible refine Below.alloc ?_ (by first | exact Nat.le_refl _ | omega | (simp; done) | (simp; omega)) _) | with_reducible refine Below.drew ?_ | with_reducible refine bel_drewN ?_ _ | (with_reducible refine bel_by (by with_reducible assumption) (by first | exact Nat.le_refl _ | omega | (simp; done) | (simp; omega)) ?_)))
  have c0 := (hB.cell (p := ⟨b, 0, none⟩) lt).trans c0
  have c1 := (hB.cell (p := ⟨b, 1, none⟩) lt).trans c1
  have c2 := (hB.cell (p := ⟨b, 2, none⟩) lt).trans c2
  have c3 := (hB.cell (p := ⟨b, 3, none⟩) lt).trans c3
  have ff : ∀ o, (w.alloc (.cells #[.int .i64 0, .int .i64 0, .string ⟨#[]⟩, .int .i64 0] 60)).frozen? ⟨b, o, none⟩ = false := fun o => (hB.frozen (p := ⟨b, o, none⟩) lt).trans (ff o)
  have r0 : (w.alloc (.cells #[.int .i64 0, .int .i64 0, .string ⟨#[]⟩, .int .i64 0] 60)).cell? ⟨w.heap.size, 0, none⟩ = some (.int .i64 0) := by simp [go_sem]
  have r1 : (w.alloc (.cells #[.int .i64 0, .int .i64 0, .string ⟨#[]⟩, .int .i64 0] 60)).cell? ⟨w.heap.size, 1, none⟩ = some (.int .i64 0) := by simp [go_sem]
  have r2 : (w.alloc (.cells #[.int .i64 0, .int .i64 0, .string ⟨#[]⟩, .int .i64 0] 60)).cell? ⟨w.heap.size, 2, none⟩ = some (.string ⟨#[]⟩) := by simp [go_sem]
  have r3 : (w.alloc (.cells #[.int .i64 0, .int .i64 0, .string ⟨#[]⟩, .int .i64 0] 60)).cell? ⟨w.heap.size, 3, none⟩ = some (.int .i64 0) := by simp [go_sem]
  have rf : ∀ o, (w.alloc (.cells #[.int .i64 0, .int .i64 0, .string ⟨#[]⟩, .int .i64 0] 60)).frozen? ⟨w.heap.size, o, none⟩ = false := fun o => by simp [go_sem]
  have hzA : (w.alloc (.cells #[.int .i64 0, .int .i64 0, .string ⟨#[]⟩, .int .i64 0] 60)).heap.size = w.heap.size + 1 := by simp
  generalize w.alloc (.cells #[.int .i64 0, .int .i64 0, .string ⟨#[]⟩, .int .i64 0] 60) = wA at *
  have lA : b < wA.heap.size := by omega
  have lB : b < wA.heap.size + 1 := by omega
  have HBA := Lib.hid hB
  have lR : w.heap.size < wA.heap.size := by omega
  have HZA := Lib.hid hzA
  clear hB hzA
  go_cut [5] (fun s5 wx => ∃ g : Nat, s5 = .pointer (some ⟨g, 0, none⟩) ∧ wx.cell? ⟨g, 0, none⟩ = some (.int .i64 3) ∧ wx.cell? ⟨g, 1, none⟩ = some (.int .i64 n) ∧ wx.cell? ⟨g, 2, none⟩ = some (.string tx) ∧ wx.cell? ⟨g, 3, none⟩ = some (.int .i64 (fn : Int)) ∧ wA.heap.size ≤ g ∧ g < wx.heap.size ∧ Below wA.heap.size wA wx)
  case first =>
    go_region_held3 (fun w' => w'.cell? ⟨b, 0, none⟩ = some (.string s) ∧ w'.cell? ⟨b, 1, none⟩ = some (.int .i64 (at' : Int)))
      ((first | (simp [go_sem, c0, c1, lA]; done) | (simp (maxDischargeDepth := 6) [go_sem, c0, c1, lA, lB, n3]; done) | (simp (maxDischargeDepth := 6) [go_sem, hc2, c0, c1, lA, lB, n3]; done)))
      (first
        | (go_at_call 36; refine (HH.out _).mono ?_; rintro e w2 ⟨rfl, hb2⟩; (repeat (with_reducible replace hb2 := undrew hb2)); obtain ⟨hc2, hf2⟩ := bcell hb2; have hz2 := bsize hb2; (try simp at hz2); have n3 : b < w2.heap.size := (by omega)))
    all_goals
      go_wp2_with fail
      go_meet
      refine ⟨_, rfl, ?_, ?_, ?_, ?_, ?_, ?_, (by repeat (first | with_reducible exact Below.refl _ _ | (with_reducible refine Below.setCell ?_ (by first | exact Nat.le_refl _ | omega | (simp; done) | (simp; omega)) _) | (with_reducible refine Below.alloc ?_ (by first | exact Nat.le_refl _ | omega | (simp; done) | (simp; omega)) _) | with_reducible refine Below.drew ?_ | with_reducible refine bel_drewN ?_ _ | (with_reducible refine bel_by (by with_reducible assumption) (by first | exact Nat.le_refl _ | omega | (simp; done) | (simp; omega)) ?_)))⟩
      · first | (simp [go_sem]; done) | (simp (maxDischargeDepth := 6) [go_sem, hc2]; done)
      · first | (simp [go_sem]; done) | (simp (maxDischargeDepth := 6) [go_sem, hc2]; done)
      · first | (simp [go_sem]; done) | (simp (maxDischargeDepth := 6) [go_sem, hc2]; done)
      · first | (simp [go_sem]; done) | (simp (maxDischargeDepth := 6) [go_sem, hc2]; done)
      · first | (simp; done) | (simp; omega) | omega
      · first | (simp; done) | (simp; omega) | omega
  obtain ⟨g, rfl, g0, g1, g2, g3, hg, hgl, hbC⟩ := hcut
  have c0 := (hbC.cell (p := ⟨b, 0, none⟩) lA).trans c0
  have c1 := (hbC.cell (p := ⟨b, 1, none⟩) lA).trans c1
  have c2 := (hbC.cell (p := ⟨b, 2, none⟩) lA).trans c2
  have c3 := (hbC.cell (p := ⟨b, 3, none⟩) lA).trans c3
  have ff : ∀ o, wc.frozen? ⟨b, o, none⟩ = false := fun o => (hbC.frozen (p := ⟨b, o, none⟩) lA).trans (ff o)
  have r0 := (hbC.cell (p := ⟨w.heap.size, 0, none⟩) lR).trans r0
  have r1 := (hbC.cell (p := ⟨w.heap.size, 1, none⟩) lR).trans r1
  have r2 := (hbC.cell (p := ⟨w.heap.size, 2, none⟩) lR).trans r2
  have r3 := (hbC.cell (p := ⟨w.heap.size, 3, none⟩) lR).trans r3
  have rf : ∀ o, wc.frozen? ⟨w.heap.size, o, none⟩ = false := fun o => (hbC.frozen (p := ⟨w.heap.size, o, none⟩) lR).trans (rf o)
  have hzC := hbC.size
  have lC : b < wc.heap.size := by omega
  have m0 : ¬ b = w.heap.size := by omega
  have m1 : ¬ w.heap.size = b := by omega
  have m2 : ¬ g = b := by omega
  have m3 : ¬ b = g := by omega
  have m4 : ¬ g = w.heap.size := by omega
  have m5 : ¬ w.heap.size = g := by omega
  have hbut0 : But b w wc := But.of (HBA.out.trans (hbC.mono (by omega)))
  have HBU := Lib.hid hbut0
  clear hbC hzC hbut0
  have y1 : ((opn : Int) == 32) = false := by simp; omega
  go_wp2
  have hbut := HBU.out
  refine bodyPost_ret (v := (⟨3, n, tx, fn⟩ : Hd).v) (by simp [results, Tryd.results30, go_sem, hdNo, Hd.v, c0, c1, c2, c3, ff, r0, r1, r2, r3, rf, m0, m1, m2, m3, m4, m5, g0, g1, g2, g3, lC]) rfl ⟨rfl, ⟨?_, ?_, ?_, ?_, fun o => ?_, ?_⟩, (by repeat (first | exact hbut | with_reducible refine But.set ?_ _ _ | (with_reducible refine But.far ?_ (by first | exact Nat.le_refl _ | simp) _)))⟩
  · simp (maxDischargeDepth := 6) [go_sem, c0, c1, c2, c3, ff, r0, r1, r2, r3, rf, m0, m1, m2, m3, m4, m5, lC]
  · simp (maxDischargeDepth := 6) [go_sem, c0, c1, c2, c3, ff, r0, r1, r2, r3, rf, m0, m1, m2, m3, m4, m5, lC]
  · simp (maxDischargeDepth := 6) [go_sem, c0, c1, c2, c3, ff, r0, r1, r2, r3, rf, m0, m1, m2, m3, m4, m5, lC]
  · simp (maxDischargeDepth := 6) [go_sem, c0, c1, c2, c3, ff, r0, r1, r2, r3, rf, m0, m1, m2, m3, m4, m5, lC]
  · simp (maxDischargeDepth := 6) [go_sem, c0, c1, c2, c3, ff, r0, r1, r2, r3, rf, m0, m1, m2, m3, m4, m5, lC]
  · simp (maxDischargeDepth := 6) [go_sem, c0, c1, c2, c3, ff, r0, r1, r2, r3, rf, m0, m1, m2, m3, m4, m5, lC]

set_option maxHeartbeats 2000000 in
set_option maxRecDepth 100000 in
theorem read_ok4 (b : Nat) (r : RSt) (K : Int) (w : World) (hR : RAt w b r) (hs : r.s.size ≤ 4611686018427387904) (ha : r.at' ≤ 9223372036854775807) (he : r.err = 0) (hK : K = 4) (hk : (headS r.s r.at').kind = 4) (ho : 0 < r.opn) (ho' : r.opn ≤ 32) :
    Calls Tryd.prog 30 #[.pointer (some ⟨b, 0, none⟩), .int .i64 K] w fun e w' => e = .returned ((headS r.s r.at')).v ∧ RAt w' b { r with at' := (headS r.s r.at').fin, opn := r.opn - 1 } ∧ But b w w' := by
  obtain ⟨s, at', opn, err⟩ := r
  obtain ⟨c0, c1, c2, c3, ff, lt⟩ := hR
  simp only at *
  subst he
  have y0 : ((0 : Int) != 0) = false := rfl
  have HH := Lib.hid (fun W => head_any s at' hs ha W)
  generalize headS s at' = h at *
  obtain ⟨k, n, tx, fn⟩ := h
  unfold Hd.v at HH
  simp only at *
  subst hK hk
  obtain ⟨q, rfl⟩ : ∃ q, opn = q + 1 := ⟨opn - 1, by omega⟩
  go_enter Tryd.func30, Tryd.ntmps30
  go_upto_region 3 with fail
  have hB : Below w.heap.size w (w.alloc (.cells #[.int .i64 0, .int .i64 0, .string ⟨#[]⟩, .int .i64 0] 60)) := (by repeat (first | with_reducible exact Below.refl _ _ | (with_reducible refine Below.setCell ?_ (by first | exact Nat.le_refl _ | omega | (simp; done) | (simp; omega)) _) | (with_reducible refine Below.alloc ?_ (by first | exact Nat.le_refl _ | omega | (simp; done) | (simp; omega)) _) | with_reducible refine Below.drew ?_ | with_reducible refine bel_drewN ?_ _ | (with_reducible refine bel_by (by with_reducible assumption) (by first | exact Nat.le_refl _ | omega | (simp; done) | (simp; omega)) ?_)))
  have c0 := (hB.cell (p := ⟨b, 0, none⟩) lt).trans c0
  have c1 := (hB.cell (p := ⟨b, 1, none⟩) lt).trans c1
  have c2 := (hB.cell (p := ⟨b, 2, none⟩) lt).trans c2
  have c3 := (hB.cell (p := ⟨b, 3, none⟩) lt).trans c3
  have ff : ∀ o, (w.alloc (.cells #[.int .i64 0, .int .i64 0, .string ⟨#[]⟩, .int .i64 0] 60)).frozen? ⟨b, o, none⟩ = false := fun o => (hB.frozen (p := ⟨b, o, none⟩) lt).trans (ff o)
  have r0 : (w.alloc (.cells #[.int .i64 0, .int .i64 0, .string ⟨#[]⟩, .int .i64 0] 60)).cell? ⟨w.heap.size, 0, none⟩ = some (.int .i64 0) := by simp [go_sem]
  have r1 : (w.alloc (.cells #[.int .i64 0, .int .i64 0, .string ⟨#[]⟩, .int .i64 0] 60)).cell? ⟨w.heap.size, 1, none⟩ = some (.int .i64 0) := by simp [go_sem]
  have r2 : (w.alloc (.cells #[.int .i64 0, .int .i64 0, .string ⟨#[]⟩, .int .i64 0] 60)).cell? ⟨w.heap.size, 2, none⟩ = some (.string ⟨#[]⟩) := by simp [go_sem]
  have r3 : (w.alloc (.cells #[.int .i64 0, .int .i64 0, .string ⟨#[]⟩, .int .i64 0] 60)).cell? ⟨w.heap.size, 3, none⟩ = some (.int .i64 0) := by simp [go_sem]
  have rf : ∀ o, (w.alloc (.cells #[.int .i64 0, .int .i64 0, .string ⟨#[]⟩, .int .i64 0] 60)).frozen? ⟨w.heap.size, o, none⟩ = false := fun o => by simp [go_sem]
  have hzA : (w.alloc (.cells #[.int .i64 0, .int .i64 0, .string ⟨#[]⟩, .int .i64 0] 60)).heap.size = w.heap.size + 1 := by simp
  generalize w.alloc (.cells #[.int .i64 0, .int .i64 0, .string ⟨#[]⟩, .int .i64 0] 60) = wA at *
  have lA : b < wA.heap.size := by omega
  have lB : b < wA.heap.size + 1 := by omega
  have HBA := Lib.hid hB
  have lR : w.heap.size < wA.heap.size := by omega
  have HZA := Lib.hid hzA
  clear hB hzA
  go_cut [5] (fun s5 wx => ∃ g : Nat, s5 = .pointer (some ⟨g, 0, none⟩) ∧ wx.cell? ⟨g, 0, none⟩ = some (.int .i64 4) ∧ wx.cell? ⟨g, 1, none⟩ = some (.int .i64 n) ∧ wx.cell? ⟨g, 2, none⟩ = some (.string tx) ∧ wx.cell? ⟨g, 3, none⟩ = some (.int .i64 (fn : Int)) ∧ wA.heap.size ≤ g ∧ g < wx.heap.size ∧ Below wA.heap.size wA wx)
  case first =>
    go_region_held3 (fun w' => w'.cell? ⟨b, 0, none⟩ = some (.string s) ∧ w'.cell? ⟨b, 1, none⟩ = some (.int .i64 (at' : Int)))
      ((first | (simp [go_sem, c0, c1, lA]; done) | (simp (maxDischargeDepth := 6) [go_sem, c0, c1, lA, lB, n3]; done) | (simp (maxDischargeDepth := 6) [go_sem, hc2, c0, c1, lA, lB, n3]; done)))
      (first
        | (go_at_call 36; refine (HH.out _).mono ?_; rintro e w2 ⟨rfl, hb2⟩; (repeat (with_reducible replace hb2 := undrew hb2)); obtain ⟨hc2, hf2⟩ := bcell hb2; have hz2 := bsize hb2; (try simp at hz2); have n3 : b < w2.heap.size := (by omega)))
    all_goals
      go_wp2_with fail
      go_meet
      refine ⟨_, rfl, ?_, ?_, ?_, ?_, ?_, ?_, (by repeat (first | with_reducible exact Below.refl _ _ | (with_reducible refine Below.setCell ?_ (by first | exact Nat.le_refl _ | omega | (simp; done) | (simp; omega)) _) | (with_reducible refine Below.alloc ?_ (by first | exact Nat.le_refl _ | omega | (simp; done) | (simp; omega)) _) | with_reducible refine Below.drew ?_ | with_reducible refine bel_drewN ?_ _ | (with_reducible refine bel_by (by with_reducible assumption) (by first | exact Nat.le_refl _ | omega | (simp; done) | (simp; omega)) ?_)))⟩
      · first | (simp [go_sem]; done) | (simp (maxDischargeDepth := 6) [go_sem, hc2]; done)
      · first | (simp [go_sem]; done) | (simp (maxDischargeDepth := 6) [go_sem, hc2]; done)
      · first | (simp [go_sem]; done) | (simp (maxDischargeDepth := 6) [go_sem, hc2]; done)
      · first | (simp [go_sem]; done) | (simp (maxDischargeDepth := 6) [go_sem, hc2]; done)
      · first | (simp; done) | (simp; omega) | omega
      · first | (simp; done) | (simp; omega) | omega
  obtain ⟨g, rfl, g0, g1, g2, g3, hg, hgl, hbC⟩ := hcut
  have c0 := (hbC.cell (p := ⟨b, 0, none⟩) lA).trans c0
  have c1 := (hbC.cell (p := ⟨b, 1, none⟩) lA).trans c1
  have c2 := (hbC.cell (p := ⟨b, 2, none⟩) lA).trans c2
  have c3 := (hbC.cell (p := ⟨b, 3, none⟩) lA).trans c3
  have ff : ∀ o, wc.frozen? ⟨b, o, none⟩ = false := fun o => (hbC.frozen (p := ⟨b, o, none⟩) lA).trans (ff o)
  have r0 := (hbC.cell (p := ⟨w.heap.size, 0, none⟩) lR).trans r0
  have r1 := (hbC.cell (p := ⟨w.heap.size, 1, none⟩) lR).trans r1
  have r2 := (hbC.cell (p := ⟨w.heap.size, 2, none⟩) lR).trans r2
  have r3 := (hbC.cell (p := ⟨w.heap.size, 3, none⟩) lR).trans r3
  have rf : ∀ o, wc.frozen? ⟨w.heap.size, o, none⟩ = false := fun o => (hbC.frozen (p := ⟨w.heap.size, o, none⟩) lR).trans (rf o)
  have hzC := hbC.size
  have lC : b < wc.heap.size := by omega
  have m0 : ¬ b = w.heap.size := by omega
  have m1 : ¬ w.heap.size = b := by omega
  have m2 : ¬ g = b := by omega
  have m3 : ¬ b = g := by omega
  have m4 : ¬ g = w.heap.size := by omega
  have m5 : ¬ w.heap.size = g := by omega
  have hbut0 : But b w wc := But.of (HBA.out.trans (hbC.mono (by omega)))
  have HBU := Lib.hid hbut0
  clear hbC hzC hbut0
  have y1 : ((((q + 1 : Nat) : Int)) == 0) = false := by simp; omega
  have y2 : ((q : Int) + 1 == 0) = false := by simp; omega
  go_wp2
  have hbut := HBU.out
  refine bodyPost_ret (v := (⟨4, n, tx, fn⟩ : Hd).v) (by simp [results, Tryd.results30, go_sem, hdNo, Hd.v, c0, c1, c2, c3, ff, r0, r1, r2, r3, rf, m0, m1, m2, m3, m4, m5, g0, g1, g2, g3, lC]) rfl ⟨rfl, ⟨?_, ?_, ?_, ?_, fun o => ?_, ?_⟩, (by repeat (first | exact hbut | with_reducible refine But.set ?_ _ _ | (with_reducible refine But.far ?_ (by first | exact Nat.le_refl _ | simp) _)))⟩
  · simp (maxDischargeDepth := 6) [go_sem, c0, c1, c2, c3, ff, r0, r1, r2, r3, rf, m0, m1, m2, m3, m4, m5, lC]
  · simp (maxDischargeDepth := 6) [go_sem, c0, c1, c2, c3, ff, r0, r1, r2, r3, rf, m0, m1, m2, m3, m4, m5, lC]
  · simp (maxDischargeDepth := 6) [go_sem, c0, c1, c2, c3, ff, r0, r1, r2, r3, rf, m0, m1, m2, m3, m4, m5, lC]
  · simp (maxDischargeDepth := 6) [go_sem, c0, c1, c2, c3, ff, r0, r1, r2, r3, rf, m0, m1, m2, m3, m4, m5, lC]
  · simp (maxDischargeDepth := 6) [go_sem, c0, c1, c2, c3, ff, r0, r1, r2, r3, rf, m0, m1, m2, m3, m4, m5, lC]
  · simp (maxDischargeDepth := 6) [go_sem, c0, c1, c2, c3, ff, r0, r1, r2, r3, rf, m0, m1, m2, m3, m4, m5, lC]

set_option maxHeartbeats 2000000 in
set_option maxRecDepth 100000 in
theorem read_ok12 (b : Nat) (r : RSt) (K : Int) (w : World) (hR : RAt w b r) (hs : r.s.size ≤ 4611686018427387904) (ha : r.at' ≤ 9223372036854775807) (he : r.err = 0) (hK : K = 1 ∨ K = 2) (hk : (headS r.s r.at').kind = K) :
    Calls Tryd.prog 30 #[.pointer (some ⟨b, 0, none⟩), .int .i64 K] w fun e w' => e = .returned ((headS r.s r.at')).v ∧ RAt w' b { r with at' := (headS r.s r.at').fin } ∧ But b w w' := by
  obtain ⟨s, at', opn, err⟩ := r
  obtain ⟨c0, c1, c2, c3, ff, lt⟩ := hR
  simp only at *
  subst he
  have y0 : ((0 : Int) != 0) = false := rfl
  have HH := Lib.hid (fun W => head_any s at' hs ha W)
  generalize headS s at' = h at *
  obtain ⟨k, n, tx, fn⟩ := h
  unfold Hd.v at HH
  simp only at *
  subst hk
  go_enter Tryd.func30, Tryd.ntmps30
  go_upto_region 3 with fail
  have hB : Below w.heap.size w (w.alloc (.cells #[.int .i64 0, .int .i64 0, .string ⟨#[]⟩, .int .i64 0] 60)) := (by repeat (first | with_reducible exact Below.refl _ _ | (with_reducible refine Below.setCell ?_ (by first | exact Nat.le_refl _ | omega | (simp; done) | (simp; omega)) _) | (with_reducible refine Below.alloc ?_ (by first | exact Nat.le_refl _ | omega | (simp; done) | (simp; omega)) _) | with_reducible refine Below.drew ?_ | with_reducible refine bel_drewN ?_ _ | (with_reducible refine bel_by (by with_reducible assumption) (by first | exact Nat.le_refl _ | omega | (simp; done) | (simp; omega)) ?_)))
  have c0 := (hB.cell (p := ⟨b, 0, none⟩) lt).trans c0
  have c1 := (hB.cell (p := ⟨b, 1, none⟩) lt).trans c1
  have c2 := (hB.cell (p := ⟨b, 2, none⟩) lt).trans c2
  have c3 := (hB.cell (p := ⟨b, 3, none⟩) lt).trans c3
  have ff : ∀ o, (w.alloc (.cells #[.int .i64 0, .int .i64 0, .string ⟨#[]⟩, .int .i64 0] 60)).frozen? ⟨b, o, none⟩ = false := fun o => (hB.frozen (p := ⟨b, o, none⟩) lt).trans (ff o)
  have r0 : (w.alloc (.cells #[.int .i64 0, .int .i64 0, .string ⟨#[]⟩, .int .i64 0] 60)).cell? ⟨w.heap.size, 0, none⟩ = some (.int .i64 0) := by simp [go_sem]
  have r1 : (w.alloc (.cells #[.int .i64 0, .int .i64 0, .string ⟨#[]⟩, .int .i64 0] 60)).cell? ⟨w.heap.size, 1, none⟩ = some (.int .i64 0) := by simp [go_sem]
  have r2 : (w.alloc (.cells #[.int .i64 0, .int .i64 0, .string ⟨#[]⟩, .int .i64 0] 60)).cell? ⟨w.heap.size, 2, none⟩ = some (.string ⟨#[]⟩) := by simp [go_sem]
  have r3 : (w.alloc (.cells #[.int .i64 0, .int .i64 0, .string ⟨#[]⟩, .int .i64 0] 60)).cell? ⟨w.heap.size, 3, none⟩ = some (.int .i64 0) := by simp [go_sem]
  have rf : ∀ o, (w.alloc (.cells #[.int .i64 0, .int .i64 0, .string ⟨#[]⟩, .int .i64 0] 60)).frozen? ⟨w.heap.size, o, none⟩ = false := fun o => by simp [go_sem]
  have hzA : (w.alloc (.cells #[.int .i64 0, .int .i64 0, .string ⟨#[]⟩, .int .i64 0] 60)).heap.size = w.heap.size + 1 := by simp
  generalize w.alloc (.cells #[.int .i64 0, .int .i64 0, .string ⟨#[]⟩, .int .i64 0] 60) = wA at *
  have lA : b < wA.heap.size := by omega
  have lB : b < wA.heap.size + 1 := by omega
  have HBA := Lib.hid hB
  have lR : w.heap.size < wA.heap.size := by omega
  have HZA := Lib.hid hzA
  clear hB hzA
  go_cut [5] (fun s5 wx => ∃ g : Nat, s5 = .pointer (some ⟨g, 0, none⟩) ∧ wx.cell? ⟨g, 0, none⟩ = some (.int .i64 k) ∧ wx.cell? ⟨g, 1, none⟩ = some (.int .i64 n) ∧ wx.cell? ⟨g, 2, none⟩ = some (.string tx) ∧ wx.cell? ⟨g, 3, none⟩ = some (.int .i64 (fn : Int)) ∧ wA.heap.size ≤ g ∧ g < wx.heap.size ∧ Below wA.heap.size wA wx)
  case first =>
    go_region_held3 (fun w' => w'.cell? ⟨b, 0, none⟩ = some (.string s) ∧ w'.cell? ⟨b, 1, none⟩ = some (.int .i64 (at' : Int)))
      ((first | (simp [go_sem, c0, c1, lA]; done) | (simp (maxDischargeDepth := 6) [go_sem, c0, c1, lA, lB, n3]; done) | (simp (maxDischargeDepth := 6) [go_sem, hc2, c0, c1, lA, lB, n3]; done)))
      (first
        | (go_at_call 36; refine (HH.out _).mono ?_; rintro e w2 ⟨rfl, hb2⟩; (repeat (with_reducible replace hb2 := undrew hb2)); obtain ⟨hc2, hf2⟩ := bcell hb2; have hz2 := bsize hb2; (try simp at hz2); have n3 : b < w2.heap.size := (by omega)))
    all_goals
      go_wp2_with fail
      go_meet
      refine ⟨_, rfl, ?_, ?_, ?_, ?_, ?_, ?_, (by repeat (first | with_reducible exact Below.refl _ _ | (with_reducible refine Below.setCell ?_ (by first | exact Nat.le_refl _ | omega | (simp; done) | (simp; omega)) _) | (with_reducible refine Below.alloc ?_ (by first | exact Nat.le_refl _ | omega | (simp; done) | (simp; omega)) _) | with_reducible refine Below.drew ?_ | with_reducible refine bel_drewN ?_ _ | (with_reducible refine bel_by (by with_reducible assumption) (by first | exact Nat.le_refl _ | omega | (simp; done) | (simp; omega)) ?_)))⟩
      · first | (simp [go_sem]; done) | (simp (maxDischargeDepth := 6) [go_sem, hc2]; done)
      · first | (simp [go_sem]; done) | (simp (maxDischargeDepth := 6) [go_sem, hc2]; done)
      · first | (simp [go_sem]; done) | (simp (maxDischargeDepth := 6) [go_sem, hc2]; done)
      · first | (simp [go_sem]; done) | (simp (maxDischargeDepth := 6) [go_sem, hc2]; done)
      · first | (simp; done) | (simp; omega) | omega
      · first | (simp; done) | (simp; omega) | omega
  obtain ⟨g, rfl, g0, g1, g2, g3, hg, hgl, hbC⟩ := hcut
  have c0 := (hbC.cell (p := ⟨b, 0, none⟩) lA).trans c0
  have c1 := (hbC.cell (p := ⟨b, 1, none⟩) lA).trans c1
  have c2 := (hbC.cell (p := ⟨b, 2, none⟩) lA).trans c2
  have c3 := (hbC.cell (p := ⟨b, 3, none⟩) lA).trans c3
  have ff : ∀ o, wc.frozen? ⟨b, o, none⟩ = false := fun o => (hbC.frozen (p := ⟨b, o, none⟩) lA).trans (ff o)
  have r0 := (hbC.cell (p := ⟨w.heap.size, 0, none⟩) lR).trans r0
  have r1 := (hbC.cell (p := ⟨w.heap.size, 1, none⟩) lR).trans r1
  have r2 := (hbC.cell (p := ⟨w.heap.size, 2, none⟩) lR).trans r2
  have r3 := (hbC.cell (p := ⟨w.heap.size, 3, none⟩) lR).trans r3
  have rf : ∀ o, wc.frozen? ⟨w.heap.size, o, none⟩ = false := fun o => (hbC.frozen (p := ⟨w.heap.size, o, none⟩) lR).trans (rf o)
  have hzC := hbC.size
  have lC : b < wc.heap.size := by omega
  have m0 : ¬ b = w.heap.size := by omega
  have m1 : ¬ w.heap.size = b := by omega
  have m2 : ¬ g = b := by omega
  have m3 : ¬ b = g := by omega
  have m4 : ¬ g = w.heap.size := by omega
  have m5 : ¬ w.heap.size = g := by omega
  have hbut0 : But b w wc := But.of (HBA.out.trans (hbC.mono (by omega)))
  have HBU := Lib.hid hbut0
  clear hbC hzC hbut0
  have y3 : (k == 3) = false := by simp; omega
  have y4 : (k == 4) = false := by simp; omega
  go_wp2
  have hbut := HBU.out
  refine bodyPost_ret (v := (⟨k, n, tx, fn⟩ : Hd).v) (by simp [results, Tryd.results30, go_sem, hdNo, Hd.v, c0, c1, c2, c3, ff, r0, r1, r2, r3, rf, m0, m1, m2, m3, m4, m5, g0, g1, g2, g3, lC]) rfl ⟨rfl, ⟨?_, ?_, ?_, ?_, fun o => ?_, ?_⟩, (by repeat (first | exact hbut | with_reducible refine But.set ?_ _ _ | (with_reducible refine But.far ?_ (by first | exact Nat.le_refl _ | simp) _)))⟩
  · simp (maxDischargeDepth := 6) [go_sem, c0, c1, c2, c3, ff, r0, r1, r2, r3, rf, m0, m1, m2, m3, m4, m5, lC]
  · simp (maxDischargeDepth := 6) [go_sem, c0, c1, c2, c3, ff, r0, r1, r2, r3, rf, m0, m1, m2, m3, m4, m5, lC]
  · simp (maxDischargeDepth := 6) [go_sem, c0, c1, c2, c3, ff, r0, r1, r2, r3, rf, m0, m1, m2, m3, m4, m5, lC]
  · simp (maxDischargeDepth := 6) [go_sem, c0, c1, c2, c3, ff, r0, r1, r2, r3, rf, m0, m1, m2, m3, m4, m5, lC]
  · simp (maxDischargeDepth := 6) [go_sem, c0, c1, c2, c3, ff, r0, r1, r2, r3, rf, m0, m1, m2, m3, m4, m5, lC]
  · simp (maxDischargeDepth := 6) [go_sem, c0, c1, c2, c3, ff, r0, r1, r2, r3, rf, m0, m1, m2, m3, m4, m5, lC]

/-- a step of a Reader -/
theorem read_any (b : Nat) (r : RSt) (K : Int) (hK : 1 ≤ K ∧ K ≤ 4) (w : World) (hR : RAt w b r) (hs : r.s.size ≤ 4611686018427387904) (ha : r.at' ≤ 9223372036854775807) (ho : r.opn ≤ 32) :
    Calls Tryd.prog 30 #[.pointer (some ⟨b, 0, none⟩), .int .i64 K] w fun e w' => e = .returned (readR r K).2.v ∧ RAt w' b (readR r K).1 ∧ But b w w' := by
  unfold readR
  by_cases he : r.err = 0
  · rw [if_pos he]
    by_cases hk : (headS r.s r.at').kind = K
    · by_cases h3 : K = 3
      · by_cases h32 : r.opn = 32
        · rw [if_pos (Or.inr (Or.inl ⟨h3, h32⟩))]
          exact read_bad3 b r K w hR hs ha he h3 (hk.trans h3) h32
        · rw [if_neg (by omega), if_pos h3]
          exact read_ok3 b r K w hR hs ha he h3 (hk.trans h3) (by omega)
      · by_cases h4 : K = 4
        · by_cases h0 : r.opn = 0
          · rw [if_pos (Or.inr (Or.inr ⟨h4, h0⟩))]
            exact read_bad4 b r K w hR hs ha he h4 (hk.trans h4) h0
          · rw [if_neg (by omega), if_neg h3, if_pos h4]
            exact read_ok4 b r K w hR hs ha he h4 (hk.trans h4) (by omega) ho
        · rw [if_neg (by omega), if_neg h3, if_neg h4]
          exact read_ok12 b r K w hR hs ha he (by omega) hk
    · rw [if_pos (Or.inl hk)]
      exact read_bad1 b r K w hR hs ha he hk
  · rw [if_neg he]
    exact read_err b r K w hR hs ha he
end Go.Proofs.YtljeialaefmbmaaDoor
