/- Contracts of package fraction: Parse, by its ways. -/
import Derived.Test.YtfdalnkdeeminaaDoorRunB
import Derived.Test.YtfdalnkdeeminaaDoorNumI
import Derived.Test.YtfdalnkdeeminaaDoorEgA
set_option linter.unusedSimpArgs false
set_option linter.unusedVariables false
namespace Go.Proofs.YtfdalnkdeeminaaDoor
open Go.RowKit

/-- what Parse calls first -/
def PreP (s r : ByteArray) (neg : Bool) : Prop := ∀ W, Calls Tryd.prog 62 #[.string s, .string ⟨#[45]⟩] W fun e w' => e = .returned (.tuple #[.string r, .bool neg]) ∧ W = w'
def CutP (r f R : ByteArray) (ok : Bool) : Prop := ∀ W, Calls Tryd.prog 63 #[.string r] W fun e w' => e = .returned (.tuple #[.string f, .string R, .bool ok]) ∧ Below W.heap.size W w'

set_option maxHeartbeats 1000000 in
set_option maxRecDepth 100000 in
theorem parse_0 {s r f R : ByteArray} {neg : Bool} (HP : Hid (PreP s r neg)) (HC : Hid (CutP r f R false)) (w : World) :
    Calls Tryd.prog 38 #[.string s] w fun e w' => e = .returned (fracE (0, 0, 2)) ∧ Below w.heap.size w w' := by
  go_enter Tryd.func38, Tryd.ntmps38
  go_wp2_with fail
  refine (HP.out _).mono ?_
  rintro e w1 ⟨rfl, rfl⟩
  go_wp2_with fail
  refine (HC.out _).mono ?_
  rintro e w1 ⟨rfl, hb1⟩
  obtain ⟨hc1, hf1⟩ := bcell hb1
  have hz1 := bsize hb1
  simp at hz1
  have k0 : w.heap.size < w1.heap.size := by omega
  go_wp2
  refine bodyPost_ret (v := fracE (0, 0, 2)) (by simp [results, Tryd.results38, go_sem, hc1, hf1, k0]) rfl ⟨rfl, (by repeat (first | with_reducible exact Below.refl _ _ | (with_reducible refine Below.setCell ?_ (by first | exact Nat.le_refl _ | omega | (simp; done) | (simp; omega)) _) | (with_reducible refine Below.alloc ?_ (by first | exact Nat.le_refl _ | omega | (simp; done) | (simp; omega)) _) | with_reducible refine Below.drew ?_ | with_reducible refine bel_drewN ?_ _ | (with_reducible refine bel_by (by with_reducible assumption) (by first | exact Nat.le_refl _ | omega | (simp; done) | (simp; omega)) ?_)))⟩

set_option maxHeartbeats 1000000 in
set_option maxRecDepth 100000 in
theorem parse_1 {s r f R : ByteArray} {neg : Bool} {a : Int} (HP : Hid (PreP s r neg)) (HC : Hid (CutP r f R true)) (hR : R.toList.isEmpty = true) {t : Int × Int × Int} (HN : Hid (∀ W, Calls Tryd.prog 64 #[.string f] W fun e w' => e = .returned (.int .u64 a) ∧ W = w')) (HD : Hid (∀ W, Calls Tryd.prog 42 #[.bool neg, .int .u64 a, .int .u64 1] W fun e w' => e = .returned (fracE t) ∧ Below W.heap.size W w')) (w : World) :
    Calls Tryd.prog 38 #[.string s] w fun e w' => e = .returned (fracE t) ∧ Below w.heap.size w w' := by
  go_enter Tryd.func38, Tryd.ntmps38
  go_wp2_with fail
  refine (HP.out _).mono ?_
  rintro e w1 ⟨rfl, rfl⟩
  go_wp2_with fail
  refine (HC.out _).mono ?_
  rintro e w1 ⟨rfl, hb1⟩
  obtain ⟨hc1, hf1⟩ := bcell hb1
  have hz1 := bsize hb1
  simp at hz1
  have k0 : w.heap.size < w1.heap.size := by omega
  have r0 : w1.cell? ⟨w.heap.size, 0, none⟩ = some (.int .i64 0) := by simp [go_sem, hc1, k0]
  have r1 : w1.cell? ⟨w.heap.size, 1, none⟩ = some (.int .i64 0) := by simp [go_sem, hc1, k0]
  have f0 : w1.frozen? ⟨w.heap.size, 0, none⟩ = false := by simp [go_sem, hf1, k0]
  have f1 : w1.frozen? ⟨w.heap.size, 1, none⟩ = false := by simp [go_sem, hf1, k0]
  have hbW : Below w.heap.size w w1 := (by repeat (first | with_reducible exact Below.refl _ _ | (with_reducible refine Below.setCell ?_ (by first | exact Nat.le_refl _ | omega | (simp; done) | (simp; omega)) _) | (with_reducible refine Below.alloc ?_ (by first | exact Nat.le_refl _ | omega | (simp; done) | (simp; omega)) _) | with_reducible refine Below.drew ?_ | with_reducible refine bel_drewN ?_ _ | (with_reducible refine bel_by (by with_reducible assumption) (by first | exact Nat.le_refl _ | omega | (simp; done) | (simp; omega)) ?_)))
  clear hc1 hf1 hb1 hz1
  go_wp2_with fail
  refine (HN.out _).mono ?_
  rintro e w2 ⟨rfl, rfl⟩
  go_wp2_with fail
  refine (HD.out _).mono ?_
  rintro e w2 ⟨rfl, hb2⟩
  have hz2 := bsize hb2
  have k2 : w.heap.size < w2.heap.size := by omega
  have p20 := (hb2.cell (p := ⟨w.heap.size, 0, none⟩) k0).trans r0
  have p21 := (hb2.cell (p := ⟨w.heap.size, 1, none⟩) k0).trans r1
  have p22 := (hb2.frozen (p := ⟨w.heap.size, 0, none⟩) k0).trans f0
  have p23 := (hb2.frozen (p := ⟨w.heap.size, 1, none⟩) k0).trans f1
  go_wp2
  refine bodyPost_ret (v := fracE t) (by simp [results, Tryd.results38, go_sem, p20, p21, p22, p23, k2]) rfl ⟨rfl, (by repeat (first | with_reducible exact Below.refl _ _ | (with_reducible refine Below.setCell ?_ (by first | exact Nat.le_refl _ | omega | (simp; done) | (simp; omega)) _) | (with_reducible refine Below.alloc ?_ (by first | exact Nat.le_refl _ | omega | (simp; done) | (simp; omega)) _) | with_reducible refine Below.drew ?_ | with_reducible refine bel_drewN ?_ _ | (with_reducible refine bel_by (by with_reducible assumption) (by first | exact Nat.le_refl _ | omega | (simp; done) | (simp; omega)) ?_)))⟩

set_option maxHeartbeats 1000000 in
set_option maxRecDepth 100000 in
theorem parse_2 {s r f R f2 R2 : ByteArray} {neg : Bool} (HP : Hid (PreP s r neg)) (HC : Hid (CutP r f R true)) (hR : R.toList.isEmpty = false) (h0 : 0 < R.size) (HC2 : Hid (CutP (R.extract 1 R.size) f2 R2 false)) (w : World) :
    Calls Tryd.prog 38 #[.string s] w fun e w' => e = .returned (fracE (0, 0, 2)) ∧ Below w.heap.size w w' := by
  go_enter Tryd.func38, Tryd.ntmps38
  go_wp2_with fail
  refine (HP.out _).mono ?_
  rintro e w1 ⟨rfl, rfl⟩
  go_wp2_with fail
  refine (HC.out _).mono ?_
  rintro e w1 ⟨rfl, hb1⟩
  obtain ⟨hc1, hf1⟩ := bcell hb1
  have hz1 := bsize hb1
  simp at hz1
  have k0 : w.heap.size < w1.heap.size := by omega
  have r0 : w1.cell? ⟨w.heap.size, 0, none⟩ = some (.int .i64 0) := by simp [go_sem, hc1, k0]
  have r1 : w1.cell? ⟨w.heap.size, 1, none⟩ = some (.int .i64 0) := by simp [go_sem, hc1, k0]
  have f0 : w1.frozen? ⟨w.heap.size, 0, none⟩ = false := by simp [go_sem, hf1, k0]
  have f1 : w1.frozen? ⟨w.heap.size, 1, none⟩ = false := by simp [go_sem, hf1, k0]
  have hbW : Below w.heap.size w w1 := (by repeat (first | with_reducible exact Below.refl _ _ | (with_reducible refine Below.setCell ?_ (by first | exact Nat.le_refl _ | omega | (simp; done) | (simp; omega)) _) | (with_reducible refine Below.alloc ?_ (by first | exact Nat.le_refl _ | omega | (simp; done) | (simp; omega)) _) | with_reducible refine Below.drew ?_ | with_reducible refine bel_drewN ?_ _ | (with_reducible refine bel_by (by with_reducible assumption) (by first | exact Nat.le_refl _ | omega | (simp; done) | (simp; omega)) ?_)))
  clear hc1 hf1 hb1 hz1
  go_wp2_with fail
  refine (HC2.out _).mono ?_
  rintro e w2 ⟨rfl, hb2⟩
  have hz2 := bsize hb2
  have k2 : w.heap.size < w2.heap.size := by omega
  have p20 := (hb2.cell (p := ⟨w.heap.size, 0, none⟩) k0).trans r0
  have p21 := (hb2.cell (p := ⟨w.heap.size, 1, none⟩) k0).trans r1
  have p22 := (hb2.frozen (p := ⟨w.heap.size, 0, none⟩) k0).trans f0
  have p23 := (hb2.frozen (p := ⟨w.heap.size, 1, none⟩) k0).trans f1
  have hbV : Below w.heap.size w w2 := (by repeat (first | with_reducible exact Below.refl _ _ | (with_reducible refine Below.setCell ?_ (by first | exact Nat.le_refl _ | omega | (simp; done) | (simp; omega)) _) | (with_reducible refine Below.alloc ?_ (by first | exact Nat.le_refl _ | omega | (simp; done) | (simp; omega)) _) | with_reducible refine Below.drew ?_ | with_reducible refine bel_drewN ?_ _ | (with_reducible refine bel_by (by with_reducible assumption) (by first | exact Nat.le_refl _ | omega | (simp; done) | (simp; omega)) ?_)))
  clear hbW hb2 r0 r1 f0 f1
  go_wp2
  refine bodyPost_ret (v := fracE (0, 0, 2)) (by simp [results, Tryd.results38, go_sem, p20, p21, p22, p23, k2]) rfl ⟨rfl, (by repeat (first | with_reducible exact Below.refl _ _ | (with_reducible refine Below.setCell ?_ (by first | exact Nat.le_refl _ | omega | (simp; done) | (simp; omega)) _) | (with_reducible refine Below.alloc ?_ (by first | exact Nat.le_refl _ | omega | (simp; done) | (simp; omega)) _) | with_reducible refine Below.drew ?_ | with_reducible refine bel_drewN ?_ _ | (with_reducible refine bel_by (by with_reducible assumption) (by first | exact Nat.le_refl _ | omega | (simp; done) | (simp; omega)) ?_)))⟩

set_option maxHeartbeats 1000000 in
set_option maxRecDepth 100000 in
theorem parse_3 {s r f R f2 R2 : ByteArray} {neg : Bool} (HP : Hid (PreP s r neg)) (HC : Hid (CutP r f R true)) (hR : R.toList.isEmpty = false) (h0 : 0 < R.size) (HC2 : Hid (CutP (R.extract 1 R.size) f2 R2 true)) (hR2 : R2.toList.isEmpty = false) (w : World) :
    Calls Tryd.prog 38 #[.string s] w fun e w' => e = .returned (fracE (0, 0, 2)) ∧ Below w.heap.size w w' := by
  go_enter Tryd.func38, Tryd.ntmps38
  go_wp2_with fail
  refine (HP.out _).mono ?_
  rintro e w1 ⟨rfl, rfl⟩
  go_wp2_with fail
  refine (HC.out _).mono ?_
  rintro e w1 ⟨rfl, hb1⟩
  obtain ⟨hc1, hf1⟩ := bcell hb1
  have hz1 := bsize hb1
  simp at hz1
  have k0 : w.heap.size < w1.heap.size := by omega
  have r0 : w1.cell? ⟨w.heap.size, 0, none⟩ = some (.int .i64 0) := by simp [go_sem, hc1, k0]
  have r1 : w1.cell? ⟨w.heap.size, 1, none⟩ = some (.int .i64 0) := by simp [go_sem, hc1, k0]
  have f0 : w1.frozen? ⟨w.heap.size, 0, none⟩ = false := by simp [go_sem, hf1, k0]
  have f1 : w1.frozen? ⟨w.heap.size, 1, none⟩ = false := by simp [go_sem, hf1, k0]
  have hbW : Below w.heap.size w w1 := (by repeat (first | with_reducible exact Below.refl _ _ | (with_reducible refine Below.setCell ?_ (by first | exact Nat.le_refl _ | omega | (simp; done) | (simp; omega)) _) | (with_reducible refine Below.alloc ?_ (by first | exact Nat.le_refl _ | omega | (simp; done) | (simp; omega)) _) | with_reducible refine Below.drew ?_ | with_reducible refine bel_drewN ?_ _ | (with_reducible refine bel_by (by with_reducible assumption) (by first | exact Nat.le_refl _ | omega | (simp; done) | (simp; omega)) ?_)))
  clear hc1 hf1 hb1 hz1
  go_wp2_with fail
  refine (HC2.out _).mono ?_
  rintro e w2 ⟨rfl, hb2⟩
  have hz2 := bsize hb2
  have k2 : w.heap.size < w2.heap.size := by omega
  have p20 := (hb2.cell (p := ⟨w.heap.size, 0, none⟩) k0).trans r0
  have p21 := (hb2.cell (p := ⟨w.heap.size, 1, none⟩) k0).trans r1
  have p22 := (hb2.frozen (p := ⟨w.heap.size, 0, none⟩) k0).trans f0
  have p23 := (hb2.frozen (p := ⟨w.heap.size, 1, none⟩) k0).trans f1
  have hbV : Below w.heap.size w w2 := (by repeat (first | with_reducible exact Below.refl _ _ | (with_reducible refine Below.setCell ?_ (by first | exact Nat.le_refl _ | omega | (simp; done) | (simp; omega)) _) | (with_reducible refine Below.alloc ?_ (by first | exact Nat.le_refl _ | omega | (simp; done) | (simp; omega)) _) | with_reducible refine Below.drew ?_ | with_reducible refine bel_drewN ?_ _ | (with_reducible refine bel_by (by with_reducible assumption) (by first | exact Nat.le_refl _ | omega | (simp; done) | (simp; omega)) ?_)))
  clear hbW hb2 r0 r1 f0 f1
  go_wp2
  refine bodyPost_ret (v := fracE (0, 0, 2)) (by simp [results, Tryd.results38, go_sem, p20, p21, p22, p23, k2]) rfl ⟨rfl, (by repeat (first | with_reducible exact Below.refl _ _ | (with_reducible refine Below.setCell ?_ (by first | exact Nat.le_refl _ | omega | (simp; done) | (simp; omega)) _) | (with_reducible refine Below.alloc ?_ (by first | exact Nat.le_refl _ | omega | (simp; done) | (simp; omega)) _) | with_reducible refine Below.drew ?_ | with_reducible refine bel_drewN ?_ _ | (with_reducible refine bel_by (by with_reducible assumption) (by first | exact Nat.le_refl _ | omega | (simp; done) | (simp; omega)) ?_)))⟩

set_option maxHeartbeats 1000000 in
set_option maxRecDepth 100000 in
theorem parse_4 {s r f R f2 R2 : ByteArray} {neg : Bool} (HP : Hid (PreP s r neg)) (HC : Hid (CutP r f R true)) (hR : R.toList.isEmpty = false) (h0 : 0 < R.size) (HC2 : Hid (CutP (R.extract 1 R.size) f2 R2 true)) (hR2 : R2.toList.isEmpty = true) (hc : (R[0]'h0).toNat = 47) {t : Int × Int × Int} (HD : Hid (∀ W, Calls Tryd.prog 65 #[.bool neg, .string f, .string f2] W fun e w' => e = .returned (fracE t) ∧ Below W.heap.size W w')) (w : World) :
    Calls Tryd.prog 38 #[.string s] w fun e w' => e = .returned (fracE t) ∧ Below w.heap.size w w' := by
  go_enter Tryd.func38, Tryd.ntmps38
  go_wp2_with fail
  refine (HP.out _).mono ?_
  rintro e w1 ⟨rfl, rfl⟩
  go_wp2_with fail
  refine (HC.out _).mono ?_
  rintro e w1 ⟨rfl, hb1⟩
  obtain ⟨hc1, hf1⟩ := bcell hb1
  have hz1 := bsize hb1
  simp at hz1
  have k0 : w.heap.size < w1.heap.size := by omega
  have r0 : w1.cell? ⟨w.heap.size, 0, none⟩ = some (.int .i64 0) := by simp [go_sem, hc1, k0]
  have r1 : w1.cell? ⟨w.heap.size, 1, none⟩ = some (.int .i64 0) := by simp [go_sem, hc1, k0]
  have f0 : w1.frozen? ⟨w.heap.size, 0, none⟩ = false := by simp [go_sem, hf1, k0]
  have f1 : w1.frozen? ⟨w.heap.size, 1, none⟩ = false := by simp [go_sem, hf1, k0]
  have hbW : Below w.heap.size w w1 := (by repeat (first | with_reducible exact Below.refl _ _ | (with_reducible refine Below.setCell ?_ (by first | exact Nat.le_refl _ | omega | (simp; done) | (simp; omega)) _) | (with_reducible refine Below.alloc ?_ (by first | exact Nat.le_refl _ | omega | (simp; done) | (simp; omega)) _) | with_reducible refine Below.drew ?_ | with_reducible refine bel_drewN ?_ _ | (with_reducible refine bel_by (by with_reducible assumption) (by first | exact Nat.le_refl _ | omega | (simp; done) | (simp; omega)) ?_)))
  clear hc1 hf1 hb1 hz1
  go_wp2_with fail
  refine (HC2.out _).mono ?_
  rintro e w2 ⟨rfl, hb2⟩
  have hz2 := bsize hb2
  have k2 : w.heap.size < w2.heap.size := by omega
  have p20 := (hb2.cell (p := ⟨w.heap.size, 0, none⟩) k0).trans r0
  have p21 := (hb2.cell (p := ⟨w.heap.size, 1, none⟩) k0).trans r1
  have p22 := (hb2.frozen (p := ⟨w.heap.size, 0, none⟩) k0).trans f0
  have p23 := (hb2.frozen (p := ⟨w.heap.size, 1, none⟩) k0).trans f1
  have hbV : Below w.heap.size w w2 := (by repeat (first | with_reducible exact Below.refl _ _ | (with_reducible refine Below.setCell ?_ (by first | exact Nat.le_refl _ | omega | (simp; done) | (simp; omega)) _) | (with_reducible refine Below.alloc ?_ (by first | exact Nat.le_refl _ | omega | (simp; done) | (simp; omega)) _) | with_reducible refine Below.drew ?_ | with_reducible refine bel_drewN ?_ _ | (with_reducible refine bel_by (by with_reducible assumption) (by first | exact Nat.le_refl _ | omega | (simp; done) | (simp; omega)) ?_)))
  clear hbW hb2 r0 r1 f0 f1
  go_wp2_with fail
  refine (HD.out _).mono ?_
  rintro e w3 ⟨rfl, hb3⟩
  have hz3 := bsize hb3
  have k3 : w.heap.size < w3.heap.size := by omega
  have p30 := (hb3.cell (p := ⟨w.heap.size, 0, none⟩) k2).trans p20
  have p31 := (hb3.cell (p := ⟨w.heap.size, 1, none⟩) k2).trans p21
  have p32 := (hb3.frozen (p := ⟨w.heap.size, 0, none⟩) k2).trans p22
  have p33 := (hb3.frozen (p := ⟨w.heap.size, 1, none⟩) k2).trans p23
  go_wp2
  refine bodyPost_ret (v := fracE t) (by simp [results, Tryd.results38, go_sem, p30, p31, p32, p33, k3]) rfl ⟨rfl, (by repeat (first | with_reducible exact Below.refl _ _ | (with_reducible refine Below.setCell ?_ (by first | exact Nat.le_refl _ | omega | (simp; done) | (simp; omega)) _) | (with_reducible refine Below.alloc ?_ (by first | exact Nat.le_refl _ | omega | (simp; done) | (simp; omega)) _) | with_reducible refine Below.drew ?_ | with_reducible refine bel_drewN ?_ _ | (with_reducible refine bel_by (by with_reducible assumption) (by first | exact Nat.le_refl _ | omega | (simp; done) | (simp; omega)) ?_)))⟩

set_option maxHeartbeats 1000000 in
set_option maxRecDepth 100000 in
theorem parse_5 {s r f R f2 R2 : ByteArray} {neg : Bool} (HP : Hid (PreP s r neg)) (HC : Hid (CutP r f R true)) (hR : R.toList.isEmpty = false) (h0 : 0 < R.size) (HC2 : Hid (CutP (R.extract 1 R.size) f2 R2 true)) (hR2 : R2.toList.isEmpty = true) (hc : (R[0]'h0).toNat = 46) {t : Int × Int × Int} (HD : Hid (∀ W, Calls Tryd.prog 66 #[.bool neg, .string f, .string f2] W fun e w' => e = .returned (fracE t) ∧ Below W.heap.size W w')) (w : World) :
    Calls Tryd.prog 38 #[.string s] w fun e w' => e = .returned (fracE t) ∧ Below w.heap.size w w' := by
  go_enter Tryd.func38, Tryd.ntmps38
  go_wp2_with fail
  refine (HP.out _).mono ?_
  rintro e w1 ⟨rfl, rfl⟩
  go_wp2_with fail
  refine (HC.out _).mono ?_
  rintro e w1 ⟨rfl, hb1⟩
  obtain ⟨hc1, hf1⟩ := bcell hb1
  have hz1 := bsize hb1
  simp at hz1
  have k0 : w.heap.size < w1.heap.size := by omega
  have r0 : w1.cell? ⟨w.heap.size, 0, none⟩ = some (.int .i64 0) := by simp [go_sem, hc1, k0]
  have r1 : w1.cell? ⟨w.heap.size, 1, none⟩ = some (.int .i64 0) := by simp [go_sem, hc1, k0]
  have f0 : w1.frozen? ⟨w.heap.size, 0, none⟩ = false := by simp [go_sem, hf1, k0]
  have f1 : w1.frozen? ⟨w.heap.size, 1, none⟩ = false := by simp [go_sem, hf1, k0]
  have hbW : Below w.heap.size w w1 := (by repeat (first | with_reducible exact Below.refl _ _ | (with_reducible refine Below.setCell ?_ (by first | exact Nat.le_refl _ | omega | (simp; done) | (simp; omega)) _) | (with_reducible refine Below.alloc ?_ (by first | exact Nat.le_refl _ | omega | (simp; done) | (simp; omega)) _) | with_reducible refine Below.drew ?_ | with_reducible refine bel_drewN ?_ _ | (with_reducible refine bel_by (by with_reducible assumption) (by first | exact Nat.le_refl _ | omega | (simp; done) | (simp; omega)) ?_)))
  clear hc1 hf1 hb1 hz1
  go_wp2_with fail
  refine (HC2.out _).mono ?_
  rintro e w2 ⟨rfl, hb2⟩
  have hz2 := bsize hb2
  have k2 : w.heap.size < w2.heap.size := by omega
  have p20 := (hb2.cell (p := ⟨w.heap.size, 0, none⟩) k0).trans r0
  have p21 := (hb2.cell (p := ⟨w.heap.size, 1, none⟩) k0).trans r1
  have p22 := (hb2.frozen (p := ⟨w.heap.size, 0, none⟩) k0).trans f0
  have p23 := (hb2.frozen (p := ⟨w.heap.size, 1, none⟩) k0).trans f1
  have hbV : Below w.heap.size w w2 := (by repeat (first | with_reducible exact Below.refl _ _ | (with_reducible refine Below.setCell ?_ (by first | exact Nat.le_refl _ | omega | (simp; done) | (simp; omega)) _) | (with_reducible refine Below.alloc ?_ (by first | exact Nat.le_refl _ | omega | (simp; done) | (simp; omega)) _) | with_reducible refine Below.drew ?_ | with_reducible refine bel_drewN ?_ _ | (with_reducible refine bel_by (by with_reducible assumption) (by first | exact Nat.le_refl _ | omega | (simp; done) | (simp; omega)) ?_)))
  clear hbW hb2 r0 r1 f0 f1
  go_wp2_with fail
  refine (HD.out _).mono ?_
  rintro e w3 ⟨rfl, hb3⟩
  have hz3 := bsize hb3
  have k3 : w.heap.size < w3.heap.size := by omega
  have p30 := (hb3.cell (p := ⟨w.heap.size, 0, none⟩) k2).trans p20
  have p31 := (hb3.cell (p := ⟨w.heap.size, 1, none⟩) k2).trans p21
  have p32 := (hb3.frozen (p := ⟨w.heap.size, 0, none⟩) k2).trans p22
  have p33 := (hb3.frozen (p := ⟨w.heap.size, 1, none⟩) k2).trans p23
  go_wp2
  refine bodyPost_ret (v := fracE t) (by simp [results, Tryd.results38, go_sem, p30, p31, p32, p33, k3]) rfl ⟨rfl, (by repeat (first | with_reducible exact Below.refl _ _ | (with_reducible refine Below.setCell ?_ (by first | exact Nat.le_refl _ | omega | (simp; done) | (simp; omega)) _) | (with_reducible refine Below.alloc ?_ (by first | exact Nat.le_refl _ | omega | (simp; done) | (simp; omega)) _) | with_reducible refine Below.drew ?_ | with_reducible refine bel_drewN ?_ _ | (with_reducible refine bel_by (by with_reducible assumption) (by first | exact Nat.le_refl _ | omega | (simp; done) | (simp; omega)) ?_)))⟩

set_option maxHeartbeats 1000000 in
set_option maxRecDepth 100000 in
theorem parse_6 {s r f R f2 R2 : ByteArray} {neg : Bool} (HP : Hid (PreP s r neg)) (HC : Hid (CutP r f R true)) (hR : R.toList.isEmpty = false) (h0 : 0 < R.size) (HC2 : Hid (CutP (R.extract 1 R.size) f2 R2 true)) (hR2 : R2.toList.isEmpty = true) (hc : ¬ ((R[0]'h0).toNat : Int) = 47) (hc' : ¬ ((R[0]'h0).toNat : Int) = 46) (w : World) :
    Calls Tryd.prog 38 #[.string s] w fun e w' => e = .returned (fracE (0, 0, 2)) ∧ Below w.heap.size w w' := by
  go_enter Tryd.func38, Tryd.ntmps38
  go_wp2_with fail
  refine (HP.out _).mono ?_
  rintro e w1 ⟨rfl, rfl⟩
  go_wp2_with fail
  refine (HC.out _).mono ?_
  rintro e w1 ⟨rfl, hb1⟩
  obtain ⟨hc1, hf1⟩ := bcell hb1
  have hz1 := bsize hb1
  simp at hz1
  have k0 : w.heap.size < w1.heap.size := by omega
  have r0 : w1.cell? ⟨w.heap.size, 0, none⟩ = some (.int .i64 0) := by simp [go_sem, hc1, k0]
  have r1 : w1.cell? ⟨w.heap.size, 1, none⟩ = some (.int .i64 0) := by simp [go_sem, hc1, k0]
  have f0 : w1.frozen? ⟨w.heap.size, 0, none⟩ = false := by simp [go_sem, hf1, k0]
  have f1 : w1.frozen? ⟨w.heap.size, 1, none⟩ = false := by simp [go_sem, hf1, k0]
  have hbW : Below w.heap.size w w1 := (by repeat (first | with_reducible exact Below.refl _ _ | (with_reducible refine Below.setCell ?_ (by first | exact Nat.le_refl _ | omega | (simp; done) | (simp; omega)) _) | (with_reducible refine Below.alloc ?_ (by first | exact Nat.le_refl _ | omega | (simp; done) | (simp; omega)) _) | with_reducible refine Below.drew ?_ | with_reducible refine bel_drewN ?_ _ | (with_reducible refine bel_by (by with_reducible assumption) (by first | exact Nat.le_refl _ | omega | (simp; done) | (simp; omega)) ?_)))
  clear hc1 hf1 hb1 hz1
  go_wp2_with fail
  refine (HC2.out _).mono ?_
  rintro e w2 ⟨rfl, hb2⟩
  have hz2 := bsize hb2
  have k2 : w.heap.size < w2.heap.size := by omega
  have p20 := (hb2.cell (p := ⟨w.heap.size, 0, none⟩) k0).trans r0
  have p21 := (hb2.cell (p := ⟨w.heap.size, 1, none⟩) k0).trans r1
  have p22 := (hb2.frozen (p := ⟨w.heap.size, 0, none⟩) k0).trans f0
  have p23 := (hb2.frozen (p := ⟨w.heap.size, 1, none⟩) k0).trans f1
  have hbV : Below w.heap.size w w2 := (by repeat (first | with_reducible exact Below.refl _ _ | (with_reducible refine Below.setCell ?_ (by first | exact Nat.le_refl _ | omega | (simp; done) | (simp; omega)) _) | (with_reducible refine Below.alloc ?_ (by first | exact Nat.le_refl _ | omega | (simp; done) | (simp; omega)) _) | with_reducible refine Below.drew ?_ | with_reducible refine bel_drewN ?_ _ | (with_reducible refine bel_by (by with_reducible assumption) (by first | exact Nat.le_refl _ | omega | (simp; done) | (simp; omega)) ?_)))
  clear hbW hb2 r0 r1 f0 f1
  go_wp2
  refine bodyPost_ret (v := fracE (0, 0, 2)) (by simp [results, Tryd.results38, go_sem, p20, p21, p22, p23, k2]) rfl ⟨rfl, (by repeat (first | with_reducible exact Below.refl _ _ | (with_reducible refine Below.setCell ?_ (by first | exact Nat.le_refl _ | omega | (simp; done) | (simp; omega)) _) | (with_reducible refine Below.alloc ?_ (by first | exact Nat.le_refl _ | omega | (simp; done) | (simp; omega)) _) | with_reducible refine Below.drew ?_ | with_reducible refine bel_drewN ?_ _ | (with_reducible refine bel_by (by with_reducible assumption) (by first | exact Nat.le_refl _ | omega | (simp; done) | (simp; omega)) ?_)))⟩

end Go.Proofs.YtfdalnkdeeminaaDoor
