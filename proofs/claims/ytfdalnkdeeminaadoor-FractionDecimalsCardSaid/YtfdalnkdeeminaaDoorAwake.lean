/- The examples of the chapter on fractions, fourth part: awake. -/
import Derived.Test.YtfdalnkdeeminaaDoorEgC
set_option linter.unusedSimpArgs false
set_option linter.unusedVariables false
namespace Go.Proofs.YtfdalnkdeeminaaDoor
open Go.RowKit

/-- salchowlaw01.f -/
theorem f_any (n d : Int) (w : World) : Calls Tryd.prog 16 #[.int .i64 n, .int .i64 d] w fun e w' => e = .returned (.agg #[.int .i64 n, .int .i64 d]) ∧ w.alloc (.cells #[.int .i64 n, .int .i64 d] 23) = w' := by
  go_enter Tryd.func16, Tryd.ntmps16
  go_wp2
  simp [bodyPost, results, Tryd.results16, go_sem]

theorem eg_text' (w : World) (ht : TabW w) : Calls Tryd.prog 40 #[.agg #[.int .i64 (-3), .int .i64 2]] w fun e w' => e = .returned (.string ⟨#[45, 51, 47, 50]⟩) ∧ Below w.heap.size w w' := eg_text w ht

set_option maxHeartbeats 4000000 in
set_option maxRecDepth 100000 in
theorem awake_any (w : World) (ht : TabW w) : Calls Tryd.prog 14 #[] w fun e w' => e = .returned (.bool true) ∧ Below w.heap.size w w' := by
  have HT := Lib.hid ht
  clear ht
  go_enter Tryd.func14, Tryd.ntmps14
  go_wp2_with (first | (go_at_call 16; refine (f_any _ _ _).mono ?_; rintro e wf ⟨rfl, rfl⟩))
  refine (eg_make _).mono ?_
  rintro e w1 ⟨rfl, hb⟩
  have hz := bsize hb
  try simp at hz
  have hB := hb
  obtain ⟨hc, -⟩ := bcell hb
  have HB1 := Lib.hid hB
  clear hc hb hz hB
  go_wp2_with (first | (go_at_call 16; refine (f_any _ _ _).mono ?_; rintro e wf ⟨rfl, rfl⟩))
  refine (eg_add1 _).mono ?_
  rintro e w2 ⟨rfl, hb⟩
  have hz := bsize hb
  try simp at hz
  have hK : Below w1.heap.size w1 w2 := (by repeat (first | with_reducible exact Below.refl _ _ | (with_reducible refine Below.setCell ?_ (by first | exact Nat.le_refl _ | omega | (simp; done) | (simp; omega)) _) | (with_reducible refine Below.alloc ?_ (by first | exact Nat.le_refl _ | omega | (simp; done) | (simp; omega)) _) | with_reducible refine Below.drew ?_ | with_reducible refine bel_drewN ?_ _ | (with_reducible refine bel_by (by with_reducible assumption) (by first | exact Nat.le_refl _ | omega | (simp; done) | (simp; omega)) ?_)))
  have hB0 := HB1.out
  have hzz := hB0.size
  have hB : Below w.heap.size w w2 := hB0.trans (hK.mono hzz)
  clear hB0 hzz
  obtain ⟨hc, -⟩ := bcell hb
  have d1_0 : w2.cell? ⟨w1.heap.size, 0, none⟩ = some (.int .i64 (-3)) := (hc _ _ (by first | assumption | (simp; done) | (simp; omega))).trans (by first | assumption | (simp [go_sem]; done) | (simp [go_sem]; omega))
  have d1_1 : w2.cell? ⟨w1.heap.size, 1, none⟩ = some (.int .i64 (2)) := (hc _ _ (by first | assumption | (simp; done) | (simp; omega))).trans (by first | assumption | (simp [go_sem]; done) | (simp [go_sem]; omega))
  have r1 : w1.heap.size < w2.heap.size := by omega
  have c1_0 := d1_0
  have c1_1 := d1_1
  have s1 := r1
  clear d1_0 d1_1 r1
  have HB2 := Lib.hid hB
  clear hc hb hz hB hK HB1
  go_wp2_with (first | (go_at_call 16; refine (f_any _ _ _).mono ?_; rintro e wf ⟨rfl, rfl⟩))
  refine (eg_mul _).mono ?_
  rintro e w3 ⟨rfl, hb⟩
  have hz := bsize hb
  try simp at hz
  have hK : Below w2.heap.size w2 w3 := (by repeat (first | with_reducible exact Below.refl _ _ | (with_reducible refine Below.setCell ?_ (by first | exact Nat.le_refl _ | omega | (simp; done) | (simp; omega)) _) | (with_reducible refine Below.alloc ?_ (by first | exact Nat.le_refl _ | omega | (simp; done) | (simp; omega)) _) | with_reducible refine Below.drew ?_ | with_reducible refine bel_drewN ?_ _ | (with_reducible refine bel_by (by with_reducible assumption) (by first | exact Nat.le_refl _ | omega | (simp; done) | (simp; omega)) ?_)))
  have hB0 := HB2.out
  have hzz := hB0.size
  have hB : Below w.heap.size w w3 := hB0.trans (hK.mono hzz)
  clear hB0 hzz
  obtain ⟨hc, -⟩ := bcell hb
  have d1_0 : w3.cell? ⟨w1.heap.size, 0, none⟩ = some (.int .i64 (-3)) := (hK.cell (p := ⟨w1.heap.size, 0, none⟩) s1).trans c1_0
  have d1_1 : w3.cell? ⟨w1.heap.size, 1, none⟩ = some (.int .i64 (2)) := (hK.cell (p := ⟨w1.heap.size, 1, none⟩) s1).trans c1_1
  have r1 : w1.heap.size < w3.heap.size := by omega
  have d2_0 : w3.cell? ⟨w2.heap.size, 0, none⟩ = some (.int .i64 (1)) := (hc _ _ (by first | assumption | (simp; done) | (simp; omega))).trans (by first | assumption | (simp [go_sem, c1_0, c1_1, s1]; done) | (simp [go_sem, c1_0, c1_1, s1]; omega))
  have d2_1 : w3.cell? ⟨w2.heap.size, 1, none⟩ = some (.int .i64 (2)) := (hc _ _ (by first | assumption | (simp; done) | (simp; omega))).trans (by first | assumption | (simp [go_sem, c1_0, c1_1, s1]; done) | (simp [go_sem, c1_0, c1_1, s1]; omega))
  have r2 : w2.heap.size < w3.heap.size := by omega
  clear c1_0 c1_1 s1
  have c1_0 := d1_0
  have c1_1 := d1_1
  have s1 := r1
  clear d1_0 d1_1 r1
  have c2_0 := d2_0
  have c2_1 := d2_1
  have s2 := r2
  clear d2_0 d2_1 r2
  have HB3 := Lib.hid hB
  clear hc hb hz hB hK HB2
  go_wp2_with (first | (go_at_call 16; refine (f_any _ _ _).mono ?_; rintro e wf ⟨rfl, rfl⟩))
  refine (eg_add2 _).mono ?_
  rintro e w4 ⟨rfl, hb⟩
  have hz := bsize hb
  try simp at hz
  have hK : Below w3.heap.size w3 w4 := (by repeat (first | with_reducible exact Below.refl _ _ | (with_reducible refine Below.setCell ?_ (by first | exact Nat.le_refl _ | omega | (simp; done) | (simp; omega)) _) | (with_reducible refine Below.alloc ?_ (by first | exact Nat.le_refl _ | omega | (simp; done) | (simp; omega)) _) | with_reducible refine Below.drew ?_ | with_reducible refine bel_drewN ?_ _ | (with_reducible refine bel_by (by with_reducible assumption) (by first | exact Nat.le_refl _ | omega | (simp; done) | (simp; omega)) ?_)))
  have hB0 := HB3.out
  have hzz := hB0.size
  have hB : Below w.heap.size w w4 := hB0.trans (hK.mono hzz)
  clear hB0 hzz
  obtain ⟨hc, -⟩ := bcell hb
  have d1_0 : w4.cell? ⟨w1.heap.size, 0, none⟩ = some (.int .i64 (-3)) := (hK.cell (p := ⟨w1.heap.size, 0, none⟩) s1).trans c1_0
  have d1_1 : w4.cell? ⟨w1.heap.size, 1, none⟩ = some (.int .i64 (2)) := (hK.cell (p := ⟨w1.heap.size, 1, none⟩) s1).trans c1_1
  have r1 : w1.heap.size < w4.heap.size := by omega
  have d2_0 : w4.cell? ⟨w2.heap.size, 0, none⟩ = some (.int .i64 (1)) := (hK.cell (p := ⟨w2.heap.size, 0, none⟩) s2).trans c2_0
  have d2_1 : w4.cell? ⟨w2.heap.size, 1, none⟩ = some (.int .i64 (2)) := (hK.cell (p := ⟨w2.heap.size, 1, none⟩) s2).trans c2_1
  have r2 : w2.heap.size < w4.heap.size := by omega
  have d3_0 : w4.cell? ⟨w3.heap.size, 0, none⟩ = some (.int .i64 (3)) := (hc _ _ (by first | assumption | (simp; done) | (simp; omega))).trans (by first | assumption | (simp [go_sem, c1_0, c1_1, s1, c2_0, c2_1, s2]; done) | (simp [go_sem, c1_0, c1_1, s1, c2_0, c2_1, s2]; omega))
  have d3_1 : w4.cell? ⟨w3.heap.size, 1, none⟩ = some (.int .i64 (2)) := (hc _ _ (by first | assumption | (simp; done) | (simp; omega))).trans (by first | assumption | (simp [go_sem, c1_0, c1_1, s1, c2_0, c2_1, s2]; done) | (simp [go_sem, c1_0, c1_1, s1, c2_0, c2_1, s2]; omega))
  have r3 : w3.heap.size < w4.heap.size := by omega
  clear c1_0 c1_1 s1
  clear c2_0 c2_1 s2
  have c1_0 := d1_0
  have c1_1 := d1_1
  have s1 := r1
  clear d1_0 d1_1 r1
  have c2_0 := d2_0
  have c2_1 := d2_1
  have s2 := r2
  clear d2_0 d2_1 r2
  have c3_0 := d3_0
  have c3_1 := d3_1
  have s3 := r3
  clear d3_0 d3_1 r3
  have HB4 := Lib.hid hB
  clear hc hb hz hB hK HB3
  go_wp2_with (first | (go_at_call 16; refine (f_any _ _ _).mono ?_; rintro e wf ⟨rfl, rfl⟩))
  refine (eg_add3 _).mono ?_
  rintro e w5 ⟨rfl, hb⟩
  have hz := bsize hb
  try simp at hz
  have hK : Below w4.heap.size w4 w5 := (by repeat (first | with_reducible exact Below.refl _ _ | (with_reducible refine Below.setCell ?_ (by first | exact Nat.le_refl _ | omega | (simp; done) | (simp; omega)) _) | (with_reducible refine Below.alloc ?_ (by first | exact Nat.le_refl _ | omega | (simp; done) | (simp; omega)) _) | with_reducible refine Below.drew ?_ | with_reducible refine bel_drewN ?_ _ | (with_reducible refine bel_by (by with_reducible assumption) (by first | exact Nat.le_refl _ | omega | (simp; done) | (simp; omega)) ?_)))
  have hB0 := HB4.out
  have hzz := hB0.size
  have hB : Below w.heap.size w w5 := hB0.trans (hK.mono hzz)
  clear hB0 hzz
  obtain ⟨hc, -⟩ := bcell hb
  have d1_0 : w5.cell? ⟨w1.heap.size, 0, none⟩ = some (.int .i64 (-3)) := (hK.cell (p := ⟨w1.heap.size, 0, none⟩) s1).trans c1_0
  have d1_1 : w5.cell? ⟨w1.heap.size, 1, none⟩ = some (.int .i64 (2)) := (hK.cell (p := ⟨w1.heap.size, 1, none⟩) s1).trans c1_1
  have r1 : w1.heap.size < w5.heap.size := by omega
  have d2_0 : w5.cell? ⟨w2.heap.size, 0, none⟩ = some (.int .i64 (1)) := (hK.cell (p := ⟨w2.heap.size, 0, none⟩) s2).trans c2_0
  have d2_1 : w5.cell? ⟨w2.heap.size, 1, none⟩ = some (.int .i64 (2)) := (hK.cell (p := ⟨w2.heap.size, 1, none⟩) s2).trans c2_1
  have r2 : w2.heap.size < w5.heap.size := by omega
  have d3_0 : w5.cell? ⟨w3.heap.size, 0, none⟩ = some (.int .i64 (3)) := (hK.cell (p := ⟨w3.heap.size, 0, none⟩) s3).trans c3_0
  have d3_1 : w5.cell? ⟨w3.heap.size, 1, none⟩ = some (.int .i64 (2)) := (hK.cell (p := ⟨w3.heap.size, 1, none⟩) s3).trans c3_1
  have r3 : w3.heap.size < w5.heap.size := by omega
  have d4_0 : w5.cell? ⟨w4.heap.size, 0, none⟩ = some (.int .i64 (1)) := (hc _ _ (by first | assumption | (simp; done) | (simp; omega))).trans (by first | assumption | (simp [go_sem, c1_0, c1_1, s1, c2_0, c2_1, s2, c3_0, c3_1, s3]; done) | (simp [go_sem, c1_0, c1_1, s1, c2_0, c2_1, s2, c3_0, c3_1, s3]; omega))
  have d4_1 : w5.cell? ⟨w4.heap.size, 1, none⟩ = some (.int .i64 (1)) := (hc _ _ (by first | assumption | (simp; done) | (simp; omega))).trans (by first | assumption | (simp [go_sem, c1_0, c1_1, s1, c2_0, c2_1, s2, c3_0, c3_1, s3]; done) | (simp [go_sem, c1_0, c1_1, s1, c2_0, c2_1, s2, c3_0, c3_1, s3]; omega))
  have r4 : w4.heap.size < w5.heap.size := by omega
  clear c1_0 c1_1 s1
  clear c2_0 c2_1 s2
  clear c3_0 c3_1 s3
  have c1_0 := d1_0
  have c1_1 := d1_1
  have s1 := r1
  clear d1_0 d1_1 r1
  have c2_0 := d2_0
  have c2_1 := d2_1
  have s2 := r2
  clear d2_0 d2_1 r2
  have c3_0 := d3_0
  have c3_1 := d3_1
  have s3 := r3
  clear d3_0 d3_1 r3
  have c4_0 := d4_0
  have c4_1 := d4_1
  have s4 := r4
  clear d4_0 d4_1 r4
  have HB5 := Lib.hid hB
  clear hc hb hz hB hK HB4
  go_wp2_with (first | (go_at_call 16; refine (f_any _ _ _).mono ?_; rintro e wf ⟨rfl, rfl⟩))
  refine (eg_round _).mono ?_
  rintro e w6 ⟨rfl, hb⟩
  have hz := bsize hb
  try simp at hz
  have hK : Below w5.heap.size w5 w6 := (by repeat (first | with_reducible exact Below.refl _ _ | (with_reducible refine Below.setCell ?_ (by first | exact Nat.le_refl _ | omega | (simp; done) | (simp; omega)) _) | (with_reducible refine Below.alloc ?_ (by first | exact Nat.le_refl _ | omega | (simp; done) | (simp; omega)) _) | with_reducible refine Below.drew ?_ | with_reducible refine bel_drewN ?_ _ | (with_reducible refine bel_by (by with_reducible assumption) (by first | exact Nat.le_refl _ | omega | (simp; done) | (simp; omega)) ?_)))
  have hB0 := HB5.out
  have hzz := hB0.size
  have hB : Below w.heap.size w w6 := hB0.trans (hK.mono hzz)
  clear hB0 hzz
  obtain ⟨hc, -⟩ := bcell hb
  have d1_0 : w6.cell? ⟨w1.heap.size, 0, none⟩ = some (.int .i64 (-3)) := (hK.cell (p := ⟨w1.heap.size, 0, none⟩) s1).trans c1_0
  have d1_1 : w6.cell? ⟨w1.heap.size, 1, none⟩ = some (.int .i64 (2)) := (hK.cell (p := ⟨w1.heap.size, 1, none⟩) s1).trans c1_1
  have r1 : w1.heap.size < w6.heap.size := by omega
  have d2_0 : w6.cell? ⟨w2.heap.size, 0, none⟩ = some (.int .i64 (1)) := (hK.cell (p := ⟨w2.heap.size, 0, none⟩) s2).trans c2_0
  have d2_1 : w6.cell? ⟨w2.heap.size, 1, none⟩ = some (.int .i64 (2)) := (hK.cell (p := ⟨w2.heap.size, 1, none⟩) s2).trans c2_1
  have r2 : w2.heap.size < w6.heap.size := by omega
  have d3_0 : w6.cell? ⟨w3.heap.size, 0, none⟩ = some (.int .i64 (3)) := (hK.cell (p := ⟨w3.heap.size, 0, none⟩) s3).trans c3_0
  have d3_1 : w6.cell? ⟨w3.heap.size, 1, none⟩ = some (.int .i64 (2)) := (hK.cell (p := ⟨w3.heap.size, 1, none⟩) s3).trans c3_1
  have r3 : w3.heap.size < w6.heap.size := by omega
  have d4_0 : w6.cell? ⟨w4.heap.size, 0, none⟩ = some (.int .i64 (1)) := (hK.cell (p := ⟨w4.heap.size, 0, none⟩) s4).trans c4_0
  have d4_1 : w6.cell? ⟨w4.heap.size, 1, none⟩ = some (.int .i64 (1)) := (hK.cell (p := ⟨w4.heap.size, 1, none⟩) s4).trans c4_1
  have r4 : w4.heap.size < w6.heap.size := by omega
  clear c1_0 c1_1 s1
  clear c2_0 c2_1 s2
  clear c3_0 c3_1 s3
  clear c4_0 c4_1 s4
  have c1_0 := d1_0
  have c1_1 := d1_1
  have s1 := r1
  clear d1_0 d1_1 r1
  have c2_0 := d2_0
  have c2_1 := d2_1
  have s2 := r2
  clear d2_0 d2_1 r2
  have c3_0 := d3_0
  have c3_1 := d3_1
  have s3 := r3
  clear d3_0 d3_1 r3
  have c4_0 := d4_0
  have c4_1 := d4_1
  have s4 := r4
  clear d4_0 d4_1 r4
  have HB6 := Lib.hid hB
  clear hc hb hz hB hK HB5
  go_wp2_with (first | (go_at_call 16; refine (f_any _ _ _).mono ?_; rintro e wf ⟨rfl, rfl⟩))
  refine (eg_dec _).mono ?_
  rintro e w7 ⟨rfl, hb⟩
  have hz := bsize hb
  try simp at hz
  have hK : Below w6.heap.size w6 w7 := (by repeat (first | with_reducible exact Below.refl _ _ | (with_reducible refine Below.setCell ?_ (by first | exact Nat.le_refl _ | omega | (simp; done) | (simp; omega)) _) | (with_reducible refine Below.alloc ?_ (by first | exact Nat.le_refl _ | omega | (simp; done) | (simp; omega)) _) | with_reducible refine Below.drew ?_ | with_reducible refine bel_drewN ?_ _ | (with_reducible refine bel_by (by with_reducible assumption) (by first | exact Nat.le_refl _ | omega | (simp; done) | (simp; omega)) ?_)))
  have hB0 := HB6.out
  have hzz := hB0.size
  have hB : Below w.heap.size w w7 := hB0.trans (hK.mono hzz)
  clear hB0 hzz
  obtain ⟨hc, -⟩ := bcell hb
  have d1_0 : w7.cell? ⟨w1.heap.size, 0, none⟩ = some (.int .i64 (-3)) := (hK.cell (p := ⟨w1.heap.size, 0, none⟩) s1).trans c1_0
  have d1_1 : w7.cell? ⟨w1.heap.size, 1, none⟩ = some (.int .i64 (2)) := (hK.cell (p := ⟨w1.heap.size, 1, none⟩) s1).trans c1_1
  have r1 : w1.heap.size < w7.heap.size := by omega
  have d2_0 : w7.cell? ⟨w2.heap.size, 0, none⟩ = some (.int .i64 (1)) := (hK.cell (p := ⟨w2.heap.size, 0, none⟩) s2).trans c2_0
  have d2_1 : w7.cell? ⟨w2.heap.size, 1, none⟩ = some (.int .i64 (2)) := (hK.cell (p := ⟨w2.heap.size, 1, none⟩) s2).trans c2_1
  have r2 : w2.heap.size < w7.heap.size := by omega
  have d3_0 : w7.cell? ⟨w3.heap.size, 0, none⟩ = some (.int .i64 (3)) := (hK.cell (p := ⟨w3.heap.size, 0, none⟩) s3).trans c3_0
  have d3_1 : w7.cell? ⟨w3.heap.size, 1, none⟩ = some (.int .i64 (2)) := (hK.cell (p := ⟨w3.heap.size, 1, none⟩) s3).trans c3_1
  have r3 : w3.heap.size < w7.heap.size := by omega
  have d4_0 : w7.cell? ⟨w4.heap.size, 0, none⟩ = some (.int .i64 (1)) := (hK.cell (p := ⟨w4.heap.size, 0, none⟩) s4).trans c4_0
  have d4_1 : w7.cell? ⟨w4.heap.size, 1, none⟩ = some (.int .i64 (1)) := (hK.cell (p := ⟨w4.heap.size, 1, none⟩) s4).trans c4_1
  have r4 : w4.heap.size < w7.heap.size := by omega
  clear c1_0 c1_1 s1
  clear c2_0 c2_1 s2
  clear c3_0 c3_1 s3
  clear c4_0 c4_1 s4
  have c1_0 := d1_0
  have c1_1 := d1_1
  have s1 := r1
  clear d1_0 d1_1 r1
  have c2_0 := d2_0
  have c2_1 := d2_1
  have s2 := r2
  clear d2_0 d2_1 r2
  have c3_0 := d3_0
  have c3_1 := d3_1
  have s3 := r3
  clear d3_0 d3_1 r3
  have c4_0 := d4_0
  have c4_1 := d4_1
  have s4 := r4
  clear d4_0 d4_1 r4
  have HB7 := Lib.hid hB
  clear hc hb hz hB hK HB6
  go_wp2_with (first | (go_at_call 16; refine (f_any _ _ _).mono ?_; rintro e wf ⟨rfl, rfl⟩))
  refine (eg_parse1 _).mono ?_
  rintro e w8 ⟨rfl, hb⟩
  have hz := bsize hb
  try simp at hz
  have hK : Below w7.heap.size w7 w8 := (by repeat (first | with_reducible exact Below.refl _ _ | (with_reducible refine Below.setCell ?_ (by first | exact Nat.le_refl _ | omega | (simp; done) | (simp; omega)) _) | (with_reducible refine Below.alloc ?_ (by first | exact Nat.le_refl _ | omega | (simp; done) | (simp; omega)) _) | with_reducible refine Below.drew ?_ | with_reducible refine bel_drewN ?_ _ | (with_reducible refine bel_by (by with_reducible assumption) (by first | exact Nat.le_refl _ | omega | (simp; done) | (simp; omega)) ?_)))
  have hB0 := HB7.out
  have hzz := hB0.size
  have hB : Below w.heap.size w w8 := hB0.trans (hK.mono hzz)
  clear hB0 hzz
  obtain ⟨hc, -⟩ := bcell hb
  have d1_0 : w8.cell? ⟨w1.heap.size, 0, none⟩ = some (.int .i64 (-3)) := (hK.cell (p := ⟨w1.heap.size, 0, none⟩) s1).trans c1_0
  have d1_1 : w8.cell? ⟨w1.heap.size, 1, none⟩ = some (.int .i64 (2)) := (hK.cell (p := ⟨w1.heap.size, 1, none⟩) s1).trans c1_1
  have r1 : w1.heap.size < w8.heap.size := by omega
  have d2_0 : w8.cell? ⟨w2.heap.size, 0, none⟩ = some (.int .i64 (1)) := (hK.cell (p := ⟨w2.heap.size, 0, none⟩) s2).trans c2_0
  have d2_1 : w8.cell? ⟨w2.heap.size, 1, none⟩ = some (.int .i64 (2)) := (hK.cell (p := ⟨w2.heap.size, 1, none⟩) s2).trans c2_1
  have r2 : w2.heap.size < w8.heap.size := by omega
  have d3_0 : w8.cell? ⟨w3.heap.size, 0, none⟩ = some (.int .i64 (3)) := (hK.cell (p := ⟨w3.heap.size, 0, none⟩) s3).trans c3_0
  have d3_1 : w8.cell? ⟨w3.heap.size, 1, none⟩ = some (.int .i64 (2)) := (hK.cell (p := ⟨w3.heap.size, 1, none⟩) s3).trans c3_1
  have r3 : w3.heap.size < w8.heap.size := by omega
  have d4_0 : w8.cell? ⟨w4.heap.size, 0, none⟩ = some (.int .i64 (1)) := (hK.cell (p := ⟨w4.heap.size, 0, none⟩) s4).trans c4_0
  have d4_1 : w8.cell? ⟨w4.heap.size, 1, none⟩ = some (.int .i64 (1)) := (hK.cell (p := ⟨w4.heap.size, 1, none⟩) s4).trans c4_1
  have r4 : w4.heap.size < w8.heap.size := by omega
  clear c1_0 c1_1 s1
  clear c2_0 c2_1 s2
  clear c3_0 c3_1 s3
  clear c4_0 c4_1 s4
  have c1_0 := d1_0
  have c1_1 := d1_1
  have s1 := r1
  clear d1_0 d1_1 r1
  have c2_0 := d2_0
  have c2_1 := d2_1
  have s2 := r2
  clear d2_0 d2_1 r2
  have c3_0 := d3_0
  have c3_1 := d3_1
  have s3 := r3
  clear d3_0 d3_1 r3
  have c4_0 := d4_0
  have c4_1 := d4_1
  have s4 := r4
  clear d4_0 d4_1 r4
  have HB8 := Lib.hid hB
  clear hc hb hz hB hK HB7
  go_wp2_with (first | (go_at_call 16; refine (f_any _ _ _).mono ?_; rintro e wf ⟨rfl, rfl⟩))
  refine (eg_parse2 _).mono ?_
  rintro e w9 ⟨rfl, hb⟩
  have hz := bsize hb
  try simp at hz
  have hK : Below w8.heap.size w8 w9 := (by repeat (first | with_reducible exact Below.refl _ _ | (with_reducible refine Below.setCell ?_ (by first | exact Nat.le_refl _ | omega | (simp; done) | (simp; omega)) _) | (with_reducible refine Below.alloc ?_ (by first | exact Nat.le_refl _ | omega | (simp; done) | (simp; omega)) _) | with_reducible refine Below.drew ?_ | with_reducible refine bel_drewN ?_ _ | (with_reducible refine bel_by (by with_reducible assumption) (by first | exact Nat.le_refl _ | omega | (simp; done) | (simp; omega)) ?_)))
  have hB0 := HB8.out
  have hzz := hB0.size
  have hB : Below w.heap.size w w9 := hB0.trans (hK.mono hzz)
  clear hB0 hzz
  obtain ⟨hc, -⟩ := bcell hb
  have d1_0 : w9.cell? ⟨w1.heap.size, 0, none⟩ = some (.int .i64 (-3)) := (hK.cell (p := ⟨w1.heap.size, 0, none⟩) s1).trans c1_0
  have d1_1 : w9.cell? ⟨w1.heap.size, 1, none⟩ = some (.int .i64 (2)) := (hK.cell (p := ⟨w1.heap.size, 1, none⟩) s1).trans c1_1
  have r1 : w1.heap.size < w9.heap.size := by omega
  have d2_0 : w9.cell? ⟨w2.heap.size, 0, none⟩ = some (.int .i64 (1)) := (hK.cell (p := ⟨w2.heap.size, 0, none⟩) s2).trans c2_0
  have d2_1 : w9.cell? ⟨w2.heap.size, 1, none⟩ = some (.int .i64 (2)) := (hK.cell (p := ⟨w2.heap.size, 1, none⟩) s2).trans c2_1
  have r2 : w2.heap.size < w9.heap.size := by omega
  have d3_0 : w9.cell? ⟨w3.heap.size, 0, none⟩ = some (.int .i64 (3)) := (hK.cell (p := ⟨w3.heap.size, 0, none⟩) s3).trans c3_0
  have d3_1 : w9.cell? ⟨w3.heap.size, 1, none⟩ = some (.int .i64 (2)) := (hK.cell (p := ⟨w3.heap.size, 1, none⟩) s3).trans c3_1
  have r3 : w3.heap.size < w9.heap.size := by omega
  have d4_0 : w9.cell? ⟨w4.heap.size, 0, none⟩ = some (.int .i64 (1)) := (hK.cell (p := ⟨w4.heap.size, 0, none⟩) s4).trans c4_0
  have d4_1 : w9.cell? ⟨w4.heap.size, 1, none⟩ = some (.int .i64 (1)) := (hK.cell (p := ⟨w4.heap.size, 1, none⟩) s4).trans c4_1
  have r4 : w4.heap.size < w9.heap.size := by omega
  have d8_0 : w9.cell? ⟨w8.heap.size, 0, none⟩ = some (.int .i64 (1)) := (hc _ _ (by first | assumption | (simp; done) | (simp; omega))).trans (by first | assumption | (simp [go_sem, c1_0, c1_1, s1, c2_0, c2_1, s2, c3_0, c3_1, s3, c4_0, c4_1, s4]; done) | (simp [go_sem, c1_0, c1_1, s1, c2_0, c2_1, s2, c3_0, c3_1, s3, c4_0, c4_1, s4]; omega))
  have d8_1 : w9.cell? ⟨w8.heap.size, 1, none⟩ = some (.int .i64 (8)) := (hc _ _ (by first | assumption | (simp; done) | (simp; omega))).trans (by first | assumption | (simp [go_sem, c1_0, c1_1, s1, c2_0, c2_1, s2, c3_0, c3_1, s3, c4_0, c4_1, s4]; done) | (simp [go_sem, c1_0, c1_1, s1, c2_0, c2_1, s2, c3_0, c3_1, s3, c4_0, c4_1, s4]; omega))
  have r8 : w8.heap.size < w9.heap.size := by omega
  clear c1_0 c1_1 s1
  clear c2_0 c2_1 s2
  clear c3_0 c3_1 s3
  clear c4_0 c4_1 s4
  have c1_0 := d1_0
  have c1_1 := d1_1
  have s1 := r1
  clear d1_0 d1_1 r1
  have c2_0 := d2_0
  have c2_1 := d2_1
  have s2 := r2
  clear d2_0 d2_1 r2
  have c3_0 := d3_0
  have c3_1 := d3_1
  have s3 := r3
  clear d3_0 d3_1 r3
  have c4_0 := d4_0
  have c4_1 := d4_1
  have s4 := r4
  clear d4_0 d4_1 r4
  have c8_0 := d8_0
  have c8_1 := d8_1
  have s8 := r8
  clear d8_0 d8_1 r8
  have HB9 := Lib.hid hB
  clear hc hb hz hB hK HB8
  go_wp2_with (first | (go_at_call 16; refine (f_any _ _ _).mono ?_; rintro e wf ⟨rfl, rfl⟩))
  have hB0 := HB9.out
  have hK : Below w9.heap.size w9 (w9.alloc (.cells #[.int .i64 0, .int .i64 0] 23)) := (by repeat (first | with_reducible exact Below.refl _ _ | (with_reducible refine Below.setCell ?_ (by first | exact Nat.le_refl _ | omega | (simp; done) | (simp; omega)) _) | (with_reducible refine Below.alloc ?_ (by first | exact Nat.le_refl _ | omega | (simp; done) | (simp; omega)) _) | with_reducible refine Below.drew ?_ | with_reducible refine bel_drewN ?_ _ | (with_reducible refine bel_by (by with_reducible assumption) (by first | exact Nat.le_refl _ | omega | (simp; done) | (simp; omega)) ?_)))
  have hB : Below w.heap.size w (w9.alloc (.cells #[.int .i64 0, .int .i64 0] 23)) := hB0.trans (hK.mono hB0.size)
  have d1_0 : (w9.alloc (.cells #[.int .i64 0, .int .i64 0] 23)).cell? ⟨w1.heap.size, 0, none⟩ = some (.int .i64 (-3)) := (hK.cell (p := ⟨w1.heap.size, 0, none⟩) s1).trans c1_0
  have d1_1 : (w9.alloc (.cells #[.int .i64 0, .int .i64 0] 23)).cell? ⟨w1.heap.size, 1, none⟩ = some (.int .i64 (2)) := (hK.cell (p := ⟨w1.heap.size, 1, none⟩) s1).trans c1_1
  have d2_0 : (w9.alloc (.cells #[.int .i64 0, .int .i64 0] 23)).cell? ⟨w2.heap.size, 0, none⟩ = some (.int .i64 (1)) := (hK.cell (p := ⟨w2.heap.size, 0, none⟩) s2).trans c2_0
  have d2_1 : (w9.alloc (.cells #[.int .i64 0, .int .i64 0] 23)).cell? ⟨w2.heap.size, 1, none⟩ = some (.int .i64 (2)) := (hK.cell (p := ⟨w2.heap.size, 1, none⟩) s2).trans c2_1
  have d3_0 : (w9.alloc (.cells #[.int .i64 0, .int .i64 0] 23)).cell? ⟨w3.heap.size, 0, none⟩ = some (.int .i64 (3)) := (hK.cell (p := ⟨w3.heap.size, 0, none⟩) s3).trans c3_0
  have d3_1 : (w9.alloc (.cells #[.int .i64 0, .int .i64 0] 23)).cell? ⟨w3.heap.size, 1, none⟩ = some (.int .i64 (2)) := (hK.cell (p := ⟨w3.heap.size, 1, none⟩) s3).trans c3_1
  have d4_0 : (w9.alloc (.cells #[.int .i64 0, .int .i64 0] 23)).cell? ⟨w4.heap.size, 0, none⟩ = some (.int .i64 (1)) := (hK.cell (p := ⟨w4.heap.size, 0, none⟩) s4).trans c4_0
  have d4_1 : (w9.alloc (.cells #[.int .i64 0, .int .i64 0] 23)).cell? ⟨w4.heap.size, 1, none⟩ = some (.int .i64 (1)) := (hK.cell (p := ⟨w4.heap.size, 1, none⟩) s4).trans c4_1
  have d8_0 : (w9.alloc (.cells #[.int .i64 0, .int .i64 0] 23)).cell? ⟨w8.heap.size, 0, none⟩ = some (.int .i64 (1)) := (hK.cell (p := ⟨w8.heap.size, 0, none⟩) s8).trans c8_0
  have d8_1 : (w9.alloc (.cells #[.int .i64 0, .int .i64 0] 23)).cell? ⟨w8.heap.size, 1, none⟩ = some (.int .i64 (8)) := (hK.cell (p := ⟨w8.heap.size, 1, none⟩) s8).trans c8_1
  have hzA : (w9.alloc (.cells #[.int .i64 0, .int .i64 0] 23)).heap.size = w9.heap.size + 1 := by simp
  generalize w9.alloc (.cells #[.int .i64 0, .int .i64 0] 23) = wA at hB hzA d1_0 d1_1 d2_0 d2_1 d3_0 d3_1 d4_0 d4_1 d8_0 d8_1 ⊢
  have k1 : w1.heap.size < wA.heap.size := by omega
  have k2 : w2.heap.size < wA.heap.size := by omega
  have k3 : w3.heap.size < wA.heap.size := by omega
  have k4 : w4.heap.size < wA.heap.size := by omega
  have k8 : w8.heap.size < wA.heap.size := by omega
  clear hK hB0 hzA HB9 c1_0 c1_1 s1 c2_0 c2_1 s2 c3_0 c3_1 s3 c4_0 c4_1 s4 c8_0 c8_1 s8
  have hT : TabW wA := HT.out.below hB
  have HTA := Lib.hid hT
  have HBA := Lib.hid hB
  clear hT hB
  dsimp only [List.append_eq, List.cons_append, List.nil_append]
  go_region_held3 (fun w' => w'.cell? ⟨w1.heap.size, 0, none⟩ = some (.int .i64 (-3)) ∧ w'.cell? ⟨w1.heap.size, 1, none⟩ = some (.int .i64 (2)) ∧ w'.cell? ⟨w2.heap.size, 0, none⟩ = some (.int .i64 (1)) ∧ w'.cell? ⟨w2.heap.size, 1, none⟩ = some (.int .i64 (2)) ∧ w'.cell? ⟨w3.heap.size, 0, none⟩ = some (.int .i64 (3)) ∧ w'.cell? ⟨w3.heap.size, 1, none⟩ = some (.int .i64 (2)) ∧ w'.cell? ⟨w4.heap.size, 0, none⟩ = some (.int .i64 (1)) ∧ w'.cell? ⟨w4.heap.size, 1, none⟩ = some (.int .i64 (1)) ∧ w'.cell? ⟨w8.heap.size, 0, none⟩ = some (.int .i64 (1)) ∧ w'.cell? ⟨w8.heap.size, 1, none⟩ = some (.int .i64 (8))) (exact ⟨(Below.cell (B := wA.heap.size) (w := wA) (p := ⟨w1.heap.size, 0, none⟩) (by repeat (first | with_reducible exact Below.refl _ _ | (with_reducible refine Below.setCell ?_ (by first | exact Nat.le_refl _ | omega | (simp; done) | (simp; omega)) _) | (with_reducible refine Below.alloc ?_ (by first | exact Nat.le_refl _ | omega | (simp; done) | (simp; omega)) _) | with_reducible refine Below.drew ?_ | with_reducible refine bel_drewN ?_ _ | (with_reducible refine bel_by (by with_reducible assumption) (by first | exact Nat.le_refl _ | omega | (simp; done) | (simp; omega)) ?_))) k1).trans d1_0, (Below.cell (B := wA.heap.size) (w := wA) (p := ⟨w1.heap.size, 1, none⟩) (by repeat (first | with_reducible exact Below.refl _ _ | (with_reducible refine Below.setCell ?_ (by first | exact Nat.le_refl _ | omega | (simp; done) | (simp; omega)) _) | (with_reducible refine Below.alloc ?_ (by first | exact Nat.le_refl _ | omega | (simp; done) | (simp; omega)) _) | with_reducible refine Below.drew ?_ | with_reducible refine bel_drewN ?_ _ | (with_reducible refine bel_by (by with_reducible assumption) (by first | exact Nat.le_refl _ | omega | (simp; done) | (simp; omega)) ?_))) k1).trans d1_1, (Below.cell (B := wA.heap.size) (w := wA) (p := ⟨w2.heap.size, 0, none⟩) (by repeat (first | with_reducible exact Below.refl _ _ | (with_reducible refine Below.setCell ?_ (by first | exact Nat.le_refl _ | omega | (simp; done) | (simp; omega)) _) | (with_reducible refine Below.alloc ?_ (by first | exact Nat.le_refl _ | omega | (simp; done) | (simp; omega)) _) | with_reducible refine Below.drew ?_ | with_reducible refine bel_drewN ?_ _ | (with_reducible refine bel_by (by with_reducible assumption) (by first | exact Nat.le_refl _ | omega | (simp; done) | (simp; omega)) ?_))) k2).trans d2_0, (Below.cell (B := wA.heap.size) (w := wA) (p := ⟨w2.heap.size, 1, none⟩) (by repeat (first | with_reducible exact Below.refl _ _ | (with_reducible refine Below.setCell ?_ (by first | exact Nat.le_refl _ | omega | (simp; done) | (simp; omega)) _) | (with_reducible refine Below.alloc ?_ (by first | exact Nat.le_refl _ | omega | (simp; done) | (simp; omega)) _) | with_reducible refine Below.drew ?_ | with_reducible refine bel_drewN ?_ _ | (with_reducible refine bel_by (by with_reducible assumption) (by first | exact Nat.le_refl _ | omega | (simp; done) | (simp; omega)) ?_))) k2).trans d2_1, (Below.cell (B := wA.heap.size) (w := wA) (p := ⟨w3.heap.size, 0, none⟩) (by repeat (first | with_reducible exact Below.refl _ _ | (with_reducible refine Below.setCell ?_ (by first | exact Nat.le_refl _ | omega | (simp; done) | (simp; omega)) _) | (with_reducible refine Below.alloc ?_ (by first | exact Nat.le_refl _ | omega | (simp; done) | (simp; omega)) _) | with_reducible refine Below.drew ?_ | with_reducible refine bel_drewN ?_ _ | (with_reducible refine bel_by (by with_reducible assumption) (by first | exact Nat.le_refl _ | omega | (simp; done) | (simp; omega)) ?_))) k3).trans d3_0, (Below.cell (B := wA.heap.size) (w := wA) (p := ⟨w3.heap.size, 1, none⟩) (by repeat (first | with_reducible exact Below.refl _ _ | (with_reducible refine Below.setCell ?_ (by first | exact Nat.le_refl _ | omega | (simp; done) | (simp; omega)) _) | (with_reducible refine Below.alloc ?_ (by first | exact Nat.le_refl _ | omega | (simp; done) | (simp; omega)) _) | with_reducible refine Below.drew ?_ | with_reducible refine bel_drewN ?_ _ | (with_reducible refine bel_by (by with_reducible assumption) (by first | exact Nat.le_refl _ | omega | (simp; done) | (simp; omega)) ?_))) k3).trans d3_1, (Below.cell (B := wA.heap.size) (w := wA) (p := ⟨w4.heap.size, 0, none⟩) (by repeat (first | with_reducible exact Below.refl _ _ | (with_reducible refine Below.setCell ?_ (by first | exact Nat.le_refl _ | omega | (simp; done) | (simp; omega)) _) | (with_reducible refine Below.alloc ?_ (by first | exact Nat.le_refl _ | omega | (simp; done) | (simp; omega)) _) | with_reducible refine Below.drew ?_ | with_reducible refine bel_drewN ?_ _ | (with_reducible refine bel_by (by with_reducible assumption) (by first | exact Nat.le_refl _ | omega | (simp; done) | (simp; omega)) ?_))) k4).trans d4_0, (Below.cell (B := wA.heap.size) (w := wA) (p := ⟨w4.heap.size, 1, none⟩) (by repeat (first | with_reducible exact Below.refl _ _ | (with_reducible refine Below.setCell ?_ (by first | exact Nat.le_refl _ | omega | (simp; done) | (simp; omega)) _) | (with_reducible refine Below.alloc ?_ (by first | exact Nat.le_refl _ | omega | (simp; done) | (simp; omega)) _) | with_reducible refine Below.drew ?_ | with_reducible refine bel_drewN ?_ _ | (with_reducible refine bel_by (by with_reducible assumption) (by first | exact Nat.le_refl _ | omega | (simp; done) | (simp; omega)) ?_))) k4).trans d4_1, (Below.cell (B := wA.heap.size) (w := wA) (p := ⟨w8.heap.size, 0, none⟩) (by repeat (first | with_reducible exact Below.refl _ _ | (with_reducible refine Below.setCell ?_ (by first | exact Nat.le_refl _ | omega | (simp; done) | (simp; omega)) _) | (with_reducible refine Below.alloc ?_ (by first | exact Nat.le_refl _ | omega | (simp; done) | (simp; omega)) _) | with_reducible refine Below.drew ?_ | with_reducible refine bel_drewN ?_ _ | (with_reducible refine bel_by (by with_reducible assumption) (by first | exact Nat.le_refl _ | omega | (simp; done) | (simp; omega)) ?_))) k8).trans d8_0, (Below.cell (B := wA.heap.size) (w := wA) (p := ⟨w8.heap.size, 1, none⟩) (by repeat (first | with_reducible exact Below.refl _ _ | (with_reducible refine Below.setCell ?_ (by first | exact Nat.le_refl _ | omega | (simp; done) | (simp; omega)) _) | (with_reducible refine Below.alloc ?_ (by first | exact Nat.le_refl _ | omega | (simp; done) | (simp; omega)) _) | with_reducible refine Below.drew ?_ | with_reducible refine bel_drewN ?_ _ | (with_reducible refine bel_by (by with_reducible assumption) (by first | exact Nat.le_refl _ | omega | (simp; done) | (simp; omega)) ?_))) k8).trans d8_1⟩)
    (first
      | (go_at_call 16; refine (f_any _ _ _).mono ?_; rintro e wf ⟨rfl, rfl⟩)
      | (go_at_call 40; refine (eg_text' _ (HTA.out.below (by repeat (first | with_reducible exact Below.refl _ _ | (with_reducible refine Below.setCell ?_ (by first | exact Nat.le_refl _ | omega | (simp; done) | (simp; omega)) _) | (with_reducible refine Below.alloc ?_ (by first | exact Nat.le_refl _ | omega | (simp; done) | (simp; omega)) _) | with_reducible refine Below.drew ?_ | with_reducible refine bel_drewN ?_ _ | (with_reducible refine bel_by (by with_reducible assumption) (by first | exact Nat.le_refl _ | omega | (simp; done) | (simp; omega)) ?_))))).mono ?_; rintro e w10 ⟨rfl, hb10⟩; have hz10 := bsize hb10; simp at hz10)
      | (go_at_call_of 15 (Value.agg #[.int .i64 0, .int .i64 1]); refine (eg_valid 0 1 true (by decide +kernel) (by decide) (by decide) (by decide) (by decide) _).mono ?_; rintro e w11 ⟨rfl, hb11⟩; have hz11 := bsize hb11; simp at hz11)
      | (go_at_call_of 15 (Value.agg #[.int .i64 0, .int .i64 0]); refine (eg_valid 0 0 false (by decide +kernel) (by decide) (by decide) (by decide) (by decide) _).mono ?_; rintro e w12 ⟨rfl, hb12⟩; have hz12 := bsize hb12; (try simp at hz12)))
  have hBA := HBA.out
  have hsA := hBA.size
  go_wp2
  go_ret
  exact ⟨rfl, (by repeat (first | with_reducible exact Below.refl _ _ | (with_reducible refine Below.setCell ?_ (by first | exact Nat.le_refl _ | omega | (simp; done) | (simp; omega)) _) | (with_reducible refine Below.alloc ?_ (by first | exact Nat.le_refl _ | omega | (simp; done) | (simp; omega)) _) | with_reducible refine Below.drew ?_ | with_reducible refine bel_drewN ?_ _ | (with_reducible refine bel_by (by with_reducible assumption) (by first | exact Nat.le_refl _ | omega | (simp; done) | (simp; omega)) ?_)))⟩
end Go.Proofs.YtfdalnkdeeminaaDoor
