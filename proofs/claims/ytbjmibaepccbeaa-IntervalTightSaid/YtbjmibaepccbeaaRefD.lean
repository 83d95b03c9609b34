/- Contracts of the reference of fractions, fourth part: build, Valid, Make, Milli, Neg. -/
import Derived.Test.YtbjmibaepccbeaaRefC
set_option linter.unusedSimpArgs false
set_option linter.unusedVariables false
namespace Go.Proofs.Ytbjmibaepccbeaa
open Go.RowKit

set_option maxHeartbeats 4000000 in
set_option maxRecDepth 100000 in
theorem rbuild_no1 (neg : Bool) (n d : Int) (h1 : 0 ≤ n) (h1' : n < 170141183460469231731687303715884105728) (h2 : 0 < d) (h2' : d < 170141183460469231731687303715884105728)
    (hn : ¬ n / gcdI n d ≤ 1000000000000000000) (w : World) :
    Calls Try.prog 69 #[.bool neg, .agg #[.int .u64 (hiW n), .int .u64 (loW n)], .agg #[.int .u64 (hiW d), .int .u64 (loW d)]] w fun e w' => e = .returned (fracE (0, 0, 5)) ∧ Below w.heap.size w w' := by
  have g1 := gcdI_pos n d h2
  have g2 := gcdI_le n d h2
  have G := Lib.hid (fun W => rdivisor_any n d h1 h1' (by omega) h2' W)
  generalize gcdI n d = g at *
  have D1 := fun W => rdivide_any (hiW n) (loW n) (hiW g) (loW g) (hiW_0 h1) (hiW_1 (by unfold B128; omega)) (loW_0 n) (loW_1 n) (hiW_0 (by omega)) (by unfold hiW; omega) (loW_0 g) (loW_1 g) (by rw [valW_words]; omega) W
  have D2 := fun W => rdivide_any (hiW d) (loW d) (hiW g) (loW g) (hiW_0 (by omega)) (hiW_1 (by unfold B128; omega)) (loW_0 d) (loW_1 d) (hiW_0 (by omega)) (by unfold hiW; omega) (loW_0 g) (loW_1 g) (by rw [valW_words]; omega) W
  rw [valW_words, valW_words] at D1 D2
  have HD1 := Lib.hid D1
  have HD2 := Lib.hid D2
  clear D1 D2
  have x0 : 0 ≤ n / g := Int.ediv_nonneg h1 (by omega)
  have x1 : n / g ≤ n := Int.ediv_le_self g h1
  have y0 : 0 ≤ d / g := Int.ediv_nonneg (by omega) (by omega)
  have y1 : d / g ≤ d := Int.ediv_le_self g (by omega)
  have S1 := fun W => rsmall_any (hiW (n / g)) (loW (n / g)) (hiW_0 x0) (loW_0 _) (loW_1 _) W
  have S2 := fun W => rsmall_any (hiW (d / g)) (loW (d / g)) (hiW_0 y0) (loW_0 _) (loW_1 _) W
  rw [valW_words] at S1 S2
  rw [show decide (n / g ≤ 1000000000000000000) = false from by simpa using hn] at S1
  have HS1 := Lib.hid S1
  clear S1 S2 hn
  generalize n / g = x at *
  generalize d / g = y at *
  generalize n % g = nm at *
  generalize d % g = dm at *

  go_enter Try.func69, Try.ntmps69
  go_wp2_with fail
  refine (G.out _).mono ?_
  rintro e w1 ⟨rfl, hb⟩
  have hz := bsize hb
  simp at hz
  obtain ⟨hc, hf⟩ := bcell hb
  have a0 : w1.cell? ⟨w.heap.size, 0, none⟩ = some (.int .u64 (hiW n)) := (hc _ _ (by simp; try omega)).trans (by simp [go_sem])
  have a1 : w1.cell? ⟨w.heap.size, 1, none⟩ = some (.int .u64 (loW n)) := (hc _ _ (by simp; try omega)).trans (by simp [go_sem])
  have b0 : w1.cell? ⟨w.heap.size + 1, 0, none⟩ = some (.int .u64 (hiW d)) := (hc _ _ (by simp)).trans (by simp [go_sem])
  have b1 : w1.cell? ⟨w.heap.size + 1, 1, none⟩ = some (.int .u64 (loW d)) := (hc _ _ (by simp)).trans (by simp [go_sem])
  have c0 : w1.cell? ⟨w.heap.size + 1 + 1, 0, none⟩ = some (.int .i64 0) := (hc _ _ (by simp)).trans (by simp [go_sem])
  have c1 : w1.cell? ⟨w.heap.size + 1 + 1, 1, none⟩ = some (.int .i64 0) := (hc _ _ (by simp)).trans (by simp [go_sem])
  have c2 : w1.frozen? ⟨w.heap.size + 1 + 1, 0, none⟩ = false := (hf _ _ (by simp)).trans (by simp [go_sem])
  have c3 : w1.frozen? ⟨w.heap.size + 1 + 1, 1, none⟩ = false := (hf _ _ (by simp)).trans (by simp [go_sem])
  have k0 : w.heap.size + 1 < w1.heap.size := by omega
  have k00 : w.heap.size < w1.heap.size := by omega
  have k1 : w.heap.size + 1 + 1 < w1.heap.size := by omega
  have hB : Below w.heap.size w w1 := (by repeat (first | with_reducible exact Below.refl _ _ | (with_reducible refine Below.setCell ?_ (by first | exact Nat.le_refl _ | omega | (simp; done) | (simp; omega)) _) | (with_reducible refine Below.alloc ?_ (by first | exact Nat.le_refl _ | omega | (simp; done) | (simp; omega)) _) | with_reducible refine Below.drew ?_ | with_reducible refine bel_drewN ?_ _ | (with_reducible refine bel_by (by with_reducible assumption) (by first | exact Nat.le_refl _ | omega | (simp; done) | (simp; omega)) ?_)))
  have HB1 := Lib.hid hB
  clear hc hf hb hz hB
  go_wp2_with fail
  refine (HD1.out _).mono ?_
  rintro e w2 ⟨rfl, hb⟩
  have hz := bsize hb
  simp at hz
  obtain ⟨hc, -⟩ := bcell hb
  have g0' : w2.cell? ⟨w1.heap.size, 0, none⟩ = some (.int .u64 (hiW g)) := (hc _ _ (by simp)).trans (by simp [go_sem])
  have g1' : w2.cell? ⟨w1.heap.size, 1, none⟩ = some (.int .u64 (loW g)) := (hc _ _ (by simp)).trans (by simp [go_sem])
  have hK : Below w1.heap.size w1 w2 := (by repeat (first | with_reducible exact Below.refl _ _ | (with_reducible refine Below.setCell ?_ (by first | exact Nat.le_refl _ | omega | (simp; done) | (simp; omega)) _) | (with_reducible refine Below.alloc ?_ (by first | exact Nat.le_refl _ | omega | (simp; done) | (simp; omega)) _) | with_reducible refine Below.drew ?_ | with_reducible refine bel_drewN ?_ _ | (with_reducible refine bel_by (by with_reducible assumption) (by first | exact Nat.le_refl _ | omega | (simp; done) | (simp; omega)) ?_)))
  have b0' := (hK.cell (p := ⟨w.heap.size + 1, 0, none⟩) k0).trans b0
  have b1' := (hK.cell (p := ⟨w.heap.size + 1, 1, none⟩) k0).trans b1
  have c0' := (hK.cell (p := ⟨w.heap.size + 1 + 1, 0, none⟩) k1).trans c0
  have c1' := (hK.cell (p := ⟨w.heap.size + 1 + 1, 1, none⟩) k1).trans c1
  have c2' := (hK.frozen (p := ⟨w.heap.size + 1 + 1, 0, none⟩) k1).trans c2
  have c3' := (hK.frozen (p := ⟨w.heap.size + 1 + 1, 1, none⟩) k1).trans c3
  have k2 : w1.heap.size < w2.heap.size := by omega
  have k1' : w.heap.size + 1 + 1 < w2.heap.size := by omega
  have j0 : w.heap.size + 1 < w2.heap.size := by omega
  have j1 : w.heap.size < w2.heap.size := by omega
  have j2 : w1.heap.size ≤ w2.heap.size := by omega
  have hB0 := HB1.out
  have HB2 := Lib.hid (hB0.trans (hK.mono hB0.size))
  clear hc hb hz hK a0 a1 b0 b1 c0 c1 c2 c3 k0 k00 k1 hB0 HB1
  go_wp2_with fail
  refine (HD2.out _).mono ?_
  rintro e w3 ⟨rfl, hb⟩
  have hz := bsize hb
  simp at hz
  obtain ⟨hc, -⟩ := bcell hb
  have q0 : w3.cell? ⟨w2.heap.size, 0, none⟩ = some (.int .u64 (hiW x)) := (hc _ _ (by simp; try omega)).trans (by simp [go_sem])
  have q1 : w3.cell? ⟨w2.heap.size, 1, none⟩ = some (.int .u64 (loW x)) := (hc _ _ (by simp; try omega)).trans (by simp [go_sem])
  have hK : Below w2.heap.size w2 w3 := (by repeat (first | with_reducible exact Below.refl _ _ | (with_reducible refine Below.setCell ?_ (by first | exact Nat.le_refl _ | omega | (simp; done) | (simp; omega)) _) | (with_reducible refine Below.alloc ?_ (by first | exact Nat.le_refl _ | omega | (simp; done) | (simp; omega)) _) | with_reducible refine Below.drew ?_ | with_reducible refine bel_drewN ?_ _ | (with_reducible refine bel_by (by with_reducible assumption) (by first | exact Nat.le_refl _ | omega | (simp; done) | (simp; omega)) ?_)))
  have c0 := (hK.cell (p := ⟨w.heap.size + 1 + 1, 0, none⟩) k1').trans c0'
  have c1 := (hK.cell (p := ⟨w.heap.size + 1 + 1, 1, none⟩) k1').trans c1'
  have c2 := (hK.frozen (p := ⟨w.heap.size + 1 + 1, 0, none⟩) k1').trans c2'
  have c3 := (hK.frozen (p := ⟨w.heap.size + 1 + 1, 1, none⟩) k1').trans c3'
  have k1 : w.heap.size + 1 + 1 < w3.heap.size := by omega
  have k3 : w2.heap.size < w3.heap.size := by omega
  have j3 : w2.heap.size ≤ w3.heap.size := by omega
  have hB0 := HB2.out
  have HB3 := Lib.hid (hB0.trans (hK.mono hB0.size))
  clear hc hb hz hK b0' b1' c0' c1' c2' c3' g0' g1' k1' k2 j0 j1 j2 hB0 HB2
  go_wp2_with fail
  refine (HS1.out _).mono ?_
  rintro e w4 ⟨rfl, hb⟩
  have hz := bsize hb
  simp at hz
  obtain ⟨hc, -⟩ := bcell hb
  have r0 : w4.cell? ⟨w3.heap.size, 0, none⟩ = some (.int .u64 (hiW y)) := (hc _ _ (by simp; try omega)).trans (by simp [go_sem])
  have r1 : w4.cell? ⟨w3.heap.size, 1, none⟩ = some (.int .u64 (loW y)) := (hc _ _ (by simp; try omega)).trans (by simp [go_sem])
  have hK : Below w3.heap.size w3 w4 := (by repeat (first | with_reducible exact Below.refl _ _ | (with_reducible refine Below.setCell ?_ (by first | exact Nat.le_refl _ | omega | (simp; done) | (simp; omega)) _) | (with_reducible refine Below.alloc ?_ (by first | exact Nat.le_refl _ | omega | (simp; done) | (simp; omega)) _) | with_reducible refine Below.drew ?_ | with_reducible refine bel_drewN ?_ _ | (with_reducible refine bel_by (by with_reducible assumption) (by first | exact Nat.le_refl _ | omega | (simp; done) | (simp; omega)) ?_)))
  have q0' := (hK.cell (p := ⟨w2.heap.size, 0, none⟩) k3).trans q0
  have q1' := (hK.cell (p := ⟨w2.heap.size, 1, none⟩) k3).trans q1
  have c0' := (hK.cell (p := ⟨w.heap.size + 1 + 1, 0, none⟩) k1).trans c0
  have c1' := (hK.cell (p := ⟨w.heap.size + 1 + 1, 1, none⟩) k1).trans c1
  have c2' := (hK.frozen (p := ⟨w.heap.size + 1 + 1, 0, none⟩) k1).trans c2
  have c3' := (hK.frozen (p := ⟨w.heap.size + 1 + 1, 1, none⟩) k1).trans c3
  have k1' : w.heap.size + 1 + 1 < w4.heap.size := by omega
  have k3' : w2.heap.size < w4.heap.size := by omega
  have k4 : w3.heap.size < w4.heap.size := by omega
  clear j3
  have hB0 := HB3.out
  have HB4 := Lib.hid (hB0.trans (hK.mono hB0.size))
  clear hc hb hz hK c0 c1 c2 c3 q0 q1 k1 k3 hB0 HB3
  go_wp2
  have hB5 := HB4.out
  refine bodyPost_ret (v := fracE (0, 0, 5)) (by simp [results, Try.results69, go_sem, c0', c1', c2', c3']) rfl ⟨rfl, (by repeat (first | with_reducible exact Below.refl _ _ | (with_reducible refine Below.setCell ?_ (by first | exact Nat.le_refl _ | omega | (simp; done) | (simp; omega)) _) | (with_reducible refine Below.alloc ?_ (by first | exact Nat.le_refl _ | omega | (simp; done) | (simp; omega)) _) | with_reducible refine Below.drew ?_ | with_reducible refine bel_drewN ?_ _ | (with_reducible refine bel_by (by with_reducible assumption) (by first | exact Nat.le_refl _ | omega | (simp; done) | (simp; omega)) ?_)))⟩

set_option maxHeartbeats 4000000 in
set_option maxRecDepth 100000 in
theorem rbuild_no2 (neg : Bool) (n d : Int) (h1 : 0 ≤ n) (h1' : n < 170141183460469231731687303715884105728) (h2 : 0 < d) (h2' : d < 170141183460469231731687303715884105728)
    (hy : n / gcdI n d ≤ 1000000000000000000) (hn : ¬ d / gcdI n d ≤ 1000000000000000000) (w : World) :
    Calls Try.prog 69 #[.bool neg, .agg #[.int .u64 (hiW n), .int .u64 (loW n)], .agg #[.int .u64 (hiW d), .int .u64 (loW d)]] w fun e w' => e = .returned (fracE (0, 0, 5)) ∧ Below w.heap.size w w' := by
  have g1 := gcdI_pos n d h2
  have g2 := gcdI_le n d h2
  have G := Lib.hid (fun W => rdivisor_any n d h1 h1' (by omega) h2' W)
  generalize gcdI n d = g at *
  have D1 := fun W => rdivide_any (hiW n) (loW n) (hiW g) (loW g) (hiW_0 h1) (hiW_1 (by unfold B128; omega)) (loW_0 n) (loW_1 n) (hiW_0 (by omega)) (by unfold hiW; omega) (loW_0 g) (loW_1 g) (by rw [valW_words]; omega) W
  have D2 := fun W => rdivide_any (hiW d) (loW d) (hiW g) (loW g) (hiW_0 (by omega)) (hiW_1 (by unfold B128; omega)) (loW_0 d) (loW_1 d) (hiW_0 (by omega)) (by unfold hiW; omega) (loW_0 g) (loW_1 g) (by rw [valW_words]; omega) W
  rw [valW_words, valW_words] at D1 D2
  have HD1 := Lib.hid D1
  have HD2 := Lib.hid D2
  clear D1 D2
  have x0 : 0 ≤ n / g := Int.ediv_nonneg h1 (by omega)
  have x1 : n / g ≤ n := Int.ediv_le_self g h1
  have y0 : 0 ≤ d / g := Int.ediv_nonneg (by omega) (by omega)
  have y1 : d / g ≤ d := Int.ediv_le_self g (by omega)
  have S1 := fun W => rsmall_any (hiW (n / g)) (loW (n / g)) (hiW_0 x0) (loW_0 _) (loW_1 _) W
  have S2 := fun W => rsmall_any (hiW (d / g)) (loW (d / g)) (hiW_0 y0) (loW_0 _) (loW_1 _) W
  rw [valW_words] at S1 S2
  rw [show decide (n / g ≤ 1000000000000000000) = true from by simpa using hy] at S1
  rw [show decide (d / g ≤ 1000000000000000000) = false from by simpa using hn] at S2
  have HS1 := Lib.hid S1
  have HS2 := Lib.hid S2
  clear S1 S2 hn hy
  generalize n / g = x at *
  generalize d / g = y at *
  generalize n % g = nm at *
  generalize d % g = dm at *

  go_enter Try.func69, Try.ntmps69
  go_wp2_with fail
  refine (G.out _).mono ?_
  rintro e w1 ⟨rfl, hb⟩
  have hz := bsize hb
  simp at hz
  obtain ⟨hc, hf⟩ := bcell hb
  have a0 : w1.cell? ⟨w.heap.size, 0, none⟩ = some (.int .u64 (hiW n)) := (hc _ _ (by simp; try omega)).trans (by simp [go_sem])
  have a1 : w1.cell? ⟨w.heap.size, 1, none⟩ = some (.int .u64 (loW n)) := (hc _ _ (by simp; try omega)).trans (by simp [go_sem])
  have b0 : w1.cell? ⟨w.heap.size + 1, 0, none⟩ = some (.int .u64 (hiW d)) := (hc _ _ (by simp)).trans (by simp [go_sem])
  have b1 : w1.cell? ⟨w.heap.size + 1, 1, none⟩ = some (.int .u64 (loW d)) := (hc _ _ (by simp)).trans (by simp [go_sem])
  have c0 : w1.cell? ⟨w.heap.size + 1 + 1, 0, none⟩ = some (.int .i64 0) := (hc _ _ (by simp)).trans (by simp [go_sem])
  have c1 : w1.cell? ⟨w.heap.size + 1 + 1, 1, none⟩ = some (.int .i64 0) := (hc _ _ (by simp)).trans (by simp [go_sem])
  have c2 : w1.frozen? ⟨w.heap.size + 1 + 1, 0, none⟩ = false := (hf _ _ (by simp)).trans (by simp [go_sem])
  have c3 : w1.frozen? ⟨w.heap.size + 1 + 1, 1, none⟩ = false := (hf _ _ (by simp)).trans (by simp [go_sem])
  have k0 : w.heap.size + 1 < w1.heap.size := by omega
  have k00 : w.heap.size < w1.heap.size := by omega
  have k1 : w.heap.size + 1 + 1 < w1.heap.size := by omega
  have hB : Below w.heap.size w w1 := (by repeat (first | with_reducible exact Below.refl _ _ | (with_reducible refine Below.setCell ?_ (by first | exact Nat.le_refl _ | omega | (simp; done) | (simp; omega)) _) | (with_reducible refine Below.alloc ?_ (by first | exact Nat.le_refl _ | omega | (simp; done) | (simp; omega)) _) | with_reducible refine Below.drew ?_ | with_reducible refine bel_drewN ?_ _ | (with_reducible refine bel_by (by with_reducible assumption) (by first | exact Nat.le_refl _ | omega | (simp; done) | (simp; omega)) ?_)))
  have HB1 := Lib.hid hB
  clear hc hf hb hz hB
  go_wp2_with fail
  refine (HD1.out _).mono ?_
  rintro e w2 ⟨rfl, hb⟩
  have hz := bsize hb
  simp at hz
  obtain ⟨hc, -⟩ := bcell hb
  have g0' : w2.cell? ⟨w1.heap.size, 0, none⟩ = some (.int .u64 (hiW g)) := (hc _ _ (by simp)).trans (by simp [go_sem])
  have g1' : w2.cell? ⟨w1.heap.size, 1, none⟩ = some (.int .u64 (loW g)) := (hc _ _ (by simp)).trans (by simp [go_sem])
  have hK : Below w1.heap.size w1 w2 := (by repeat (first | with_reducible exact Below.refl _ _ | (with_reducible refine Below.setCell ?_ (by first | exact Nat.le_refl _ | omega | (simp; done) | (simp; omega)) _) | (with_reducible refine Below.alloc ?_ (by first | exact Nat.le_refl _ | omega | (simp; done) | (simp; omega)) _) | with_reducible refine Below.drew ?_ | with_reducible refine bel_drewN ?_ _ | (with_reducible refine bel_by (by with_reducible assumption) (by first | exact Nat.le_refl _ | omega | (simp; done) | (simp; omega)) ?_)))
  have b0' := (hK.cell (p := ⟨w.heap.size + 1, 0, none⟩) k0).trans b0
  have b1' := (hK.cell (p := ⟨w.heap.size + 1, 1, none⟩) k0).trans b1
  have c0' := (hK.cell (p := ⟨w.heap.size + 1 + 1, 0, none⟩) k1).trans c0
  have c1' := (hK.cell (p := ⟨w.heap.size + 1 + 1, 1, none⟩) k1).trans c1
  have c2' := (hK.frozen (p := ⟨w.heap.size + 1 + 1, 0, none⟩) k1).trans c2
  have c3' := (hK.frozen (p := ⟨w.heap.size + 1 + 1, 1, none⟩) k1).trans c3
  have k2 : w1.heap.size < w2.heap.size := by omega
  have k1' : w.heap.size + 1 + 1 < w2.heap.size := by omega
  have j0 : w.heap.size + 1 < w2.heap.size := by omega
  have j1 : w.heap.size < w2.heap.size := by omega
  have j2 : w1.heap.size ≤ w2.heap.size := by omega
  have hB0 := HB1.out
  have HB2 := Lib.hid (hB0.trans (hK.mono hB0.size))
  clear hc hb hz hK a0 a1 b0 b1 c0 c1 c2 c3 k0 k00 k1 hB0 HB1
  go_wp2_with fail
  refine (HD2.out _).mono ?_
  rintro e w3 ⟨rfl, hb⟩
  have hz := bsize hb
  simp at hz
  obtain ⟨hc, -⟩ := bcell hb
  have q0 : w3.cell? ⟨w2.heap.size, 0, none⟩ = some (.int .u64 (hiW x)) := (hc _ _ (by simp; try omega)).trans (by simp [go_sem])
  have q1 : w3.cell? ⟨w2.heap.size, 1, none⟩ = some (.int .u64 (loW x)) := (hc _ _ (by simp; try omega)).trans (by simp [go_sem])
  have hK : Below w2.heap.size w2 w3 := (by repeat (first | with_reducible exact Below.refl _ _ | (with_reducible refine Below.setCell ?_ (by first | exact Nat.le_refl _ | omega | (simp; done) | (simp; omega)) _) | (with_reducible refine Below.alloc ?_ (by first | exact Nat.le_refl _ | omega | (simp; done) | (simp; omega)) _) | with_reducible refine Below.drew ?_ | with_reducible refine bel_drewN ?_ _ | (with_reducible refine bel_by (by with_reducible assumption) (by first | exact Nat.le_refl _ | omega | (simp; done) | (simp; omega)) ?_)))
  have c0 := (hK.cell (p := ⟨w.heap.size + 1 + 1, 0, none⟩) k1').trans c0'
  have c1 := (hK.cell (p := ⟨w.heap.size + 1 + 1, 1, none⟩) k1').trans c1'
  have c2 := (hK.frozen (p := ⟨w.heap.size + 1 + 1, 0, none⟩) k1').trans c2'
  have c3 := (hK.frozen (p := ⟨w.heap.size + 1 + 1, 1, none⟩) k1').trans c3'
  have k1 : w.heap.size + 1 + 1 < w3.heap.size := by omega
  have k3 : w2.heap.size < w3.heap.size := by omega
  have j3 : w2.heap.size ≤ w3.heap.size := by omega
  have hB0 := HB2.out
  have HB3 := Lib.hid (hB0.trans (hK.mono hB0.size))
  clear hc hb hz hK b0' b1' c0' c1' c2' c3' g0' g1' k1' k2 j0 j1 j2 hB0 HB2
  go_wp2_with fail
  refine (HS1.out _).mono ?_
  rintro e w4 ⟨rfl, hb⟩
  have hz := bsize hb
  simp at hz
  obtain ⟨hc, -⟩ := bcell hb
  have r0 : w4.cell? ⟨w3.heap.size, 0, none⟩ = some (.int .u64 (hiW y)) := (hc _ _ (by simp; try omega)).trans (by simp [go_sem])
  have r1 : w4.cell? ⟨w3.heap.size, 1, none⟩ = some (.int .u64 (loW y)) := (hc _ _ (by simp; try omega)).trans (by simp [go_sem])
  have hK : Below w3.heap.size w3 w4 := (by repeat (first | with_reducible exact Below.refl _ _ | (with_reducible refine Below.setCell ?_ (by first | exact Nat.le_refl _ | omega | (simp; done) | (simp; omega)) _) | (with_reducible refine Below.alloc ?_ (by first | exact Nat.le_refl _ | omega | (simp; done) | (simp; omega)) _) | with_reducible refine Below.drew ?_ | with_reducible refine bel_drewN ?_ _ | (with_reducible refine bel_by (by with_reducible assumption) (by first | exact Nat.le_refl _ | omega | (simp; done) | (simp; omega)) ?_)))
  have q0' := (hK.cell (p := ⟨w2.heap.size, 0, none⟩) k3).trans q0
  have q1' := (hK.cell (p := ⟨w2.heap.size, 1, none⟩) k3).trans q1
  have c0' := (hK.cell (p := ⟨w.heap.size + 1 + 1, 0, none⟩) k1).trans c0
  have c1' := (hK.cell (p := ⟨w.heap.size + 1 + 1, 1, none⟩) k1).trans c1
  have c2' := (hK.frozen (p := ⟨w.heap.size + 1 + 1, 0, none⟩) k1).trans c2
  have c3' := (hK.frozen (p := ⟨w.heap.size + 1 + 1, 1, none⟩) k1).trans c3
  have k1' : w.heap.size + 1 + 1 < w4.heap.size := by omega
  have k3' : w2.heap.size < w4.heap.size := by omega
  have k4 : w3.heap.size < w4.heap.size := by omega
  clear j3
  have hB0 := HB3.out
  have HB4 := Lib.hid (hB0.trans (hK.mono hB0.size))
  clear hc hb hz hK c0 c1 c2 c3 q0 q1 k1 k3 hB0 HB3
  go_wp2_with fail
  refine (HS2.out _).mono ?_
  rintro e w5 ⟨rfl, hb⟩
  have hz := bsize hb
  have q1 := (hb.cell (p := ⟨w2.heap.size, 1, none⟩) k3').trans q1'
  have r1' := (hb.cell (p := ⟨w3.heap.size, 1, none⟩) k4).trans r1
  have c0 := (hb.cell (p := ⟨w.heap.size + 1 + 1, 0, none⟩) k1').trans c0'
  have c1 := (hb.cell (p := ⟨w.heap.size + 1 + 1, 1, none⟩) k1').trans c1'
  have c2 := (hb.frozen (p := ⟨w.heap.size + 1 + 1, 0, none⟩) k1').trans c2'
  have c3 := (hb.frozen (p := ⟨w.heap.size + 1 + 1, 1, none⟩) k1').trans c3'
  have hB0 := HB4.out
  have HB5 := Lib.hid (hB0.trans (hb.mono hB0.size))
  clear hb hz c0' c1' c2' c3' q0' q1' r0 r1 k1' k3' k4 hB0 HB4
  go_wp2
  have hB5 := HB5.out
  refine bodyPost_ret (v := fracE (0, 0, 5)) (by simp [results, Try.results69, go_sem, c0, c1, c2, c3]) rfl ⟨rfl, (by repeat (first | with_reducible exact Below.refl _ _ | (with_reducible refine Below.setCell ?_ (by first | exact Nat.le_refl _ | omega | (simp; done) | (simp; omega)) _) | (with_reducible refine Below.alloc ?_ (by first | exact Nat.le_refl _ | omega | (simp; done) | (simp; omega)) _) | with_reducible refine Below.drew ?_ | with_reducible refine bel_drewN ?_ _ | (with_reducible refine bel_by (by with_reducible assumption) (by first | exact Nat.le_refl _ | omega | (simp; done) | (simp; omega)) ?_)))⟩

set_option maxHeartbeats 4000000 in
set_option maxRecDepth 100000 in
theorem rbuild_yes (neg : Bool) (n d : Int) (h1 : 0 ≤ n) (h1' : n < 170141183460469231731687303715884105728) (h2 : 0 < d) (h2' : d < 170141183460469231731687303715884105728)
    (hy : n / gcdI n d ≤ 1000000000000000000) (hn : d / gcdI n d ≤ 1000000000000000000) (w : World) :
    Calls Try.prog 69 #[.bool neg, .agg #[.int .u64 (hiW n), .int .u64 (loW n)], .agg #[.int .u64 (hiW d), .int .u64 (loW d)]] w fun e w' => e = .returned (fracE (sg neg (n / gcdI n d), d / gcdI n d, 0)) ∧ Below w.heap.size w w' := by
  have g1 := gcdI_pos n d h2
  have g2 := gcdI_le n d h2
  have G := Lib.hid (fun W => rdivisor_any n d h1 h1' (by omega) h2' W)
  generalize gcdI n d = g at *
  have D1 := fun W => rdivide_any (hiW n) (loW n) (hiW g) (loW g) (hiW_0 h1) (hiW_1 (by unfold B128; omega)) (loW_0 n) (loW_1 n) (hiW_0 (by omega)) (by unfold hiW; omega) (loW_0 g) (loW_1 g) (by rw [valW_words]; omega) W
  have D2 := fun W => rdivide_any (hiW d) (loW d) (hiW g) (loW g) (hiW_0 (by omega)) (hiW_1 (by unfold B128; omega)) (loW_0 d) (loW_1 d) (hiW_0 (by omega)) (by unfold hiW; omega) (loW_0 g) (loW_1 g) (by rw [valW_words]; omega) W
  rw [valW_words, valW_words] at D1 D2
  have HD1 := Lib.hid D1
  have HD2 := Lib.hid D2
  clear D1 D2
  have x0 : 0 ≤ n / g := Int.ediv_nonneg h1 (by omega)
  have x1 : n / g ≤ n := Int.ediv_le_self g h1
  have y0 : 0 ≤ d / g := Int.ediv_nonneg (by omega) (by omega)
  have y1 : d / g ≤ d := Int.ediv_le_self g (by omega)
  have S1 := fun W => rsmall_any (hiW (n / g)) (loW (n / g)) (hiW_0 x0) (loW_0 _) (loW_1 _) W
  have S2 := fun W => rsmall_any (hiW (d / g)) (loW (d / g)) (hiW_0 y0) (loW_0 _) (loW_1 _) W
  rw [valW_words] at S1 S2
  rw [show decide (n / g ≤ 1000000000000000000) = true from by simpa using hy] at S1
  rw [show decide (d / g ≤ 1000000000000000000) = true from by simpa using hn] at S2
  have HS1 := Lib.hid S1
  have HS2 := Lib.hid S2
  clear S1 S2
  generalize n / g = x at *
  generalize d / g = y at *
  generalize n % g = nm at *
  generalize d % g = dm at *
  have lx := Lib.hid (show loW x = x by unfold loW; omega)
  have ly := Lib.hid (show loW y = y by unfold loW; omega)
  cases neg
  all_goals
   unfold sg
   go_enter Try.func69, Try.ntmps69
   go_wp2_with fail
   refine (G.out _).mono ?_
   rintro e w1 ⟨rfl, hb⟩
   have hz := bsize hb
   simp at hz
   obtain ⟨hc, hf⟩ := bcell hb
   have a0 : w1.cell? ⟨w.heap.size, 0, none⟩ = some (.int .u64 (hiW n)) := (hc _ _ (by simp; try omega)).trans (by simp [go_sem])
   have a1 : w1.cell? ⟨w.heap.size, 1, none⟩ = some (.int .u64 (loW n)) := (hc _ _ (by simp; try omega)).trans (by simp [go_sem])
   have b0 : w1.cell? ⟨w.heap.size + 1, 0, none⟩ = some (.int .u64 (hiW d)) := (hc _ _ (by simp)).trans (by simp [go_sem])
   have b1 : w1.cell? ⟨w.heap.size + 1, 1, none⟩ = some (.int .u64 (loW d)) := (hc _ _ (by simp)).trans (by simp [go_sem])
   have c0 : w1.cell? ⟨w.heap.size + 1 + 1, 0, none⟩ = some (.int .i64 0) := (hc _ _ (by simp)).trans (by simp [go_sem])
   have c1 : w1.cell? ⟨w.heap.size + 1 + 1, 1, none⟩ = some (.int .i64 0) := (hc _ _ (by simp)).trans (by simp [go_sem])
   have c2 : w1.frozen? ⟨w.heap.size + 1 + 1, 0, none⟩ = false := (hf _ _ (by simp)).trans (by simp [go_sem])
   have c3 : w1.frozen? ⟨w.heap.size + 1 + 1, 1, none⟩ = false := (hf _ _ (by simp)).trans (by simp [go_sem])
   have k0 : w.heap.size + 1 < w1.heap.size := by omega
   have k00 : w.heap.size < w1.heap.size := by omega
   have k1 : w.heap.size + 1 + 1 < w1.heap.size := by omega
   have hB : Below w.heap.size w w1 := (by repeat (first | with_reducible exact Below.refl _ _ | (with_reducible refine Below.setCell ?_ (by first | exact Nat.le_refl _ | omega | (simp; done) | (simp; omega)) _) | (with_reducible refine Below.alloc ?_ (by first | exact Nat.le_refl _ | omega | (simp; done) | (simp; omega)) _) | with_reducible refine Below.drew ?_ | with_reducible refine bel_drewN ?_ _ | (with_reducible refine bel_by (by with_reducible assumption) (by first | exact Nat.le_refl _ | omega | (simp; done) | (simp; omega)) ?_)))
   have HB1 := Lib.hid hB
   clear hc hf hb hz hB
   go_wp2_with fail
   refine (HD1.out _).mono ?_
   rintro e w2 ⟨rfl, hb⟩
   have hz := bsize hb
   simp at hz
   obtain ⟨hc, -⟩ := bcell hb
   have g0' : w2.cell? ⟨w1.heap.size, 0, none⟩ = some (.int .u64 (hiW g)) := (hc _ _ (by simp)).trans (by simp [go_sem])
   have g1' : w2.cell? ⟨w1.heap.size, 1, none⟩ = some (.int .u64 (loW g)) := (hc _ _ (by simp)).trans (by simp [go_sem])
   have hK : Below w1.heap.size w1 w2 := (by repeat (first | with_reducible exact Below.refl _ _ | (with_reducible refine Below.setCell ?_ (by first | exact Nat.le_refl _ | omega | (simp; done) | (simp; omega)) _) | (with_reducible refine Below.alloc ?_ (by first | exact Nat.le_refl _ | omega | (simp; done) | (simp; omega)) _) | with_reducible refine Below.drew ?_ | with_reducible refine bel_drewN ?_ _ | (with_reducible refine bel_by (by with_reducible assumption) (by first | exact Nat.le_refl _ | omega | (simp; done) | (simp; omega)) ?_)))
   have b0' := (hK.cell (p := ⟨w.heap.size + 1, 0, none⟩) k0).trans b0
   have b1' := (hK.cell (p := ⟨w.heap.size + 1, 1, none⟩) k0).trans b1
   have c0' := (hK.cell (p := ⟨w.heap.size + 1 + 1, 0, none⟩) k1).trans c0
   have c1' := (hK.cell (p := ⟨w.heap.size + 1 + 1, 1, none⟩) k1).trans c1
   have c2' := (hK.frozen (p := ⟨w.heap.size + 1 + 1, 0, none⟩) k1).trans c2
   have c3' := (hK.frozen (p := ⟨w.heap.size + 1 + 1, 1, none⟩) k1).trans c3
   have k2 : w1.heap.size < w2.heap.size := by omega
   have k1' : w.heap.size + 1 + 1 < w2.heap.size := by omega
   have j0 : w.heap.size + 1 < w2.heap.size := by omega
   have j1 : w.heap.size < w2.heap.size := by omega
   have j2 : w1.heap.size ≤ w2.heap.size := by omega
   have hB0 := HB1.out
   have HB2 := Lib.hid (hB0.trans (hK.mono hB0.size))
   clear hc hb hz hK a0 a1 b0 b1 c0 c1 c2 c3 k0 k00 k1 hB0 HB1
   go_wp2_with fail
   refine (HD2.out _).mono ?_
   rintro e w3 ⟨rfl, hb⟩
   have hz := bsize hb
   simp at hz
   obtain ⟨hc, -⟩ := bcell hb
   have q0 : w3.cell? ⟨w2.heap.size, 0, none⟩ = some (.int .u64 (hiW x)) := (hc _ _ (by simp; try omega)).trans (by simp [go_sem])
   have q1 : w3.cell? ⟨w2.heap.size, 1, none⟩ = some (.int .u64 (loW x)) := (hc _ _ (by simp; try omega)).trans (by simp [go_sem])
   have hK : Below w2.heap.size w2 w3 := (by repeat (first | with_reducible exact Below.refl _ _ | (with_reducible refine Below.setCell ?_ (by first | exact Nat.le_refl _ | omega | (simp; done) | (simp; omega)) _) | (with_reducible refine Below.alloc ?_ (by first | exact Nat.le_refl _ | omega | (simp; done) | (simp; omega)) _) | with_reducible refine Below.drew ?_ | with_reducible refine bel_drewN ?_ _ | (with_reducible refine bel_by (by with_reducible assumption) (by first | exact Nat.le_refl _ | omega | (simp; done) | (simp; omega)) ?_)))
   have c0 := (hK.cell (p := ⟨w.heap.size + 1 + 1, 0, none⟩) k1').trans c0'
   have c1 := (hK.cell (p := ⟨w.heap.size + 1 + 1, 1, none⟩) k1').trans c1'
   have c2 := (hK.frozen (p := ⟨w.heap.size + 1 + 1, 0, none⟩) k1').trans c2'
   have c3 := (hK.frozen (p := ⟨w.heap.size + 1 + 1, 1, none⟩) k1').trans c3'
   have k1 : w.heap.size + 1 + 1 < w3.heap.size := by omega
   have k3 : w2.heap.size < w3.heap.size := by omega
   have j3 : w2.heap.size ≤ w3.heap.size := by omega
   have hB0 := HB2.out
   have HB3 := Lib.hid (hB0.trans (hK.mono hB0.size))
   clear hc hb hz hK b0' b1' c0' c1' c2' c3' g0' g1' k1' k2 j0 j1 j2 hB0 HB2
   go_wp2_with fail
   refine (HS1.out _).mono ?_
   rintro e w4 ⟨rfl, hb⟩
   have hz := bsize hb
   simp at hz
   obtain ⟨hc, -⟩ := bcell hb
   have r0 : w4.cell? ⟨w3.heap.size, 0, none⟩ = some (.int .u64 (hiW y)) := (hc _ _ (by simp; try omega)).trans (by simp [go_sem])
   have r1 : w4.cell? ⟨w3.heap.size, 1, none⟩ = some (.int .u64 (loW y)) := (hc _ _ (by simp; try omega)).trans (by simp [go_sem])
   have hK : Below w3.heap.size w3 w4 := (by repeat (first | with_reducible exact Below.refl _ _ | (with_reducible refine Below.setCell ?_ (by first | exact Nat.le_refl _ | omega | (simp; done) | (simp; omega)) _) | (with_reducible refine Below.alloc ?_ (by first | exact Nat.le_refl _ | omega | (simp; done) | (simp; omega)) _) | with_reducible refine Below.drew ?_ | with_reducible refine bel_drewN ?_ _ | (with_reducible refine bel_by (by with_reducible assumption) (by first | exact Nat.le_refl _ | omega | (simp; done) | (simp; omega)) ?_)))
   have q0' := (hK.cell (p := ⟨w2.heap.size, 0, none⟩) k3).trans q0
   have q1' := (hK.cell (p := ⟨w2.heap.size, 1, none⟩) k3).trans q1
   have c0' := (hK.cell (p := ⟨w.heap.size + 1 + 1, 0, none⟩) k1).trans c0
   have c1' := (hK.cell (p := ⟨w.heap.size + 1 + 1, 1, none⟩) k1).trans c1
   have c2' := (hK.frozen (p := ⟨w.heap.size + 1 + 1, 0, none⟩) k1).trans c2
   have c3' := (hK.frozen (p := ⟨w.heap.size + 1 + 1, 1, none⟩) k1).trans c3
   have k1' : w.heap.size + 1 + 1 < w4.heap.size := by omega
   have k3' : w2.heap.size < w4.heap.size := by omega
   have k4 : w3.heap.size < w4.heap.size := by omega
   clear j3
   have hB0 := HB3.out
   have HB4 := Lib.hid (hB0.trans (hK.mono hB0.size))
   clear hc hb hz hK c0 c1 c2 c3 q0 q1 k1 k3 hB0 HB3
   go_wp2_with fail
   refine (HS2.out _).mono ?_
   rintro e w5 ⟨rfl, hb⟩
   have hz := bsize hb
   have q1 := (hb.cell (p := ⟨w2.heap.size, 1, none⟩) k3').trans q1'
   have r1' := (hb.cell (p := ⟨w3.heap.size, 1, none⟩) k4).trans r1
   have c0 := (hb.cell (p := ⟨w.heap.size + 1 + 1, 0, none⟩) k1').trans c0'
   have c1 := (hb.cell (p := ⟨w.heap.size + 1 + 1, 1, none⟩) k1').trans c1'
   have c2 := (hb.frozen (p := ⟨w.heap.size + 1 + 1, 0, none⟩) k1').trans c2'
   have c3 := (hb.frozen (p := ⟨w.heap.size + 1 + 1, 1, none⟩) k1').trans c3'
   have hB0 := HB4.out
   have HB5 := Lib.hid (hB0.trans (hb.mono hB0.size))
   clear hb hz c0' c1' c2' c3' q0' q1' r0 r1 k1' k3' k4 hB0 HB4
   have ex := lx.out
   have ey := ly.out
   rw [ex] at q1
   rw [ey] at r1'
   clear ex ey
   go_wp2
   have hB5 := HB5.out
   refine bodyPost_ret (v := fracE (_, y, 0)) (by simp [results, Try.results69, go_sem, c0, c1, c2, c3, q1, r1']) rfl ⟨rfl, (by repeat (first | with_reducible exact Below.refl _ _ | (with_reducible refine Below.setCell ?_ (by first | exact Nat.le_refl _ | omega | (simp; done) | (simp; omega)) _) | (with_reducible refine Below.alloc ?_ (by first | exact Nat.le_refl _ | omega | (simp; done) | (simp; omega)) _) | with_reducible refine Below.drew ?_ | with_reducible refine bel_drewN ?_ _ | (with_reducible refine bel_by (by with_reducible assumption) (by first | exact Nat.le_refl _ | omega | (simp; done) | (simp; omega)) ?_)))⟩

theorem rbuild_any (neg : Bool) (n d : Int) (h1 : 0 ≤ n) (h1' : n < 170141183460469231731687303715884105728) (h2 : 0 < d) (h2' : d < 170141183460469231731687303715884105728) (w : World) :
    Calls Try.prog 69 #[.bool neg, .agg #[.int .u64 (hiW n), .int .u64 (loW n)], .agg #[.int .u64 (hiW d), .int .u64 (loW d)]] w fun e w' => e = .returned (fracE (bndI neg n d)) ∧ Below w.heap.size w w' := by
  rw [← bndI_nrm neg n d h1 h2]
  by_cases a1 : n / gcdI n d ≤ 1000000000000000000
  · by_cases a2 : d / gcdI n d ≤ 1000000000000000000
    · rw [nrm_ok ⟨a1, a2⟩]; exact rbuild_yes neg n d h1 h1' h2 h2' a1 a2 w
    · rw [nrm_bad (fun h => a2 h.2)]; exact rbuild_no2 neg n d h1 h1' h2 h2' a1 a2 w
  · rw [nrm_bad (fun h => a1 h.1)]; exact rbuild_no1 neg n d h1 h1' h2 h2' a1 w
end Go.Proofs.Ytbjmibaepccbeaa
