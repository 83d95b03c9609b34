/- The examples of the chapter: awake. -/
import Derived.Test.YtbjmibaepccbeaaIvN
import Derived.Test.YtbjmibaepccbeaaIvI
set_option linter.unusedSimpArgs false
set_option linter.unusedVariables false
namespace Go.Proofs.Ytbjmibaepccbeaa
open Go.RowKit
open Iv

set_option maxHeartbeats 1000000 in
theorem of_any (x y : Int) (w : World) : Calls Try.prog 36 #[.int .i64 x, .int .i64 y] w fun e w' => e = .returned (.agg #[.int .i64 x, .int .i64 1, .int .i64 y, .int .i64 1]) ∧ Below w.heap.size w w' := by
  go_enter Try.func36, Try.ntmps36
  go_wp2
  refine bodyPost_ret (v := .agg #[.int .i64 x, .int .i64 1, .int .i64 y, .int .i64 1]) (by simp [results, Try.results36, go_sem]) rfl ⟨rfl, (by repeat (first | with_reducible exact Below.refl _ _ | (with_reducible refine Below.setCell ?_ (by first | exact Nat.le_refl _ | omega | (simp; done) | (simp; omega)) _) | (with_reducible refine Below.alloc ?_ (by first | exact Nat.le_refl _ | omega | (simp; done) | (simp; omega)) _) | with_reducible refine Below.drew ?_ | with_reducible refine bel_drewN ?_ _ | (with_reducible refine bel_by (by with_reducible assumption) (by first | exact Nat.le_refl _ | omega | (simp; done) | (simp; omega)) ?_)))⟩
theorem eg_mul : doV 2 ((-1, 1), (2, 1)) ((-3, 1), (1, 1)) = (((-6, 1), (3, 1)), 0) := by decide +kernel
theorem eg_sub : doV 1 ((1, 1), (2, 1)) ((3, 1), (5, 1)) = (((-4, 1), (-1, 1)), 0) := by decide +kernel
theorem eg_div : divV ((1, 1), (2, 1)) (-2, 1) = (((-1, 1), (-1, 2)), 0) := by decide +kernel
theorem eg_max : doV 4 ((1, 1), (4, 1)) ((2, 1), (3, 1)) = (((2, 1), (4, 1)), 0) := by decide +kernel
theorem eg_int : interV ((1, 1), (2, 1)) ((4, 1), (5, 1)) = (((0, 0), (0, 0)), 8) := by decide +kernel
theorem eg_make : makeV (1, 2) (2, 1) = (((1, 2), (2, 1)), 0) := by decide +kernel
theorem eg_con : conV ((1, 2), (2, 1)) (1, 1) = true := by decide +kernel
theorem eg_ins : insV ((1, 1), (2, 1)) ((1, 2), (2, 1)) = true := by decide +kernel
theorem wfv_small (a b c d : Int) (h : (decide (-9 ≤ a ∧ a ≤ 9) && decide (-9 ≤ b ∧ b ≤ 9) && decide (-9 ≤ c ∧ c ≤ 9) && decide (-9 ≤ d ∧ d ≤ 9)) = true) : WfV ((a, b), (c, d)) := by
  simp only [Bool.and_eq_true, decide_eq_true_eq] at h
  refine ⟨⟨?_, ?_, ?_, ?_⟩, ⟨?_, ?_, ?_, ?_⟩⟩ <;> simp only <;> omega
theorem wff_small (a b : Int) (h : (decide (-9 ≤ a ∧ a ≤ 9) && decide (-9 ≤ b ∧ b ≤ 9)) = true) : Wf64 (a, b) := by
  simp only [Bool.and_eq_true, decide_eq_true_eq] at h
  refine ⟨?_, ?_, ?_, ?_⟩ <;> simp only <;> omega
/-- the intervals that the examples have made -/
structure Aw (w : World) (g1 g2 g3 g4 g6 : Nat) : Prop where
  r1 : AlB w g1 ((-6, 1), (3, 1))
  r2 : AlB w g2 ((-4, 1), (-1, 1))
  r3 : AlB w g3 ((-1, 1), (-1, 2))
  r4 : AlB w g4 ((2, 1), (4, 1))
  r6 : AlB w g6 ((1, 2), (2, 1))
theorem Aw.keep {w w' : World} {g1 g2 g3 g4 g6 : Nat} (h : Aw w g1 g2 g3 g4 g6) (hB : Below w.heap.size w w') : Aw w' g1 g2 g3 g4 g6 := ⟨h.r1.keep hB, h.r2.keep hB, h.r3.keep hB, h.r4.keep hB, h.r6.keep hB⟩
set_option maxHeartbeats 16000000 in
set_option maxRecDepth 100000 in
theorem awake_any (w : World) : Calls Try.prog 10 #[] w fun e w' => e = .returned (.bool true) ∧ Below w.heap.size w w' := by
  have HB := Lib.hid (Below.refl w.heap.size w)
  go_enter Try.func10, Try.ntmps10
  go_wp2_with fail
  refine (of_any (-1) 2 _).mono ?_
  rintro e y1 ⟨rfl, hb⟩
  replace HB := Lib.hid (HB.out.trans (hb.mono HB.out.size))
  clear hb
  go_wp2_with fail
  refine (of_any (-3) 1 _).mono ?_
  rintro e y2 ⟨rfl, hb⟩
  replace HB := Lib.hid (HB.out.trans (hb.mono HB.out.size))
  clear hb
  go_wp2_with fail
  have hop := imul_any ((-1, 1), (2, 1)) ((-3, 1), (1, 1)) (wfv_small (-1) 1 2 1 (by decide)) (wfv_small (-3) 1 1 1 (by decide))
  rw [eg_mul] at hop
  refine (hop _).mono ?_
  rintro e y3 ⟨rfl, hb⟩
  replace HB := Lib.hid (HB.out.trans (hb.mono HB.out.size))
  clear hb
  go_wp2_with fail
  clear hop
  have hal : Below y3.heap.size y3 (y3.alloc (.cells #[.int .i64 (-6), .int .i64 1, .int .i64 3, .int .i64 1] 25)) := (Below.refl _ _).alloc (Nat.le_refl _) _
  replace HB := Lib.hid (HB.out.trans (hal.mono HB.out.size))
  have A1 := Lib.hid (al_new y3 (-6) 1 3 1)
  generalize y3.alloc (.cells #[.int .i64 (-6), .int .i64 1, .int .i64 3, .int .i64 1] 25) = x4 at *
  clear hal
  refine (of_any 1 2 _).mono ?_
  rintro e y5 ⟨rfl, hb⟩
  replace HB := Lib.hid (HB.out.trans (hb.mono HB.out.size))
  replace A1 := Lib.hid (A1.out.keep hb)
  clear hb
  go_wp2_with fail
  refine (of_any 3 5 _).mono ?_
  rintro e y6 ⟨rfl, hb⟩
  replace HB := Lib.hid (HB.out.trans (hb.mono HB.out.size))
  replace A1 := Lib.hid (A1.out.keep hb)
  clear hb
  go_wp2_with fail
  have hop := isub_any ((1, 1), (2, 1)) ((3, 1), (5, 1)) (wfv_small 1 1 2 1 (by decide)) (wfv_small 3 1 5 1 (by decide))
  rw [eg_sub] at hop
  refine (hop _).mono ?_
  rintro e y7 ⟨rfl, hb⟩
  replace HB := Lib.hid (HB.out.trans (hb.mono HB.out.size))
  replace A1 := Lib.hid (A1.out.keep hb)
  clear hb
  go_wp2_with fail
  clear hop
  have hal : Below y7.heap.size y7 (y7.alloc (.cells #[.int .i64 (-4), .int .i64 1, .int .i64 (-1), .int .i64 1] 25)) := (Below.refl _ _).alloc (Nat.le_refl _) _
  replace HB := Lib.hid (HB.out.trans (hal.mono HB.out.size))
  replace A1 := Lib.hid (A1.out.keep hal)
  have A2 := Lib.hid (al_new y7 (-4) 1 (-1) 1)
  generalize y7.alloc (.cells #[.int .i64 (-4), .int .i64 1, .int .i64 (-1), .int .i64 1] 25) = x8 at *
  clear hal
  refine (of_any 1 2 _).mono ?_
  rintro e y9 ⟨rfl, hb⟩
  replace HB := Lib.hid (HB.out.trans (hb.mono HB.out.size))
  replace A1 := Lib.hid (A1.out.keep hb)
  replace A2 := Lib.hid (A2.out.keep hb)
  clear hb
  go_wp2_with fail
  have hop := idiv_any ((1, 1), (2, 1)) (-2, 1) (wfv_small 1 1 2 1 (by decide)) (wff_small (-2) 1 (by decide))
  rw [eg_div] at hop
  refine (hop _).mono ?_
  rintro e y10 ⟨rfl, hb⟩
  replace HB := Lib.hid (HB.out.trans (hb.mono HB.out.size))
  replace A1 := Lib.hid (A1.out.keep hb)
  replace A2 := Lib.hid (A2.out.keep hb)
  clear hb
  go_wp2_with fail
  clear hop
  have hal : Below y10.heap.size y10 (y10.alloc (.cells #[.int .i64 (-1), .int .i64 1, .int .i64 (-1), .int .i64 2] 25)) := (Below.refl _ _).alloc (Nat.le_refl _) _
  replace HB := Lib.hid (HB.out.trans (hal.mono HB.out.size))
  replace A1 := Lib.hid (A1.out.keep hal)
  replace A2 := Lib.hid (A2.out.keep hal)
  have A3 := Lib.hid (al_new y10 (-1) 1 (-1) 2)
  generalize y10.alloc (.cells #[.int .i64 (-1), .int .i64 1, .int .i64 (-1), .int .i64 2] 25) = x11 at *
  clear hal
  refine (of_any 1 4 _).mono ?_
  rintro e y12 ⟨rfl, hb⟩
  replace HB := Lib.hid (HB.out.trans (hb.mono HB.out.size))
  replace A1 := Lib.hid (A1.out.keep hb)
  replace A2 := Lib.hid (A2.out.keep hb)
  replace A3 := Lib.hid (A3.out.keep hb)
  clear hb
  go_wp2_with fail
  refine (of_any 2 3 _).mono ?_
  rintro e y13 ⟨rfl, hb⟩
  replace HB := Lib.hid (HB.out.trans (hb.mono HB.out.size))
  replace A1 := Lib.hid (A1.out.keep hb)
  replace A2 := Lib.hid (A2.out.keep hb)
  replace A3 := Lib.hid (A3.out.keep hb)
  clear hb
  go_wp2_with fail
  have hop := imax_any ((1, 1), (4, 1)) ((2, 1), (3, 1)) (wfv_small 1 1 4 1 (by decide)) (wfv_small 2 1 3 1 (by decide))
  rw [eg_max] at hop
  refine (hop _).mono ?_
  rintro e y14 ⟨rfl, hb⟩
  replace HB := Lib.hid (HB.out.trans (hb.mono HB.out.size))
  replace A1 := Lib.hid (A1.out.keep hb)
  replace A2 := Lib.hid (A2.out.keep hb)
  replace A3 := Lib.hid (A3.out.keep hb)
  clear hb
  go_wp2_with fail
  clear hop
  have hal : Below y14.heap.size y14 (y14.alloc (.cells #[.int .i64 2, .int .i64 1, .int .i64 4, .int .i64 1] 25)) := (Below.refl _ _).alloc (Nat.le_refl _) _
  replace HB := Lib.hid (HB.out.trans (hal.mono HB.out.size))
  replace A1 := Lib.hid (A1.out.keep hal)
  replace A2 := Lib.hid (A2.out.keep hal)
  replace A3 := Lib.hid (A3.out.keep hal)
  have A4 := Lib.hid (al_new y14 2 1 4 1)
  generalize y14.alloc (.cells #[.int .i64 2, .int .i64 1, .int .i64 4, .int .i64 1] 25) = x15 at *
  clear hal
  refine (of_any 1 2 _).mono ?_
  rintro e y16 ⟨rfl, hb⟩
  replace HB := Lib.hid (HB.out.trans (hb.mono HB.out.size))
  replace A1 := Lib.hid (A1.out.keep hb)
  replace A2 := Lib.hid (A2.out.keep hb)
  replace A3 := Lib.hid (A3.out.keep hb)
  replace A4 := Lib.hid (A4.out.keep hb)
  clear hb
  go_wp2_with fail
  refine (of_any 4 5 _).mono ?_
  rintro e y17 ⟨rfl, hb⟩
  replace HB := Lib.hid (HB.out.trans (hb.mono HB.out.size))
  replace A1 := Lib.hid (A1.out.keep hb)
  replace A2 := Lib.hid (A2.out.keep hb)
  replace A3 := Lib.hid (A3.out.keep hb)
  replace A4 := Lib.hid (A4.out.keep hb)
  clear hb
  go_wp2_with fail
  have hop := iinter_any ((1, 1), (2, 1)) ((4, 1), (5, 1)) (wfv_small 1 1 2 1 (by decide)) (wfv_small 4 1 5 1 (by decide))
  rw [eg_int] at hop
  refine (hop _).mono ?_
  rintro e y18 ⟨rfl, hb⟩
  replace HB := Lib.hid (HB.out.trans (hb.mono HB.out.size))
  replace A1 := Lib.hid (A1.out.keep hb)
  replace A2 := Lib.hid (A2.out.keep hb)
  replace A3 := Lib.hid (A3.out.keep hb)
  replace A4 := Lib.hid (A4.out.keep hb)
  clear hb
  go_wp2_with fail
  clear hop
  have hop := imake_any (1, 2) (2, 1) (wff_small 1 2 (by decide)) (wff_small 2 1 (by decide))
  rw [eg_make] at hop
  have hal : Below y18.heap.size y18 (y18.alloc (.cells #[.int .i64 0, .int .i64 0, .int .i64 0, .int .i64 0] 25)) := (Below.refl _ _).alloc (Nat.le_refl _) _
  replace HB := Lib.hid (HB.out.trans (hal.mono HB.out.size))
  replace A1 := Lib.hid (A1.out.keep hal)
  replace A2 := Lib.hid (A2.out.keep hal)
  replace A3 := Lib.hid (A3.out.keep hal)
  replace A4 := Lib.hid (A4.out.keep hal)
  have A5 := Lib.hid (al_new y18 0 0 0 0)
  generalize y18.alloc (.cells #[.int .i64 0, .int .i64 0, .int .i64 0, .int .i64 0] 25) = x19 at *
  clear hal
  refine (hop _).mono ?_
  rintro e y20 ⟨rfl, hb⟩
  replace HB := Lib.hid (HB.out.trans (hb.mono HB.out.size))
  replace A1 := Lib.hid (A1.out.keep hb)
  replace A2 := Lib.hid (A2.out.keep hb)
  replace A3 := Lib.hid (A3.out.keep hb)
  replace A4 := Lib.hid (A4.out.keep hb)
  replace A5 := Lib.hid (A5.out.keep hb)
  clear hb
  go_wp2_with fail
  clear hop
  have hal : Below y20.heap.size y20 (y20.alloc (.cells #[.int .i64 1, .int .i64 2, .int .i64 2, .int .i64 1] 25)) := (Below.refl _ _).alloc (Nat.le_refl _) _
  replace HB := Lib.hid (HB.out.trans (hal.mono HB.out.size))
  replace A1 := Lib.hid (A1.out.keep hal)
  replace A2 := Lib.hid (A2.out.keep hal)
  replace A3 := Lib.hid (A3.out.keep hal)
  replace A4 := Lib.hid (A4.out.keep hal)
  replace A5 := Lib.hid (A5.out.keep hal)
  have A6 := Lib.hid (al_new y20 1 2 2 1)
  generalize y20.alloc (.cells #[.int .i64 1, .int .i64 2, .int .i64 2, .int .i64 1] 25) = x21 at *
  clear hal
  have H0 := Lib.hid (show Aw x21 (y3.heap.size) (y7.heap.size) (y10.heap.size) (y14.heap.size) (y20.heap.size) from ⟨A1.out, A2.out, A3.out, A4.out, A6.out⟩)
  clear A1 A2 A3 A4 A5 A6
  obtain ⟨g0, hg0⟩ : ∃ g, y3.heap.size = g := ⟨_, rfl⟩
  rw [hg0] at H0 ⊢
  clear hg0
  obtain ⟨g1, hg1⟩ : ∃ g, y7.heap.size = g := ⟨_, rfl⟩
  rw [hg1] at H0 ⊢
  clear hg1
  obtain ⟨g2, hg2⟩ : ∃ g, y10.heap.size = g := ⟨_, rfl⟩
  rw [hg2] at H0 ⊢
  clear hg2
  obtain ⟨g3, hg3⟩ : ∃ g, y14.heap.size = g := ⟨_, rfl⟩
  rw [hg3] at H0 ⊢
  clear hg3
  obtain ⟨g4, hg4⟩ : ∃ g, y20.heap.size = g := ⟨_, rfl⟩
  rw [hg4] at H0 ⊢
  clear hg4
  dsimp only [List.append_eq, List.cons_append, List.nil_append]
  have HD := Lib.hid (H0.out.keep (Below.refl _ _).drew)
  have hcon := icontains_any ((1, 2), (2, 1)) (1, 1) (wfv_small 1 2 2 1 (by decide)) (wff_small 1 1 (by decide))
  rw [eg_con] at hcon
  have hins := iinside_any ((1, 1), (2, 1)) ((1, 2), (2, 1)) (wfv_small 1 1 2 1 (by decide)) (wfv_small 1 2 2 1 (by decide))
  rw [eg_ins] at hins
  have HCON := Lib.hid hcon
  have HINS := Lib.hid hins
  clear hcon hins
  go_region_held3 (fun w' => w'.cell? ⟨g0, 0, none⟩ = some (.int .i64 (-6)) ∧ w'.cell? ⟨g0, 1, none⟩ = some (.int .i64 1) ∧ w'.cell? ⟨g0, 2, none⟩ = some (.int .i64 3) ∧ w'.cell? ⟨g0, 3, none⟩ = some (.int .i64 1) ∧ w'.cell? ⟨g1, 0, none⟩ = some (.int .i64 (-4)) ∧ w'.cell? ⟨g1, 1, none⟩ = some (.int .i64 1) ∧ w'.cell? ⟨g1, 2, none⟩ = some (.int .i64 (-1)) ∧ w'.cell? ⟨g1, 3, none⟩ = some (.int .i64 1) ∧ w'.cell? ⟨g2, 0, none⟩ = some (.int .i64 (-1)) ∧ w'.cell? ⟨g2, 1, none⟩ = some (.int .i64 1) ∧ w'.cell? ⟨g2, 2, none⟩ = some (.int .i64 (-1)) ∧ w'.cell? ⟨g2, 3, none⟩ = some (.int .i64 2) ∧ w'.cell? ⟨g3, 0, none⟩ = some (.int .i64 2) ∧ w'.cell? ⟨g3, 1, none⟩ = some (.int .i64 1) ∧ w'.cell? ⟨g3, 2, none⟩ = some (.int .i64 4) ∧ w'.cell? ⟨g3, 3, none⟩ = some (.int .i64 1) ∧ w'.cell? ⟨g4, 0, none⟩ = some (.int .i64 1) ∧ w'.cell? ⟨g4, 1, none⟩ = some (.int .i64 2) ∧ w'.cell? ⟨g4, 2, none⟩ = some (.int .i64 2) ∧ w'.cell? ⟨g4, 3, none⟩ = some (.int .i64 1))
    ((first | with_reducible exact ⟨HD.out.r1.c0, HD.out.r1.c1, HD.out.r1.c2, HD.out.r1.c3, HD.out.r2.c0, HD.out.r2.c1, HD.out.r2.c2, HD.out.r2.c3, HD.out.r3.c0, HD.out.r3.c1, HD.out.r3.c2, HD.out.r3.c3, HD.out.r4.c0, HD.out.r4.c1, HD.out.r4.c2, HD.out.r4.c3, HD.out.r6.c0, HD.out.r6.c1, HD.out.r6.c2, HD.out.r6.c3⟩ | with_reducible exact ⟨H1.out.r1.c0, H1.out.r1.c1, H1.out.r1.c2, H1.out.r1.c3, H1.out.r2.c0, H1.out.r2.c1, H1.out.r2.c2, H1.out.r2.c3, H1.out.r3.c0, H1.out.r3.c1, H1.out.r3.c2, H1.out.r3.c3, H1.out.r4.c0, H1.out.r4.c1, H1.out.r4.c2, H1.out.r4.c3, H1.out.r6.c0, H1.out.r6.c1, H1.out.r6.c2, H1.out.r6.c3⟩ | with_reducible exact ⟨H2.out.r1.c0, H2.out.r1.c1, H2.out.r1.c2, H2.out.r1.c3, H2.out.r2.c0, H2.out.r2.c1, H2.out.r2.c2, H2.out.r2.c3, H2.out.r3.c0, H2.out.r3.c1, H2.out.r3.c2, H2.out.r3.c3, H2.out.r4.c0, H2.out.r4.c1, H2.out.r4.c2, H2.out.r4.c3, H2.out.r6.c0, H2.out.r6.c1, H2.out.r6.c2, H2.out.r6.c3⟩ | with_reducible exact ⟨H3.out.r1.c0, H3.out.r1.c1, H3.out.r1.c2, H3.out.r1.c3, H3.out.r2.c0, H3.out.r2.c1, H3.out.r2.c2, H3.out.r2.c3, H3.out.r3.c0, H3.out.r3.c1, H3.out.r3.c2, H3.out.r3.c3, H3.out.r4.c0, H3.out.r4.c1, H3.out.r4.c2, H3.out.r4.c3, H3.out.r6.c0, H3.out.r6.c1, H3.out.r6.c2, H3.out.r6.c3⟩ | with_reducible exact ⟨H4.out.r1.c0, H4.out.r1.c1, H4.out.r1.c2, H4.out.r1.c3, H4.out.r2.c0, H4.out.r2.c1, H4.out.r2.c2, H4.out.r2.c3, H4.out.r3.c0, H4.out.r3.c1, H4.out.r3.c2, H4.out.r3.c3, H4.out.r4.c0, H4.out.r4.c1, H4.out.r4.c2, H4.out.r4.c3, H4.out.r6.c0, H4.out.r6.c1, H4.out.r6.c2, H4.out.r6.c3⟩ | with_reducible exact ⟨H5.out.r1.c0, H5.out.r1.c1, H5.out.r1.c2, H5.out.r1.c3, H5.out.r2.c0, H5.out.r2.c1, H5.out.r2.c2, H5.out.r2.c3, H5.out.r3.c0, H5.out.r3.c1, H5.out.r3.c2, H5.out.r3.c3, H5.out.r4.c0, H5.out.r4.c1, H5.out.r4.c2, H5.out.r4.c3, H5.out.r6.c0, H5.out.r6.c1, H5.out.r6.c2, H5.out.r6.c3⟩ | with_reducible exact ⟨H6.out.r1.c0, H6.out.r1.c1, H6.out.r1.c2, H6.out.r1.c3, H6.out.r2.c0, H6.out.r2.c1, H6.out.r2.c2, H6.out.r2.c3, H6.out.r3.c0, H6.out.r3.c1, H6.out.r3.c2, H6.out.r3.c3, H6.out.r4.c0, H6.out.r4.c1, H6.out.r4.c2, H6.out.r4.c3, H6.out.r6.c0, H6.out.r6.c1, H6.out.r6.c2, H6.out.r6.c3⟩))
    (first
      | (go_at_call_of 36 (Value.int .i64 3); refine (of_any (-6) 3 _).mono ?_; rintro e v0 ⟨rfl, hv0⟩; have H1 := Lib.hid (HD.out.keep hv0))
      | (go_at_call_of 36 (Value.int .i64 4); refine (of_any 2 4 _).mono ?_; rintro e v2 ⟨rfl, hv2⟩; have H3 := Lib.hid (H2.out.keep hv2))
      | (go_at_call 14; refine (HCON.out _).mono ?_; rintro e v3 ⟨rfl, hv3⟩; have H4 := Lib.hid (H3.out.keep hv3))
      | (go_at_call_of 36 (Value.int .i64 2); refine (of_any 1 2 _).mono ?_; rintro e v4 ⟨rfl, hv4⟩; have H5 := Lib.hid (H4.out.keep hv4))
      | (go_at_call 16; refine (HINS.out _).mono ?_; rintro e v5 ⟨rfl, hv5⟩; have H6 := Lib.hid (H5.out.keep hv5))
      | (go_at_call 36; refine (of_any (-4) (-1) _).mono ?_; rintro e v1 ⟨rfl, hv1⟩; have H2 := Lib.hid (H1.out.keep hv1)))
  have HB1 := Lib.hid (HB.out.trans ((undrew hv0).mono HB.out.size))
  have HB2 := Lib.hid (HB1.out.trans (hv1.mono HB1.out.size))
  have HB3 := Lib.hid (HB2.out.trans (hv2.mono HB2.out.size))
  have HB4 := Lib.hid (HB3.out.trans (hv3.mono HB3.out.size))
  have HB5 := Lib.hid (HB4.out.trans (hv4.mono HB4.out.size))
  have HB6 := Lib.hid (HB5.out.trans (hv5.mono HB5.out.size))
  clear hv0 hv1 hv2 hv3 hv4 hv5 H0 HD H1 H2 H3 H4 H5 H6 HCON HINS HB HB1 HB2 HB3 HB4 HB5
  go_wp2
  go_ret
  exact ⟨rfl, HB6.out⟩
end Go.Proofs.Ytbjmibaepccbeaa
