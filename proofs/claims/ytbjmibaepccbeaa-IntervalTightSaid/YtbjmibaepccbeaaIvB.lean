/- Intervals: the program's Scale, Div, Width, Neg. -/
import Derived.Test.YtbjmibaepccbeaaIvO
import Derived.Test.YtbjmibaepccbeaaRgn
set_option linter.unusedSimpArgs false
set_option linter.unusedVariables false
namespace Go.Proofs.Ytbjmibaepccbeaa
open Go.RowKit
open Iv

set_option maxHeartbeats 4000000 in
set_option maxRecDepth 100000 in
theorem iscale_any (a : V) (f : F) (ha : WfV a) (hf : Wf64 f) (w : World) :
    Calls Try.prog 20 #[(.agg #[.int .i64 (a).1.1, .int .i64 (a).1.2, .int .i64 (a).2.1, .int .i64 (a).2.2]), (.agg #[.int .i64 (f).1, .int .i64 (f).2])] w fun e w' => e = .returned (.tuple #[(.agg #[.int .i64 ((scaleV a f).1).1.1, .int .i64 ((scaleV a f).1).1.2, .int .i64 ((scaleV a f).1).2.1, .int .i64 ((scaleV a f).1).2.2]), .int .i64 (scaleV a f).2]) ∧ Below w.heap.size w w' := by
  have H := Lib.hid (iok_any a ha)
  have HS := Lib.hid (ispan2_any 32 (opR 2) fr_mul (fun _ _ => by kernel_rfl) (opR_wf 2 (by decide) (by decide)) (a.1, f) (a.2, f) ⟨ha.l, hf⟩ ⟨ha.h, hf⟩)
  clear ha hf
  unfold scaleV
  simp only at HS
  obtain ⟨X, hX⟩ : ∃ X, spanV [opR 2 a.1 f, opR 2 a.2 f] = X := ⟨_, rfl⟩
  rw [hX] at HS ⊢
  clear hX
  cases hv : okV a
  all_goals
    rw [hv] at H
    clear hv
    obtain ⟨⟨a1, a2⟩, ⟨a3, a4⟩⟩ := a
    obtain ⟨f1, f2⟩ := f
    obtain ⟨⟨⟨x1, x2⟩, ⟨x3, x4⟩⟩, xe⟩ := X
    simp only [if_true, if_false, Bool.false_eq_true] at *
  · clear HS
    go_enter Try.func20, Try.ntmps20
    go_wp2_with fail
    refine (H.out _).mono ?_
    rintro e w1 ⟨rfl, hb1⟩
    obtain ⟨hc1, hf1⟩ := bcell hb1
    have hz1 := bsize hb1
    (try simp at hz1)
    have k1a : w.heap.size < w1.heap.size := by omega
    have k1b : w.heap.size + 1 < w1.heap.size := by omega
    have k1c : w.heap.size + 1 + 1 < w1.heap.size := by omega
    go_wp2
    refine bodyPost_ret (v := .tuple #[.agg #[.int .i64 0, .int .i64 0, .int .i64 0, .int .i64 0], .int .i64 1]) (by simp [results, Try.results20, go_sem, hc1, hf1, k1a, k1b, k1c]) rfl ⟨rfl, (by repeat (first | with_reducible exact Below.refl _ _ | (with_reducible refine Below.setCell ?_ (by first | exact Nat.le_refl _ | omega | (simp; done) | (simp; omega)) _) | (with_reducible refine Below.alloc ?_ (by first | exact Nat.le_refl _ | omega | (simp; done) | (simp; omega)) _) | with_reducible refine Below.drew ?_ | with_reducible refine bel_drewN ?_ _ | (with_reducible refine bel_by (by with_reducible assumption) (by first | exact Nat.le_refl _ | omega | (simp; done) | (simp; omega)) ?_)))⟩
  · go_enter Try.func20, Try.ntmps20
    go_wp2_with fail
    refine (H.out _).mono ?_
    rintro e w1 ⟨rfl, hb1⟩
    obtain ⟨hc1, hf1⟩ := bcell hb1
    have hz1 := bsize hb1
    (try simp at hz1)
    have k1a : w.heap.size < w1.heap.size := by omega
    have k1b : w.heap.size + 1 < w1.heap.size := by omega
    have k1c : w.heap.size + 1 + 1 < w1.heap.size := by omega
    go_wp2_with fail
    refine (HS.out _ _ ?_ ?_).mono ?_
    · simp
    · exact vs_two (by simp [go_sem]) (by simp [go_sem]) (by simp [go_sem]) (by simp [go_sem]) (by simp [go_sem]) (by simp [go_sem]) (by simp [go_sem]) (by simp [go_sem])
    rintro e w2 ⟨rfl, hb2⟩
    obtain ⟨hc2, hf2⟩ := bcell hb2
    have hz2 := bsize hb2
    (try simp at hz2)
    have k2a : w.heap.size < w2.heap.size := by omega
    have k2b : w.heap.size + 1 < w2.heap.size := by omega
    have k2c : w.heap.size + 1 + 1 < w2.heap.size := by omega
    go_wp2
    refine bodyPost_ret (v := .tuple #[.agg #[.int .i64 x1, .int .i64 x2, .int .i64 x3, .int .i64 x4], .int .i64 xe]) (by simp [results, Try.results20, go_sem, hc2, hf2, k2a, k2b, k2c, hc1, hf1, k1a, k1b, k1c]) rfl ⟨rfl, (by repeat (first | with_reducible exact Below.refl _ _ | (with_reducible refine Below.setCell ?_ (by first | exact Nat.le_refl _ | omega | (simp; done) | (simp; omega)) _) | (with_reducible refine Below.alloc ?_ (by first | exact Nat.le_refl _ | omega | (simp; done) | (simp; omega)) _) | with_reducible refine Below.drew ?_ | with_reducible refine bel_drewN ?_ _ | (with_reducible refine bel_by (by with_reducible assumption) (by first | exact Nat.le_refl _ | omega | (simp; done) | (simp; omega)) ?_)))⟩
set_option maxHeartbeats 4000000 in
set_option maxRecDepth 100000 in
theorem idiv_any (a : V) (f : F) (ha : WfV a) (hf : Wf64 f) (w : World) :
    Calls Try.prog 21 #[(.agg #[.int .i64 (a).1.1, .int .i64 (a).1.2, .int .i64 (a).2.1, .int .i64 (a).2.2]), (.agg #[.int .i64 (f).1, .int .i64 (f).2])] w fun e w' => e = .returned (.tuple #[(.agg #[.int .i64 ((divV a f).1).1.1, .int .i64 ((divV a f).1).1.2, .int .i64 ((divV a f).1).2.1, .int .i64 ((divV a f).1).2.2]), .int .i64 (divV a f).2]) ∧ Below w.heap.size w w' := by
  have H := Lib.hid (iok_any a ha)
  have HS := Lib.hid (ispan2_any 33 (opR 5) fr_div (fun _ _ => by kernel_rfl) (opR_wf 5 (by decide) (by decide)) (a.1, f) (a.2, f) ⟨ha.l, hf⟩ ⟨ha.h, hf⟩)
  clear ha hf
  unfold divV
  simp only at HS
  obtain ⟨X, hX⟩ : ∃ X, spanV [opR 5 a.1 f, opR 5 a.2 f] = X := ⟨_, rfl⟩
  rw [hX] at HS ⊢
  clear hX
  cases hv : okV a
  all_goals
    rw [hv] at H
    clear hv
    obtain ⟨⟨a1, a2⟩, ⟨a3, a4⟩⟩ := a
    obtain ⟨f1, f2⟩ := f
    obtain ⟨⟨⟨x1, x2⟩, ⟨x3, x4⟩⟩, xe⟩ := X
    simp only [if_true, if_false, Bool.false_eq_true] at *
  · clear HS
    go_enter Try.func21, Try.ntmps21
    go_wp2_with fail
    refine (H.out _).mono ?_
    rintro e w1 ⟨rfl, hb1⟩
    obtain ⟨hc1, hf1⟩ := bcell hb1
    have hz1 := bsize hb1
    (try simp at hz1)
    have k1a : w.heap.size < w1.heap.size := by omega
    have k1b : w.heap.size + 1 < w1.heap.size := by omega
    have k1c : w.heap.size + 1 + 1 < w1.heap.size := by omega
    go_wp2
    refine bodyPost_ret (v := .tuple #[.agg #[.int .i64 0, .int .i64 0, .int .i64 0, .int .i64 0], .int .i64 1]) (by simp [results, Try.results21, go_sem, hc1, hf1, k1a, k1b, k1c]) rfl ⟨rfl, (by repeat (first | with_reducible exact Below.refl _ _ | (with_reducible refine Below.setCell ?_ (by first | exact Nat.le_refl _ | omega | (simp; done) | (simp; omega)) _) | (with_reducible refine Below.alloc ?_ (by first | exact Nat.le_refl _ | omega | (simp; done) | (simp; omega)) _) | with_reducible refine Below.drew ?_ | with_reducible refine bel_drewN ?_ _ | (with_reducible refine bel_by (by with_reducible assumption) (by first | exact Nat.le_refl _ | omega | (simp; done) | (simp; omega)) ?_)))⟩
  · go_enter Try.func21, Try.ntmps21
    go_wp2_with fail
    refine (H.out _).mono ?_
    rintro e w1 ⟨rfl, hb1⟩
    obtain ⟨hc1, hf1⟩ := bcell hb1
    have hz1 := bsize hb1
    (try simp at hz1)
    have k1a : w.heap.size < w1.heap.size := by omega
    have k1b : w.heap.size + 1 < w1.heap.size := by omega
    have k1c : w.heap.size + 1 + 1 < w1.heap.size := by omega
    go_wp2_with fail
    refine (HS.out _ _ ?_ ?_).mono ?_
    · simp
    · exact vs_two (by simp [go_sem]) (by simp [go_sem]) (by simp [go_sem]) (by simp [go_sem]) (by simp [go_sem]) (by simp [go_sem]) (by simp [go_sem]) (by simp [go_sem])
    rintro e w2 ⟨rfl, hb2⟩
    obtain ⟨hc2, hf2⟩ := bcell hb2
    have hz2 := bsize hb2
    (try simp at hz2)
    have k2a : w.heap.size < w2.heap.size := by omega
    have k2b : w.heap.size + 1 < w2.heap.size := by omega
    have k2c : w.heap.size + 1 + 1 < w2.heap.size := by omega
    go_wp2
    refine bodyPost_ret (v := .tuple #[.agg #[.int .i64 x1, .int .i64 x2, .int .i64 x3, .int .i64 x4], .int .i64 xe]) (by simp [results, Try.results21, go_sem, hc2, hf2, k2a, k2b, k2c, hc1, hf1, k1a, k1b, k1c]) rfl ⟨rfl, (by repeat (first | with_reducible exact Below.refl _ _ | (with_reducible refine Below.setCell ?_ (by first | exact Nat.le_refl _ | omega | (simp; done) | (simp; omega)) _) | (with_reducible refine Below.alloc ?_ (by first | exact Nat.le_refl _ | omega | (simp; done) | (simp; omega)) _) | with_reducible refine Below.drew ?_ | with_reducible refine bel_drewN ?_ _ | (with_reducible refine bel_by (by with_reducible assumption) (by first | exact Nat.le_refl _ | omega | (simp; done) | (simp; omega)) ?_)))⟩
set_option maxHeartbeats 2000000 in
set_option maxRecDepth 100000 in
theorem iwidth_any (a : V) (ha : WfV a) (w : World) :
    Calls Try.prog 22 #[(.agg #[.int .i64 (a).1.1, .int .i64 (a).1.2, .int .i64 (a).2.1, .int .i64 (a).2.2])] w fun e w' => e = .returned (.tuple #[(.agg #[.int .i64 ((widthV a).1).1, .int .i64 ((widthV a).1).2]), .int .i64 (widthV a).2]) ∧ Below w.heap.size w w' := by
  have H := Lib.hid (iok_any a ha)
  have HS := Lib.hid (show ∀ W : World, Calls Try.prog 49 #[(.agg #[.int .i64 (a.2).1, .int .i64 (a.2).2]), (.agg #[.int .i64 (a.1).1, .int .i64 (a.1).2])] W fun e w' => e = .returned (.tuple #[(.agg #[.int .i64 ((opR 1 a.2 a.1).1).1, .int .i64 ((opR 1 a.2 a.1).1).2]), .int .i64 (opR 1 a.2 a.1).2]) ∧ Below W.heap.size W w' from fun W => sub_any a.2.1 a.2.2 a.1.1 a.1.2 ha.h ha.l W)
  clear ha
  unfold widthV
  obtain ⟨X, hX⟩ : ∃ X, opR 1 a.2 a.1 = X := ⟨_, rfl⟩
  rw [hX] at HS ⊢
  clear hX
  cases hv : okV a
  all_goals
    rw [hv] at H
    clear hv
    obtain ⟨⟨a1, a2⟩, ⟨a3, a4⟩⟩ := a
    obtain ⟨⟨x1, x2⟩, xe⟩ := X
    simp only [if_true, if_false, Bool.false_eq_true] at *
  · clear HS
    go_enter Try.func22, Try.ntmps22
    go_wp2_with fail
    refine (H.out _).mono ?_
    rintro e w1 ⟨rfl, hb1⟩
    obtain ⟨hc1, hf1⟩ := bcell hb1
    have hz1 := bsize hb1
    (try simp at hz1)
    have k1a : w.heap.size < w1.heap.size := by omega
    have k1b : w.heap.size + 1 < w1.heap.size := by omega
    go_wp2
    refine bodyPost_ret (v := .tuple #[.agg #[.int .i64 0, .int .i64 0], .int .i64 1]) (by simp [results, Try.results22, go_sem, hc1, hf1, k1a, k1b]) rfl ⟨rfl, (by repeat (first | with_reducible exact Below.refl _ _ | (with_reducible refine Below.setCell ?_ (by first | exact Nat.le_refl _ | omega | (simp; done) | (simp; omega)) _) | (with_reducible refine Below.alloc ?_ (by first | exact Nat.le_refl _ | omega | (simp; done) | (simp; omega)) _) | with_reducible refine Below.drew ?_ | with_reducible refine bel_drewN ?_ _ | (with_reducible refine bel_by (by with_reducible assumption) (by first | exact Nat.le_refl _ | omega | (simp; done) | (simp; omega)) ?_)))⟩
  · go_enter Try.func22, Try.ntmps22
    go_wp2_with fail
    refine (H.out _).mono ?_
    rintro e w1 ⟨rfl, hb1⟩
    obtain ⟨hc1, hf1⟩ := bcell hb1
    have hz1 := bsize hb1
    (try simp at hz1)
    have k1a : w.heap.size < w1.heap.size := by omega
    have k1b : w.heap.size + 1 < w1.heap.size := by omega
    go_wp2_with fail
    refine (HS.out _).mono ?_
    rintro e w2 ⟨rfl, hb2⟩
    obtain ⟨hc2, hf2⟩ := bcell hb2
    have hz2 := bsize hb2
    (try simp at hz2)
    have k2a : w.heap.size < w2.heap.size := by omega
    have k2b : w.heap.size + 1 < w2.heap.size := by omega
    go_wp2
    refine bodyPost_ret (v := .tuple #[.agg #[.int .i64 x1, .int .i64 x2], .int .i64 xe]) (by simp [results, Try.results22, go_sem, hc2, hf2, hc1, hf1, k1a, k1b, k2a, k2b]) rfl ⟨rfl, (by repeat (first | with_reducible exact Below.refl _ _ | (with_reducible refine Below.setCell ?_ (by first | exact Nat.le_refl _ | omega | (simp; done) | (simp; omega)) _) | (with_reducible refine Below.alloc ?_ (by first | exact Nat.le_refl _ | omega | (simp; done) | (simp; omega)) _) | with_reducible refine Below.drew ?_ | with_reducible refine bel_drewN ?_ _ | (with_reducible refine bel_by (by with_reducible assumption) (by first | exact Nat.le_refl _ | omega | (simp; done) | (simp; omega)) ?_)))⟩
set_option maxHeartbeats 4000000 in
set_option maxRecDepth 100000 in
theorem ineg_any (a : V) (ha : WfV a) (w : World) :
    Calls Try.prog 23 #[(.agg #[.int .i64 (a).1.1, .int .i64 (a).1.2, .int .i64 (a).2.1, .int .i64 (a).2.2])] w fun e w' => e = .returned (.tuple #[(.agg #[.int .i64 ((negV a).1).1.1, .int .i64 ((negV a).1).1.2, .int .i64 ((negV a).1).2.1, .int .i64 ((negV a).1).2.2]), .int .i64 (negV a).2]) ∧ Below w.heap.size w w' := by
  have H := Lib.hid (iok_any a ha)
  have H1 := Lib.hid (fun W => neg_any a.2.1 a.2.2 ha.h.1 ha.h.2.1 ha.h.2.2.1 ha.h.2.2.2 W)
  have H2 := Lib.hid (fun W => neg_any a.1.1 a.1.2 ha.l.1 ha.l.2.1 ha.l.2.2.1 ha.l.2.2.2 W)
  clear ha
  unfold negV
  obtain ⟨p, hp⟩ : ∃ p, negS a.2.1 a.2.2 = p := ⟨_, rfl⟩
  obtain ⟨q, hq⟩ : ∃ q, negS a.1.1 a.1.2 = q := ⟨_, rfl⟩
  rw [hp] at H1 ⊢
  rw [hq] at H2 ⊢
  clear hp hq
  obtain ⟨p1, p2⟩ := p
  obtain ⟨p3, p4⟩ := q
  cases hv : okV a
  all_goals
    rw [hv] at H
    clear hv
    obtain ⟨⟨a1, a2⟩, ⟨a3, a4⟩⟩ := a
    simp only [if_true, if_false, Bool.false_eq_true] at *
  · clear H1 H2
    go_enter Try.func23, Try.ntmps23
    go_wp2_with fail
    refine (H.out _).mono ?_
    rintro e w1 ⟨rfl, hb1⟩
    obtain ⟨hc1, hf1⟩ := bcell hb1
    have hz1 := bsize hb1
    (try simp at hz1)
    have k1a : w.heap.size < w1.heap.size := by omega
    have k1b : w.heap.size + 1 < w1.heap.size := by omega
    go_wp2
    refine bodyPost_ret (v := .tuple #[.agg #[.int .i64 0, .int .i64 0, .int .i64 0, .int .i64 0], .int .i64 1]) (by simp [results, Try.results23, go_sem, hc1, hf1, k1a, k1b]) rfl ⟨rfl, (by repeat (first | with_reducible exact Below.refl _ _ | (with_reducible refine Below.setCell ?_ (by first | exact Nat.le_refl _ | omega | (simp; done) | (simp; omega)) _) | (with_reducible refine Below.alloc ?_ (by first | exact Nat.le_refl _ | omega | (simp; done) | (simp; omega)) _) | with_reducible refine Below.drew ?_ | with_reducible refine bel_drewN ?_ _ | (with_reducible refine bel_by (by with_reducible assumption) (by first | exact Nat.le_refl _ | omega | (simp; done) | (simp; omega)) ?_)))⟩
  · go_enter Try.func23, Try.ntmps23
    go_wp2_with fail
    refine (H.out _).mono ?_
    rintro e w1 ⟨rfl, hb1⟩
    obtain ⟨hc1, hf1⟩ := bcell hb1
    have hz1 := bsize hb1
    (try simp at hz1)
    have k1a : w.heap.size < w1.heap.size := by omega
    have k1b : w.heap.size + 1 < w1.heap.size := by omega
    have a0 : w1.cell? ⟨w.heap.size, 0, none⟩ = some (.int .i64 a1) := by simp [go_sem, hc1]
    have a1' : w1.cell? ⟨w.heap.size, 1, none⟩ = some (.int .i64 a2) := by simp [go_sem, hc1]
    have a2' : w1.cell? ⟨w.heap.size, 2, none⟩ = some (.int .i64 a3) := by simp [go_sem, hc1]
    have a3' : w1.cell? ⟨w.heap.size, 3, none⟩ = some (.int .i64 a4) := by simp [go_sem, hc1]
    have q0 : ∀ o, o < 4 → w1.cell? ⟨w.heap.size + 1, o, none⟩ = some (.int .i64 0) := fun o ho => by
      match o, ho with
      | 0, _ => simp [go_sem, hc1]
      | 1, _ => simp [go_sem, hc1]
      | 2, _ => simp [go_sem, hc1]
      | 3, _ => simp [go_sem, hc1]
    have fq : ∀ o, w1.frozen? ⟨w.heap.size + 1, o, none⟩ = false := fun o => by simp [go_sem, hf1]
    have HB1 : Below w.heap.size w w1 := (by repeat (first | with_reducible exact Below.refl _ _ | (with_reducible refine Below.setCell ?_ (by first | exact Nat.le_refl _ | omega | (simp; done) | (simp; omega)) _) | (with_reducible refine Below.alloc ?_ (by first | exact Nat.le_refl _ | omega | (simp; done) | (simp; omega)) _) | with_reducible refine Below.drew ?_ | with_reducible refine bel_drewN ?_ _ | (with_reducible refine bel_by (by with_reducible assumption) (by first | exact Nat.le_refl _ | omega | (simp; done) | (simp; omega)) ?_)))
    clear hc1 hf1 hb1 hz1
    go_wp2_with fail
    refine wp_region_s (fun w' => w'.cell? ⟨w.heap.size, 0, none⟩ = some (.int .i64 a1) ∧ w'.cell? ⟨w.heap.size, 1, none⟩ = some (.int .i64 a2) ∧ w'.cell? ⟨w.heap.size, 2, none⟩ = some (.int .i64 a3) ∧ w'.cell? ⟨w.heap.size, 3, none⟩ = some (.int .i64 a4)) 5 (by kernel_rfl) ?_
    refine AnyS.take0 (i := 0) (v := (.pointer (some ⟨w.heap.size, 2, none⟩))) rfl (by kernel_rfl) (by kernel_rfl) (by kernel_rfl) (by kernel_rfl) (fun _ _ _ h => h) (fun _ => ⟨a0, a1', a2', a3'⟩) (Or.inl ⟨by rfl, fun w' _ => (by go_simp)⟩) ?_
    simp only [Act.put, List.setIfInBounds_toArray, List.set_cons_zero, List.set_cons_succ]
    refine AnyS.take (i := 1) (v := (.agg #[.int .i64 a3, .int .i64 a4])) [5, 2] rfl (by kernel_rfl) (by kernel_rfl) (by kernel_rfl) (by kernel_rfl) (fun _ _ _ h => h) ⟨a0, a1', a2', a3'⟩ (Or.inl ⟨by rfl, fun w' hw' => (by obtain ⟨t0, t1, t2, t3⟩ := hw'; go_simp)⟩) ?_
    simp only [Act.put, List.setIfInBounds_toArray, List.set_cons_zero, List.set_cons_succ]
    refine AnyS.take0 (i := 3) (v := (.pointer (some ⟨w.heap.size, 0, none⟩))) rfl (by kernel_rfl) (by kernel_rfl) (by kernel_rfl) (by kernel_rfl) (fun _ _ _ h => h) (fun _ => ⟨a0, a1', a2', a3'⟩) (Or.inl ⟨by rfl, fun w' _ => (by go_simp)⟩) ?_
    simp only [Act.put, List.setIfInBounds_toArray, List.set_cons_zero, List.set_cons_succ]
    refine AnyS.take (i := 4) (v := (.agg #[.int .i64 a1, .int .i64 a2])) [5] rfl (by kernel_rfl) (by kernel_rfl) (by kernel_rfl) (by kernel_rfl) (fun _ _ _ h => h) ⟨a0, a1', a2', a3'⟩ (Or.inl ⟨by rfl, fun w' hw' => (by obtain ⟨t0, t1, t2, t3⟩ := hw'; go_simp)⟩) ?_
    simp only [Act.put, List.setIfInBounds_toArray, List.set_cons_zero, List.set_cons_succ]
    refine AnyS.step (j := 2) rfl (by kernel_rfl) (fun K hK => ?_)
    go_simp
    refine (H1.out _).mono ?_
    rintro e w5 ⟨rfl, hb5⟩
    replace hb5 := undrew hb5
    have HB5 := HB1.trans (hb5.mono HB1.size)
    have c0 := (hb5.cell (p := ⟨w.heap.size, 0, none⟩) k1a).trans a0
    have c1 := (hb5.cell (p := ⟨w.heap.size, 1, none⟩) k1a).trans a1'
    have c2 := (hb5.cell (p := ⟨w.heap.size, 2, none⟩) k1a).trans a2'
    have c3 := (hb5.cell (p := ⟨w.heap.size, 3, none⟩) k1a).trans a3'
    have q5 : ∀ o, o < 4 → w5.cell? ⟨w.heap.size + 1, o, none⟩ = some (.int .i64 0) := fun o ho => (hb5.cell (p := ⟨w.heap.size + 1, o, none⟩) k1b).trans (q0 o ho)
    have f5 : ∀ o, w5.frozen? ⟨w.heap.size + 1, o, none⟩ = false := fun o => (hb5.frozen (p := ⟨w.heap.size + 1, o, none⟩) k1b).trans (fq o)
    have k5b : w.heap.size + 1 < w5.heap.size := Nat.lt_of_lt_of_le k1b hb5.size
    clear a0 a1' a2' a3' q0 fq hb5 HB1 k1a k1b
    go_wp2_with fail
    refine hK.out _ _ (fun _ => ⟨c0, c1, c2, c3⟩) ?_
    clear hK c0 c1 c2 c3
    refine AnyS.step (j := 5) rfl (by kernel_rfl) (fun K hK => ?_)
    go_simp
    refine (H2.out _).mono ?_
    rintro e w6 ⟨rfl, hb6⟩
    have HB6 := HB5.trans (hb6.mono HB5.size)
    have q0 := (hb6.cell (p := ⟨w.heap.size + 1, 0, none⟩) k5b).trans (q5 0 (by decide))
    have q1 := (hb6.cell (p := ⟨w.heap.size + 1, 1, none⟩) k5b).trans (q5 1 (by decide))
    have q2 := (hb6.cell (p := ⟨w.heap.size + 1, 2, none⟩) k5b).trans (q5 2 (by decide))
    have q3 := (hb6.cell (p := ⟨w.heap.size + 1, 3, none⟩) k5b).trans (q5 3 (by decide))
    have fq : ∀ o, w6.frozen? ⟨w.heap.size + 1, o, none⟩ = false := fun o => (hb6.frozen (p := ⟨w.heap.size + 1, o, none⟩) k5b).trans (f5 o)
    clear q5 f5 hb6 HB5 k5b
    go_wp2_with fail
    refine hK.out _ _ (fun e => absurd e (by decide)) ?_
    clear hK
    refine AnyS.rest 6 (by kernel_rfl) rfl (by kernel_rfl) ?_
    change wpList _ _ _ [_, _, _] _ _
    go_wp2
    refine bodyPost_ret (v := .tuple #[.agg #[.int .i64 p1, .int .i64 p2, .int .i64 p3, .int .i64 p4], .int .i64 0]) (by simp [results, Try.results23, go_sem, q0, q1, q2, q3, fq]) rfl ⟨rfl, (by repeat (first | with_reducible exact Below.refl _ _ | (with_reducible refine Below.setCell ?_ (by first | exact Nat.le_refl _ | omega | (simp; done) | (simp; omega)) _) | (with_reducible refine Below.alloc ?_ (by first | exact Nat.le_refl _ | omega | (simp; done) | (simp; omega)) _) | with_reducible refine Below.drew ?_ | with_reducible refine bel_drewN ?_ _ | (with_reducible refine bel_by (by with_reducible assumption) (by first | exact Nat.le_refl _ | omega | (simp; done) | (simp; omega)) ?_)))⟩
end Go.Proofs.Ytbjmibaepccbeaa
