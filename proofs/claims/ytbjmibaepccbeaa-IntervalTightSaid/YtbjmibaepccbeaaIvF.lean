/- Intervals: the reference's Contains, Inside, Point, Neg, Width, Hull. -/
import Derived.Test.YtbjmibaepccbeaaIvM
import Derived.Test.YtbjmibaepccbeaaIvB
import Derived.Test.YtbjmibaepccbeaaIvR
import Derived.Test.YtbjmibaepccbeaaRefH
set_option linter.unusedSimpArgs false
set_option linter.unusedVariables false
namespace Go.Proofs.Ytbjmibaepccbeaa
open Go.RowKit
open Iv

set_option maxHeartbeats 2000000 in
set_option maxRecDepth 100000 in
theorem rwidth_any (a : V) (ha : WfV a) (w : World) :
    Calls Try.prog 25 #[(.agg #[.int .i64 (a).1.1, .int .i64 (a).1.2, .int .i64 (a).2.1, .int .i64 (a).2.2])] w fun e w' => e = .returned (.tuple #[(.agg #[.int .i64 ((widthR a).1).1, .int .i64 ((widthR a).1).2]), .int .i64 (widthR a).2]) ∧ Below w.heap.size w w' := by
  have H := Lib.hid (rok_any a ha)
  have HS := Lib.hid (show ∀ W : World, Calls Try.prog 51 #[(.agg #[.int .i64 (a.2).1, .int .i64 (a.2).2]), (.agg #[.int .i64 (a.1).1, .int .i64 (a.1).2])] W fun e w' => e = .returned (.tuple #[(.agg #[.int .i64 ((opR 1 a.2 a.1).1).1, .int .i64 ((opR 1 a.2 a.1).1).2]), .int .i64 (opR 1 a.2 a.1).2]) ∧ Below W.heap.size W w' from fun W => rsub_any a.2.1 a.2.2 a.1.1 a.1.2 ha.h ha.l W)
  clear ha
  unfold widthR
  obtain ⟨X, hX⟩ : ∃ X, opR 1 a.2 a.1 = X := ⟨_, rfl⟩
  rw [hX] at HS ⊢
  clear hX
  cases hv : okV a
  all_goals
    rw [hv] at H
    clear hv
    obtain ⟨⟨a1, a2⟩, ⟨a3, a4⟩⟩ := a
    obtain ⟨⟨x1, x2⟩, xe⟩ := X
    simp only [if_true, if_false, Bool.false_eq_true] at *
  · clear HS
    go_enter Try.func25, Try.ntmps25
    go_wp2_with fail
    refine (H.out _).mono ?_
    rintro e w1 ⟨rfl, hb1⟩
    obtain ⟨hc1, hf1⟩ := bcell hb1
    have hz1 := bsize hb1
    (try simp at hz1)
    have k1a : w.heap.size < w1.heap.size := by omega
    have k1b : w.heap.size + 1 < w1.heap.size := by omega
    go_wp2
    refine bodyPost_ret (v := .tuple #[.agg #[.int .i64 0, .int .i64 0], .int .i64 1]) (by simp [results, Try.results25, go_sem, hc1, hf1, k1a, k1b]) rfl ⟨rfl, (by repeat (first | with_reducible exact Below.refl _ _ | (with_reducible refine Below.setCell ?_ (by first | exact Nat.le_refl _ | omega | (simp; done) | (simp; omega)) _) | (with_reducible refine Below.alloc ?_ (by first | exact Nat.le_refl _ | omega | (simp; done) | (simp; omega)) _) | with_reducible refine Below.drew ?_ | with_reducible refine bel_drewN ?_ _ | (with_reducible refine bel_by (by with_reducible assumption) (by first | exact Nat.le_refl _ | omega | (simp; done) | (simp; omega)) ?_)))⟩
  · by_cases h0 : xe = 0
    · rw [if_pos h0]
      have e0 : (xe != 0) = false := by simpa using h0
      clear h0
      go_enter Try.func25, Try.ntmps25
      go_wp2_with fail
      refine (H.out _).mono ?_
      rintro e w1 ⟨rfl, hb1⟩
      obtain ⟨hc1, hf1⟩ := bcell hb1
      have hz1 := bsize hb1
      (try simp at hz1)
      have k1a : w.heap.size < w1.heap.size := by omega
      have k1b : w.heap.size + 1 < w1.heap.size := by omega
      go_wp2_with fail
      refine (HS.out _).mono ?_
      rintro e w2 ⟨rfl, hb2⟩
      obtain ⟨hc2, hf2⟩ := bcell hb2
      have hz2 := bsize hb2
      (try simp at hz2)
      have k2a : w.heap.size < w2.heap.size := by omega
      have k2b : w.heap.size + 1 < w2.heap.size := by omega
      go_wp2
      refine bodyPost_ret (v := .tuple #[.agg #[.int .i64 x1, .int .i64 x2], .int .i64 0]) (by simp [results, Try.results25, go_sem, hc2, hf2, hc1, hf1, k1a, k1b, k2a, k2b]) rfl ⟨rfl, (by repeat (first | with_reducible exact Below.refl _ _ | (with_reducible refine Below.setCell ?_ (by first | exact Nat.le_refl _ | omega | (simp; done) | (simp; omega)) _) | (with_reducible refine Below.alloc ?_ (by first | exact Nat.le_refl _ | omega | (simp; done) | (simp; omega)) _) | with_reducible refine Below.drew ?_ | with_reducible refine bel_drewN ?_ _ | (with_reducible refine bel_by (by with_reducible assumption) (by first | exact Nat.le_refl _ | omega | (simp; done) | (simp; omega)) ?_)))⟩
    · rw [if_neg h0]
      have e0 : (xe != 0) = true := by simpa using h0
      clear h0
      go_enter Try.func25, Try.ntmps25
      go_wp2_with fail
      refine (H.out _).mono ?_
      rintro e w1 ⟨rfl, hb1⟩
      obtain ⟨hc1, hf1⟩ := bcell hb1
      have hz1 := bsize hb1
      (try simp at hz1)
      have k1a : w.heap.size < w1.heap.size := by omega
      have k1b : w.heap.size + 1 < w1.heap.size := by omega
      go_wp2_with fail
      refine (HS.out _).mono ?_
      rintro e w2 ⟨rfl, hb2⟩
      obtain ⟨hc2, hf2⟩ := bcell hb2
      have hz2 := bsize hb2
      (try simp at hz2)
      have k2a : w.heap.size < w2.heap.size := by omega
      have k2b : w.heap.size + 1 < w2.heap.size := by omega
      go_wp2
      refine bodyPost_ret (v := .tuple #[.agg #[.int .i64 0, .int .i64 0], .int .i64 5]) (by simp [results, Try.results25, go_sem, hc2, hf2, hc1, hf1, k1a, k1b, k2a, k2b]) rfl ⟨rfl, (by repeat (first | with_reducible exact Below.refl _ _ | (with_reducible refine Below.setCell ?_ (by first | exact Nat.le_refl _ | omega | (simp; done) | (simp; omega)) _) | (with_reducible refine Below.alloc ?_ (by first | exact Nat.le_refl _ | omega | (simp; done) | (simp; omega)) _) | with_reducible refine Below.drew ?_ | with_reducible refine bel_drewN ?_ _ | (with_reducible refine bel_by (by with_reducible assumption) (by first | exact Nat.le_refl _ | omega | (simp; done) | (simp; omega)) ?_)))⟩
set_option maxHeartbeats 4000000 in
set_option maxRecDepth 100000 in
theorem rneg8_any (a : V) (ha : WfV a) (w : World) :
    Calls Try.prog 26 #[(.agg #[.int .i64 (a).1.1, .int .i64 (a).1.2, .int .i64 (a).2.1, .int .i64 (a).2.2])] w fun e w' => e = .returned (.tuple #[(.agg #[.int .i64 ((negV a).1).1.1, .int .i64 ((negV a).1).1.2, .int .i64 ((negV a).1).2.1, .int .i64 ((negV a).1).2.2]), .int .i64 (negV a).2]) ∧ Below w.heap.size w w' := by
  have H := Lib.hid (rok_any a ha)
  have H1 := Lib.hid (fun W => rneg_any a.2.1 a.2.2 ha.h.1 ha.h.2.1 ha.h.2.2.1 ha.h.2.2.2 W)
  have H2 := Lib.hid (fun W => rneg_any a.1.1 a.1.2 ha.l.1 ha.l.2.1 ha.l.2.2.1 ha.l.2.2.2 W)
  clear ha
  unfold negV
  obtain ⟨p, hp⟩ : ∃ p, negS a.2.1 a.2.2 = p := ⟨_, rfl⟩
  obtain ⟨q, hq⟩ : ∃ q, negS a.1.1 a.1.2 = q := ⟨_, rfl⟩
  rw [hp] at H1 ⊢
  rw [hq] at H2 ⊢
  clear hp hq
  obtain ⟨p1, p2⟩ := p
  obtain ⟨p3, p4⟩ := q
  cases hv : okV a
  all_goals
    rw [hv] at H
    clear hv
    obtain ⟨⟨a1, a2⟩, ⟨a3, a4⟩⟩ := a
    simp only [if_true, if_false, Bool.false_eq_true] at *
  · clear H1 H2
    go_enter Try.func26, Try.ntmps26
    go_wp2_with fail
    refine (H.out _).mono ?_
    rintro e w1 ⟨rfl, hb1⟩
    obtain ⟨hc1, hf1⟩ := bcell hb1
    have hz1 := bsize hb1
    (try simp at hz1)
    have k1a : w.heap.size < w1.heap.size := by omega
    have k1b : w.heap.size + 1 < w1.heap.size := by omega
    go_wp2
    refine bodyPost_ret (v := .tuple #[.agg #[.int .i64 0, .int .i64 0, .int .i64 0, .int .i64 0], .int .i64 1]) (by simp [results, Try.results26, go_sem, hc1, hf1, k1a, k1b]) rfl ⟨rfl, (by repeat (first | with_reducible exact Below.refl _ _ | (with_reducible refine Below.setCell ?_ (by first | exact Nat.le_refl _ | omega | (simp; done) | (simp; omega)) _) | (with_reducible refine Below.alloc ?_ (by first | exact Nat.le_refl _ | omega | (simp; done) | (simp; omega)) _) | with_reducible refine Below.drew ?_ | with_reducible refine bel_drewN ?_ _ | (with_reducible refine bel_by (by with_reducible assumption) (by first | exact Nat.le_refl _ | omega | (simp; done) | (simp; omega)) ?_)))⟩
  · go_enter Try.func26, Try.ntmps26
    go_wp2_with fail
    refine (H.out _).mono ?_
    rintro e w1 ⟨rfl, hb1⟩
    obtain ⟨hc1, hf1⟩ := bcell hb1
    have hz1 := bsize hb1
    (try simp at hz1)
    have k1a : w.heap.size < w1.heap.size := by omega
    have k1b : w.heap.size + 1 < w1.heap.size := by omega
    have a0 : w1.cell? ⟨w.heap.size, 0, none⟩ = some (.int .i64 a1) := by simp [go_sem, hc1]
    have a1' : w1.cell? ⟨w.heap.size, 1, none⟩ = some (.int .i64 a2) := by simp [go_sem, hc1]
    have a2' : w1.cell? ⟨w.heap.size, 2, none⟩ = some (.int .i64 a3) := by simp [go_sem, hc1]
    have a3' : w1.cell? ⟨w.heap.size, 3, none⟩ = some (.int .i64 a4) := by simp [go_sem, hc1]
    have q0 : ∀ o, o < 4 → w1.cell? ⟨w.heap.size + 1, o, none⟩ = some (.int .i64 0) := fun o ho => by
      match o, ho with
      | 0, _ => simp [go_sem, hc1]
      | 1, _ => simp [go_sem, hc1]
      | 2, _ => simp [go_sem, hc1]
      | 3, _ => simp [go_sem, hc1]
    have fq : ∀ o, w1.frozen? ⟨w.heap.size + 1, o, none⟩ = false := fun o => by simp [go_sem, hf1]
    have HB1 : Below w.heap.size w w1 := (by repeat (first | with_reducible exact Below.refl _ _ | (with_reducible refine Below.setCell ?_ (by first | exact Nat.le_refl _ | omega | (simp; done) | (simp; omega)) _) | (with_reducible refine Below.alloc ?_ (by first | exact Nat.le_refl _ | omega | (simp; done) | (simp; omega)) _) | with_reducible refine Below.drew ?_ | with_reducible refine bel_drewN ?_ _ | (with_reducible refine bel_by (by with_reducible assumption) (by first | exact Nat.le_refl _ | omega | (simp; done) | (simp; omega)) ?_)))
    clear hc1 hf1 hb1 hz1
    go_wp2_with fail
    refine wp_region_s (fun w' => w'.cell? ⟨w.heap.size, 0, none⟩ = some (.int .i64 a1) ∧ w'.cell? ⟨w.heap.size, 1, none⟩ = some (.int .i64 a2) ∧ w'.cell? ⟨w.heap.size, 2, none⟩ = some (.int .i64 a3) ∧ w'.cell? ⟨w.heap.size, 3, none⟩ = some (.int .i64 a4)) 5 (by kernel_rfl) ?_
    refine AnyS.take0 (i := 0) (v := (.pointer (some ⟨w.heap.size, 2, none⟩))) rfl (by kernel_rfl) (by kernel_rfl) (by kernel_rfl) (by kernel_rfl) (fun _ _ _ h => h) (fun _ => ⟨a0, a1', a2', a3'⟩) (Or.inl ⟨by rfl, fun w' _ => (by go_simp)⟩) ?_
    simp only [Act.put, List.setIfInBounds_toArray, List.set_cons_zero, List.set_cons_succ]
    refine AnyS.take (i := 1) (v := (.agg #[.int .i64 a3, .int .i64 a4])) [5, 2] rfl (by kernel_rfl) (by kernel_rfl) (by kernel_rfl) (by kernel_rfl) (fun _ _ _ h => h) ⟨a0, a1', a2', a3'⟩ (Or.inl ⟨by rfl, fun w' hw' => (by obtain ⟨t0, t1, t2, t3⟩ := hw'; go_simp)⟩) ?_
    simp only [Act.put, List.setIfInBounds_toArray, List.set_cons_zero, List.set_cons_succ]
    refine AnyS.take0 (i := 3) (v := (.pointer (some ⟨w.heap.size, 0, none⟩))) rfl (by kernel_rfl) (by kernel_rfl) (by kernel_rfl) (by kernel_rfl) (fun _ _ _ h => h) (fun _ => ⟨a0, a1', a2', a3'⟩) (Or.inl ⟨by rfl, fun w' _ => (by go_simp)⟩) ?_
    simp only [Act.put, List.setIfInBounds_toArray, List.set_cons_zero, List.set_cons_succ]
    refine AnyS.take (i := 4) (v := (.agg #[.int .i64 a1, .int .i64 a2])) [5] rfl (by kernel_rfl) (by kernel_rfl) (by kernel_rfl) (by kernel_rfl) (fun _ _ _ h => h) ⟨a0, a1', a2', a3'⟩ (Or.inl ⟨by rfl, fun w' hw' => (by obtain ⟨t0, t1, t2, t3⟩ := hw'; go_simp)⟩) ?_
    simp only [Act.put, List.setIfInBounds_toArray, List.set_cons_zero, List.set_cons_succ]
    refine AnyS.step (j := 2) rfl (by kernel_rfl) (fun K hK => ?_)
    go_simp
    refine (H1.out _).mono ?_
    rintro e w5 ⟨rfl, hb5⟩
    replace hb5 := undrew hb5
    have HB5 := HB1.trans (hb5.mono HB1.size)
    have c0 := (hb5.cell (p := ⟨w.heap.size, 0, none⟩) k1a).trans a0
    have c1 := (hb5.cell (p := ⟨w.heap.size, 1, none⟩) k1a).trans a1'
    have c2 := (hb5.cell (p := ⟨w.heap.size, 2, none⟩) k1a).trans a2'
    have c3 := (hb5.cell (p := ⟨w.heap.size, 3, none⟩) k1a).trans a3'
    have q5 : ∀ o, o < 4 → w5.cell? ⟨w.heap.size + 1, o, none⟩ = some (.int .i64 0) := fun o ho => (hb5.cell (p := ⟨w.heap.size + 1, o, none⟩) k1b).trans (q0 o ho)
    have f5 : ∀ o, w5.frozen? ⟨w.heap.size + 1, o, none⟩ = false := fun o => (hb5.frozen (p := ⟨w.heap.size + 1, o, none⟩) k1b).trans (fq o)
    have k5b : w.heap.size + 1 < w5.heap.size := Nat.lt_of_lt_of_le k1b hb5.size
    clear a0 a1' a2' a3' q0 fq hb5 HB1 k1a k1b
    go_wp2_with fail
    refine hK.out _ _ (fun _ => ⟨c0, c1, c2, c3⟩) ?_
    clear hK c0 c1 c2 c3
    refine AnyS.step (j := 5) rfl (by kernel_rfl) (fun K hK => ?_)
    go_simp
    refine (H2.out _).mono ?_
    rintro e w6 ⟨rfl, hb6⟩
    have HB6 := HB5.trans (hb6.mono HB5.size)
    have q0 := (hb6.cell (p := ⟨w.heap.size + 1, 0, none⟩) k5b).trans (q5 0 (by decide))
    have q1 := (hb6.cell (p := ⟨w.heap.size + 1, 1, none⟩) k5b).trans (q5 1 (by decide))
    have q2 := (hb6.cell (p := ⟨w.heap.size + 1, 2, none⟩) k5b).trans (q5 2 (by decide))
    have q3 := (hb6.cell (p := ⟨w.heap.size + 1, 3, none⟩) k5b).trans (q5 3 (by decide))
    have fq : ∀ o, w6.frozen? ⟨w.heap.size + 1, o, none⟩ = false := fun o => (hb6.frozen (p := ⟨w.heap.size + 1, o, none⟩) k5b).trans (f5 o)
    clear q5 f5 hb6 HB5 k5b
    go_wp2_with fail
    refine hK.out _ _ (fun e => absurd e (by decide)) ?_
    clear hK
    refine AnyS.rest 6 (by kernel_rfl) rfl (by kernel_rfl) ?_
    change wpList _ _ _ [_, _, _] _ _
    go_wp2
    refine bodyPost_ret (v := .tuple #[.agg #[.int .i64 p1, .int .i64 p2, .int .i64 p3, .int .i64 p4], .int .i64 0]) (by simp [results, Try.results26, go_sem, q0, q1, q2, q3, fq]) rfl ⟨rfl, (by repeat (first | with_reducible exact Below.refl _ _ | (with_reducible refine Below.setCell ?_ (by first | exact Nat.le_refl _ | omega | (simp; done) | (simp; omega)) _) | (with_reducible refine Below.alloc ?_ (by first | exact Nat.le_refl _ | omega | (simp; done) | (simp; omega)) _) | with_reducible refine Below.drew ?_ | with_reducible refine bel_drewN ?_ _ | (with_reducible refine bel_by (by with_reducible assumption) (by first | exact Nat.le_refl _ | omega | (simp; done) | (simp; omega)) ?_)))⟩
set_option maxHeartbeats 4000000 in
set_option maxRecDepth 100000 in
theorem rhull_any (a b : V) (ha : WfV a) (hb : WfV b) (w : World) :
    Calls Try.prog 29 #[(.agg #[.int .i64 (a).1.1, .int .i64 (a).1.2, .int .i64 (a).2.1, .int .i64 (a).2.2]), (.agg #[.int .i64 (b).1.1, .int .i64 (b).1.2, .int .i64 (b).2.1, .int .i64 (b).2.2])] w fun e w' => e = .returned (.tuple #[(.agg #[.int .i64 ((hullV a b).1).1.1, .int .i64 ((hullV a b).1).1.2, .int .i64 ((hullV a b).1).2.1, .int .i64 ((hullV a b).1).2.2]), .int .i64 (hullV a b).2]) ∧ Below w.heap.size w w' := by
  have V1 := Lib.hid (rok_any a ha)
  have V2 := Lib.hid (rok_any b hb)
  have H1 := Lib.hid (rlesser_any a.1 b.1 ha.l hb.l)
  have H2 := Lib.hid (rgreater_any a.2 b.2 ha.h hb.h)
  clear ha hb
  cases va : okV a <;> cases vb : okV b
  case false.false =>
    have e : hullV a b = (zV, 1) := by unfold hullV; rw [va, vb]; rfl
    rw [e]
    rw [va] at V1
    rw [vb] at V2
    clear va vb e H1 H2
    obtain ⟨⟨a1, a2⟩, ⟨a3, a4⟩⟩ := a
    obtain ⟨⟨b1, b2⟩, ⟨b3, b4⟩⟩ := b
    have HT0 := Lib.hid (two_start w a1 a2 a3 a4 b1 b2 b3 b4)
    simp only at *
    go_enter Try.func29, Try.ntmps29
    go_wp2_with fail
    refine (V1.out _).mono ?_
    rintro e w0 ⟨rfl, hb0⟩
    have HT1 := Lib.hid (HT0.out.keep hb0)
    have q0 := HT1.out.q0
    have q1 := HT1.out.q1
    have q2 := HT1.out.q2
    have q3 := HT1.out.q3
    have fq := HT1.out.fq
    go_wp2
    refine bodyPost_ret (v := .tuple #[.agg #[.int .i64 0, .int .i64 0, .int .i64 0, .int .i64 0], .int .i64 1]) (by simp [results, Try.results29, go_sem, q0, q1, q2, q3, fq]) rfl ⟨rfl, ?_⟩
    have := HT1.out.bel
    exact (by repeat (first | with_reducible exact Below.refl _ _ | (with_reducible refine Below.setCell ?_ (by first | exact Nat.le_refl _ | omega | (simp; done) | (simp; omega)) _) | (with_reducible refine Below.alloc ?_ (by first | exact Nat.le_refl _ | omega | (simp; done) | (simp; omega)) _) | with_reducible refine Below.drew ?_ | with_reducible refine bel_drewN ?_ _ | (with_reducible refine bel_by (by with_reducible assumption) (by first | exact Nat.le_refl _ | omega | (simp; done) | (simp; omega)) ?_)))
  case false.true =>
    have e : hullV a b = (zV, 1) := by unfold hullV; rw [va, vb]; rfl
    rw [e]
    rw [va] at V1
    rw [vb] at V2
    clear va vb e H1 H2
    obtain ⟨⟨a1, a2⟩, ⟨a3, a4⟩⟩ := a
    obtain ⟨⟨b1, b2⟩, ⟨b3, b4⟩⟩ := b
    have HT0 := Lib.hid (two_start w a1 a2 a3 a4 b1 b2 b3 b4)
    simp only at *
    go_enter Try.func29, Try.ntmps29
    go_wp2_with fail
    refine (V1.out _).mono ?_
    rintro e w0 ⟨rfl, hb0⟩
    have HT1 := Lib.hid (HT0.out.keep hb0)
    have q0 := HT1.out.q0
    have q1 := HT1.out.q1
    have q2 := HT1.out.q2
    have q3 := HT1.out.q3
    have fq := HT1.out.fq
    go_wp2
    refine bodyPost_ret (v := .tuple #[.agg #[.int .i64 0, .int .i64 0, .int .i64 0, .int .i64 0], .int .i64 1]) (by simp [results, Try.results29, go_sem, q0, q1, q2, q3, fq]) rfl ⟨rfl, ?_⟩
    have := HT1.out.bel
    exact (by repeat (first | with_reducible exact Below.refl _ _ | (with_reducible refine Below.setCell ?_ (by first | exact Nat.le_refl _ | omega | (simp; done) | (simp; omega)) _) | (with_reducible refine Below.alloc ?_ (by first | exact Nat.le_refl _ | omega | (simp; done) | (simp; omega)) _) | with_reducible refine Below.drew ?_ | with_reducible refine bel_drewN ?_ _ | (with_reducible refine bel_by (by with_reducible assumption) (by first | exact Nat.le_refl _ | omega | (simp; done) | (simp; omega)) ?_)))
  case true.false =>
    have e : hullV a b = (zV, 1) := by unfold hullV; rw [va, vb]; rfl
    rw [e]
    rw [va] at V1
    rw [vb] at V2
    clear va vb e H1 H2
    obtain ⟨⟨a1, a2⟩, ⟨a3, a4⟩⟩ := a
    obtain ⟨⟨b1, b2⟩, ⟨b3, b4⟩⟩ := b
    have HT0 := Lib.hid (two_start w a1 a2 a3 a4 b1 b2 b3 b4)
    simp only at *
    go_enter Try.func29, Try.ntmps29
    go_wp2_with fail
    refine (V1.out _).mono ?_
    rintro e w0 ⟨rfl, hb0⟩
    have HT1 := Lib.hid (HT0.out.keep hb0)
    have c0 := HT1.out.b0
    have c1 := HT1.out.b1
    have c2 := HT1.out.b2
    have c3 := HT1.out.b3
    clear hb0
    go_wp2_with fail
    refine (V2.out _).mono ?_
    rintro e w1 ⟨rfl, hb1⟩
    replace HT1 := Lib.hid (HT1.out.keep hb1)
    clear hb1 c0 c1 c2 c3
    have q0 := HT1.out.q0
    have q1 := HT1.out.q1
    have q2 := HT1.out.q2
    have q3 := HT1.out.q3
    have fq := HT1.out.fq
    go_wp2
    refine bodyPost_ret (v := .tuple #[.agg #[.int .i64 0, .int .i64 0, .int .i64 0, .int .i64 0], .int .i64 1]) (by simp [results, Try.results29, go_sem, q0, q1, q2, q3, fq]) rfl ⟨rfl, ?_⟩
    have := HT1.out.bel
    exact (by repeat (first | with_reducible exact Below.refl _ _ | (with_reducible refine Below.setCell ?_ (by first | exact Nat.le_refl _ | omega | (simp; done) | (simp; omega)) _) | (with_reducible refine Below.alloc ?_ (by first | exact Nat.le_refl _ | omega | (simp; done) | (simp; omega)) _) | with_reducible refine Below.drew ?_ | with_reducible refine bel_drewN ?_ _ | (with_reducible refine bel_by (by with_reducible assumption) (by first | exact Nat.le_refl _ | omega | (simp; done) | (simp; omega)) ?_)))
  case true.true =>
    have e : hullV a b = ((les a.1 b.1, gre a.2 b.2), 0) := by unfold hullV; rw [va, vb]; rfl
    rw [e]
    rw [va] at V1
    rw [vb] at V2
    clear va vb e
    obtain ⟨p, hp⟩ : ∃ p, les a.1 b.1 = p := ⟨_, rfl⟩
    obtain ⟨q, hq⟩ : ∃ q, gre a.2 b.2 = q := ⟨_, rfl⟩
    rw [hp] at H1 ⊢
    rw [hq] at H2 ⊢
    clear hp hq
    obtain ⟨p1, p2⟩ := p
    obtain ⟨p3, p4⟩ := q
    obtain ⟨⟨a1, a2⟩, ⟨a3, a4⟩⟩ := a
    obtain ⟨⟨b1, b2⟩, ⟨b3, b4⟩⟩ := b
    have HT0 := Lib.hid (two_start w a1 a2 a3 a4 b1 b2 b3 b4)
    simp only at *
    go_enter Try.func29, Try.ntmps29
    go_wp2_with fail
    refine (V1.out _).mono ?_
    rintro e w0 ⟨rfl, hb0⟩
    have HT1 := Lib.hid (HT0.out.keep hb0)
    have c0 := HT1.out.b0
    have c1 := HT1.out.b1
    have c2 := HT1.out.b2
    have c3 := HT1.out.b3
    clear hb0
    go_wp2_with fail
    refine (V2.out _).mono ?_
    rintro e w1 ⟨rfl, hb1⟩
    replace HT1 := Lib.hid (HT1.out.keep hb1)
    clear hb1 c0 c1 c2 c3 HT0
    have hsz := HT1.out.sz
    have q0 := HT1.out.q0
    have q1 := HT1.out.q1
    have q2 := HT1.out.q2
    have q3 := HT1.out.q3
    have fq := HT1.out.fq
    go_wp2_with fail
    refine wp_region_s (fun w' => w'.cell? ⟨w.heap.size, 0, none⟩ = some (.int .i64 a1) ∧ w'.cell? ⟨w.heap.size, 1, none⟩ = some (.int .i64 a2) ∧ w'.cell? ⟨w.heap.size, 2, none⟩ = some (.int .i64 a3) ∧ w'.cell? ⟨w.heap.size, 3, none⟩ = some (.int .i64 a4) ∧ w'.cell? ⟨w.heap.size + 1, 0, none⟩ = some (.int .i64 b1) ∧ w'.cell? ⟨w.heap.size + 1, 1, none⟩ = some (.int .i64 b2) ∧ w'.cell? ⟨w.heap.size + 1, 2, none⟩ = some (.int .i64 b3) ∧ w'.cell? ⟨w.heap.size + 1, 3, none⟩ = some (.int .i64 b4)) 9 (by kernel_rfl) ?_
    refine AnyS.take0 (i := 0) (v := (.pointer (some ⟨w.heap.size, 0, none⟩))) rfl (by kernel_rfl) (by kernel_rfl) (by kernel_rfl) (by kernel_rfl) (fun _ _ _ h => h) (fun _ => ⟨HT1.out.a0, HT1.out.a1, HT1.out.a2, HT1.out.a3, HT1.out.b0, HT1.out.b1, HT1.out.b2, HT1.out.b3⟩) (Or.inl ⟨by rfl, fun w' _ => (by go_simp)⟩) ?_
    simp only [Act.put, List.setIfInBounds_toArray, List.set_cons_zero, List.set_cons_succ]
    refine AnyS.take (i := 1) (v := (.agg #[.int .i64 a1, .int .i64 a2])) [9, 4] rfl (by kernel_rfl) (by kernel_rfl) (by kernel_rfl) (by kernel_rfl) (fun _ _ _ h => h) ⟨HT1.out.a0, HT1.out.a1, HT1.out.a2, HT1.out.a3, HT1.out.b0, HT1.out.b1, HT1.out.b2, HT1.out.b3⟩ (Or.inl ⟨by rfl, fun w' hw' => (by obtain ⟨t0, t1, t2, t3, t4, t5, t6, t7⟩ := hw'; go_simp)⟩) ?_
    simp only [Act.put, List.setIfInBounds_toArray, List.set_cons_zero, List.set_cons_succ]
    refine AnyS.take0 (i := 2) (v := (.pointer (some ⟨w.heap.size + 1, 0, none⟩))) rfl (by kernel_rfl) (by kernel_rfl) (by kernel_rfl) (by kernel_rfl) (fun _ _ _ h => h) (fun _ => ⟨HT1.out.a0, HT1.out.a1, HT1.out.a2, HT1.out.a3, HT1.out.b0, HT1.out.b1, HT1.out.b2, HT1.out.b3⟩) (Or.inl ⟨by rfl, fun w' _ => (by go_simp)⟩) ?_
    simp only [Act.put, List.setIfInBounds_toArray, List.set_cons_zero, List.set_cons_succ]
    refine AnyS.take (i := 3) (v := (.agg #[.int .i64 b1, .int .i64 b2])) [9, 4] rfl (by kernel_rfl) (by kernel_rfl) (by kernel_rfl) (by kernel_rfl) (fun _ _ _ h => h) ⟨HT1.out.a0, HT1.out.a1, HT1.out.a2, HT1.out.a3, HT1.out.b0, HT1.out.b1, HT1.out.b2, HT1.out.b3⟩ (Or.inl ⟨by rfl, fun w' hw' => (by obtain ⟨t0, t1, t2, t3, t4, t5, t6, t7⟩ := hw'; go_simp)⟩) ?_
    simp only [Act.put, List.setIfInBounds_toArray, List.set_cons_zero, List.set_cons_succ]
    refine AnyS.take0 (i := 5) (v := (.pointer (some ⟨w.heap.size, 2, none⟩))) rfl (by kernel_rfl) (by kernel_rfl) (by kernel_rfl) (by kernel_rfl) (fun _ _ _ h => h) (fun _ => ⟨HT1.out.a0, HT1.out.a1, HT1.out.a2, HT1.out.a3, HT1.out.b0, HT1.out.b1, HT1.out.b2, HT1.out.b3⟩) (Or.inl ⟨by rfl, fun w' _ => (by go_simp)⟩) ?_
    simp only [Act.put, List.setIfInBounds_toArray, List.set_cons_zero, List.set_cons_succ]
    refine AnyS.take (i := 6) (v := (.agg #[.int .i64 a3, .int .i64 a4])) [9] rfl (by kernel_rfl) (by kernel_rfl) (by kernel_rfl) (by kernel_rfl) (fun _ _ _ h => h) ⟨HT1.out.a0, HT1.out.a1, HT1.out.a2, HT1.out.a3, HT1.out.b0, HT1.out.b1, HT1.out.b2, HT1.out.b3⟩ (Or.inl ⟨by rfl, fun w' hw' => (by obtain ⟨t0, t1, t2, t3, t4, t5, t6, t7⟩ := hw'; go_simp)⟩) ?_
    simp only [Act.put, List.setIfInBounds_toArray, List.set_cons_zero, List.set_cons_succ]
    refine AnyS.take0 (i := 7) (v := (.pointer (some ⟨w.heap.size + 1, 2, none⟩))) rfl (by kernel_rfl) (by kernel_rfl) (by kernel_rfl) (by kernel_rfl) (fun _ _ _ h => h) (fun _ => ⟨HT1.out.a0, HT1.out.a1, HT1.out.a2, HT1.out.a3, HT1.out.b0, HT1.out.b1, HT1.out.b2, HT1.out.b3⟩) (Or.inl ⟨by rfl, fun w' _ => (by go_simp)⟩) ?_
    simp only [Act.put, List.setIfInBounds_toArray, List.set_cons_zero, List.set_cons_succ]
    refine AnyS.take (i := 8) (v := (.agg #[.int .i64 b3, .int .i64 b4])) [9] rfl (by kernel_rfl) (by kernel_rfl) (by kernel_rfl) (by kernel_rfl) (fun _ _ _ h => h) ⟨HT1.out.a0, HT1.out.a1, HT1.out.a2, HT1.out.a3, HT1.out.b0, HT1.out.b1, HT1.out.b2, HT1.out.b3⟩ (Or.inl ⟨by rfl, fun w' hw' => (by obtain ⟨t0, t1, t2, t3, t4, t5, t6, t7⟩ := hw'; go_simp)⟩) ?_
    simp only [Act.put, List.setIfInBounds_toArray, List.set_cons_zero, List.set_cons_succ]
    refine AnyS.step (j := 4) rfl (by kernel_rfl) (fun K hK => ?_)
    go_simp
    refine (H1.out _).mono ?_
    rintro e w5 ⟨rfl, hb5⟩
    replace hb5 := undrew hb5
    have HT5 := Lib.hid (HT1.out.keep hb5)
    clear hb5 HT1 q0 q1 q2 q3 fq hsz
    go_wp2_with fail
    refine hK.out _ _ (fun _ => ⟨HT5.out.a0, HT5.out.a1, HT5.out.a2, HT5.out.a3, HT5.out.b0, HT5.out.b1, HT5.out.b2, HT5.out.b3⟩) ?_
    clear hK
    refine AnyS.step (j := 9) rfl (by kernel_rfl) (fun K hK => ?_)
    go_simp
    refine (H2.out _).mono ?_
    rintro e w6 ⟨rfl, hb6⟩
    have HT6 := Lib.hid (HT5.out.keep hb6)
    clear hb6 HT5
    go_wp2_with fail
    refine hK.out _ _ (fun e => absurd e (by decide)) ?_
    clear hK
    refine AnyS.rest 10 (by kernel_rfl) rfl (by kernel_rfl) ?_
    change wpList _ _ _ [_, _, _] _ _
    have q0 := HT6.out.q0
    have q1 := HT6.out.q1
    have q2 := HT6.out.q2
    have q3 := HT6.out.q3
    have fq := HT6.out.fq
    go_wp2
    refine bodyPost_ret (v := .tuple #[.agg #[.int .i64 p1, .int .i64 p2, .int .i64 p3, .int .i64 p4], .int .i64 0]) (by simp [results, Try.results29, go_sem, q0, q1, q2, q3, fq]) rfl ⟨rfl, ?_⟩
    have := HT6.out.bel
    exact (by repeat (first | with_reducible exact Below.refl _ _ | (with_reducible refine Below.setCell ?_ (by first | exact Nat.le_refl _ | omega | (simp; done) | (simp; omega)) _) | (with_reducible refine Below.alloc ?_ (by first | exact Nat.le_refl _ | omega | (simp; done) | (simp; omega)) _) | with_reducible refine Below.drew ?_ | with_reducible refine bel_drewN ?_ _ | (with_reducible refine bel_by (by with_reducible assumption) (by first | exact Nat.le_refl _ | omega | (simp; done) | (simp; omega)) ?_)))
set_option maxHeartbeats 4000000 in
set_option maxRecDepth 100000 in
theorem rcontains_any (a : V) (b : F) (ha : WfV a) (hb : Wf64 b) (w : World) :
    Calls Try.prog 15 #[(.agg #[.int .i64 (a).1.1, .int .i64 (a).1.2, .int .i64 (a).2.1, .int .i64 (a).2.2]), (.agg #[.int .i64 (b).1, .int .i64 (b).2])] w fun e w' => e = .returned (.bool (conV a b)) ∧ Below w.heap.size w w' := by
  have V1 := Lib.hid (rok_any a ha)
  have V2 := Lib.hid (rokF_any b hb)
  have C1 := Lib.hid (rcmF_any a.1 b ha.l hb)
  have C2 := Lib.hid (rcmF_any b a.2 hb ha.h)
  clear ha hb
  unfold conV
  generalize okV a = va at *
  generalize okF b = vb at *
  generalize cmF a.1 b = c at *
  generalize cmF b a.2 = d at *
  obtain ⟨⟨a1, a2⟩, ⟨a3, a4⟩⟩ := a
  obtain ⟨b1, b2⟩ := b
  simp only at *
  cases va with
  | false =>
    clear V2 C1 C2
    go_enter Try.func15, Try.ntmps15
    go_wp2_with fail
    refine (V1.out _).mono ?_
    rintro e w1 ⟨rfl, hb1⟩
    obtain ⟨hc1, hf1⟩ := bcell hb1
    have hz1 := bsize hb1
    (try simp at hz1)
    have k1a : w.heap.size < w1.heap.size := by omega
    have k1b : w.heap.size + 1 < w1.heap.size := by omega
    go_wp2
    go_ret
    exact ⟨rfl, (by repeat (first | with_reducible exact Below.refl _ _ | (with_reducible refine Below.setCell ?_ (by first | exact Nat.le_refl _ | omega | (simp; done) | (simp; omega)) _) | (with_reducible refine Below.alloc ?_ (by first | exact Nat.le_refl _ | omega | (simp; done) | (simp; omega)) _) | with_reducible refine Below.drew ?_ | with_reducible refine bel_drewN ?_ _ | (with_reducible refine bel_by (by with_reducible assumption) (by first | exact Nat.le_refl _ | omega | (simp; done) | (simp; omega)) ?_)))⟩
  | true =>
    cases vb with
    | false =>
      clear C1 C2
      go_enter Try.func15, Try.ntmps15
      go_wp2_with fail
      refine (V1.out _).mono ?_
      rintro e w1 ⟨rfl, hb1⟩
      obtain ⟨hc1, hf1⟩ := bcell hb1
      have hz1 := bsize hb1
      (try simp at hz1)
      have k1a : w.heap.size < w1.heap.size := by omega
      have k1b : w.heap.size + 1 < w1.heap.size := by omega
      go_wp2_with fail
      refine (V2.out _).mono ?_
      rintro e w2 ⟨rfl, hb2⟩
      obtain ⟨hc2, hf2⟩ := bcell hb2
      have hz2 := bsize hb2
      (try simp at hz2)
      have k2a : w.heap.size < w2.heap.size := by omega
      have k2b : w.heap.size + 1 < w2.heap.size := by omega
      go_wp2
      go_ret
      exact ⟨rfl, (by repeat (first | with_reducible exact Below.refl _ _ | (with_reducible refine Below.setCell ?_ (by first | exact Nat.le_refl _ | omega | (simp; done) | (simp; omega)) _) | (with_reducible refine Below.alloc ?_ (by first | exact Nat.le_refl _ | omega | (simp; done) | (simp; omega)) _) | with_reducible refine Below.drew ?_ | with_reducible refine bel_drewN ?_ _ | (with_reducible refine bel_by (by with_reducible assumption) (by first | exact Nat.le_refl _ | omega | (simp; done) | (simp; omega)) ?_)))⟩
    | true =>
      by_cases h1 : c ≤ 0
      · rw [decide_eq_true h1]
        have e1 : decide (c ≤ 0) = true := decide_eq_true h1
        go_enter Try.func15, Try.ntmps15
        go_wp2_with fail
        refine (V1.out _).mono ?_
        rintro e w1 ⟨rfl, hb1⟩
        obtain ⟨hc1, hf1⟩ := bcell hb1
        have hz1 := bsize hb1
        (try simp at hz1)
        have k1a : w.heap.size < w1.heap.size := by omega
        have k1b : w.heap.size + 1 < w1.heap.size := by omega
        go_wp2_with fail
        refine (V2.out _).mono ?_
        rintro e w2 ⟨rfl, hb2⟩
        obtain ⟨hc2, hf2⟩ := bcell hb2
        have hz2 := bsize hb2
        (try simp at hz2)
        have k2a : w.heap.size < w2.heap.size := by omega
        have k2b : w.heap.size + 1 < w2.heap.size := by omega
        go_wp2_with fail
        refine (C1.out _).mono ?_
        rintro e w3 ⟨rfl, hb3⟩
        obtain ⟨hc3, hf3⟩ := bcell hb3
        have hz3 := bsize hb3
        (try simp at hz3)
        have k3a : w.heap.size < w3.heap.size := by omega
        have k3b : w.heap.size + 1 < w3.heap.size := by omega
        go_wp2_with fail
        refine (C2.out _).mono ?_
        rintro e w4 ⟨rfl, hb4⟩
        obtain ⟨hc4, hf4⟩ := bcell hb4
        have hz4 := bsize hb4
        (try simp at hz4)
        have k4a : w.heap.size < w4.heap.size := by omega
        have k4b : w.heap.size + 1 < w4.heap.size := by omega
        go_wp2
        go_ret
        exact ⟨rfl, (by repeat (first | with_reducible exact Below.refl _ _ | (with_reducible refine Below.setCell ?_ (by first | exact Nat.le_refl _ | omega | (simp; done) | (simp; omega)) _) | (with_reducible refine Below.alloc ?_ (by first | exact Nat.le_refl _ | omega | (simp; done) | (simp; omega)) _) | with_reducible refine Below.drew ?_ | with_reducible refine bel_drewN ?_ _ | (with_reducible refine bel_by (by with_reducible assumption) (by first | exact Nat.le_refl _ | omega | (simp; done) | (simp; omega)) ?_)))⟩
      · rw [decide_eq_false h1]
        have e1 : decide (c ≤ 0) = false := decide_eq_false h1
        clear C2
        go_enter Try.func15, Try.ntmps15
        go_wp2_with fail
        refine (V1.out _).mono ?_
        rintro e w1 ⟨rfl, hb1⟩
        obtain ⟨hc1, hf1⟩ := bcell hb1
        have hz1 := bsize hb1
        (try simp at hz1)
        have k1a : w.heap.size < w1.heap.size := by omega
        have k1b : w.heap.size + 1 < w1.heap.size := by omega
        go_wp2_with fail
        refine (V2.out _).mono ?_
        rintro e w2 ⟨rfl, hb2⟩
        obtain ⟨hc2, hf2⟩ := bcell hb2
        have hz2 := bsize hb2
        (try simp at hz2)
        have k2a : w.heap.size < w2.heap.size := by omega
        have k2b : w.heap.size + 1 < w2.heap.size := by omega
        go_wp2_with fail
        refine (C1.out _).mono ?_
        rintro e w3 ⟨rfl, hb3⟩
        obtain ⟨hc3, hf3⟩ := bcell hb3
        have hz3 := bsize hb3
        (try simp at hz3)
        have k3a : w.heap.size < w3.heap.size := by omega
        have k3b : w.heap.size + 1 < w3.heap.size := by omega
        go_wp2
        go_ret
        exact ⟨rfl, (by repeat (first | with_reducible exact Below.refl _ _ | (with_reducible refine Below.setCell ?_ (by first | exact Nat.le_refl _ | omega | (simp; done) | (simp; omega)) _) | (with_reducible refine Below.alloc ?_ (by first | exact Nat.le_refl _ | omega | (simp; done) | (simp; omega)) _) | with_reducible refine Below.drew ?_ | with_reducible refine bel_drewN ?_ _ | (with_reducible refine bel_by (by with_reducible assumption) (by first | exact Nat.le_refl _ | omega | (simp; done) | (simp; omega)) ?_)))⟩
set_option maxHeartbeats 4000000 in
set_option maxRecDepth 100000 in
theorem rinside_any (a : V) (b : V) (ha : WfV a) (hb : WfV b) (w : World) :
    Calls Try.prog 17 #[(.agg #[.int .i64 (a).1.1, .int .i64 (a).1.2, .int .i64 (a).2.1, .int .i64 (a).2.2]), (.agg #[.int .i64 (b).1.1, .int .i64 (b).1.2, .int .i64 (b).2.1, .int .i64 (b).2.2])] w fun e w' => e = .returned (.bool (insV a b)) ∧ Below w.heap.size w w' := by
  have V1 := Lib.hid (rok_any a ha)
  have V2 := Lib.hid (rok_any b hb)
  have C1 := Lib.hid (rcmF_any b.1 a.1 hb.l ha.l)
  have C2 := Lib.hid (rcmF_any a.2 b.2 ha.h hb.h)
  clear ha hb
  unfold insV
  generalize okV a = va at *
  generalize okV b = vb at *
  generalize cmF b.1 a.1 = c at *
  generalize cmF a.2 b.2 = d at *
  obtain ⟨⟨a1, a2⟩, ⟨a3, a4⟩⟩ := a
  obtain ⟨⟨b1, b2⟩, ⟨b3, b4⟩⟩ := b
  simp only at *
  cases va with
  | false =>
    clear V2 C1 C2
    go_enter Try.func17, Try.ntmps17
    go_wp2_with fail
    refine (V1.out _).mono ?_
    rintro e w1 ⟨rfl, hb1⟩
    obtain ⟨hc1, hf1⟩ := bcell hb1
    have hz1 := bsize hb1
    (try simp at hz1)
    have k1a : w.heap.size < w1.heap.size := by omega
    have k1b : w.heap.size + 1 < w1.heap.size := by omega
    go_wp2
    go_ret
    exact ⟨rfl, (by repeat (first | with_reducible exact Below.refl _ _ | (with_reducible refine Below.setCell ?_ (by first | exact Nat.le_refl _ | omega | (simp; done) | (simp; omega)) _) | (with_reducible refine Below.alloc ?_ (by first | exact Nat.le_refl _ | omega | (simp; done) | (simp; omega)) _) | with_reducible refine Below.drew ?_ | with_reducible refine bel_drewN ?_ _ | (with_reducible refine bel_by (by with_reducible assumption) (by first | exact Nat.le_refl _ | omega | (simp; done) | (simp; omega)) ?_)))⟩
  | true =>
    cases vb with
    | false =>
      clear C1 C2
      go_enter Try.func17, Try.ntmps17
      go_wp2_with fail
      refine (V1.out _).mono ?_
      rintro e w1 ⟨rfl, hb1⟩
      obtain ⟨hc1, hf1⟩ := bcell hb1
      have hz1 := bsize hb1
      (try simp at hz1)
      have k1a : w.heap.size < w1.heap.size := by omega
      have k1b : w.heap.size + 1 < w1.heap.size := by omega
      go_wp2_with fail
      refine (V2.out _).mono ?_
      rintro e w2 ⟨rfl, hb2⟩
      obtain ⟨hc2, hf2⟩ := bcell hb2
      have hz2 := bsize hb2
      (try simp at hz2)
      have k2a : w.heap.size < w2.heap.size := by omega
      have k2b : w.heap.size + 1 < w2.heap.size := by omega
      go_wp2
      go_ret
      exact ⟨rfl, (by repeat (first | with_reducible exact Below.refl _ _ | (with_reducible refine Below.setCell ?_ (by first | exact Nat.le_refl _ | omega | (simp; done) | (simp; omega)) _) | (with_reducible refine Below.alloc ?_ (by first | exact Nat.le_refl _ | omega | (simp; done) | (simp; omega)) _) | with_reducible refine Below.drew ?_ | with_reducible refine bel_drewN ?_ _ | (with_reducible refine bel_by (by with_reducible assumption) (by first | exact Nat.le_refl _ | omega | (simp; done) | (simp; omega)) ?_)))⟩
    | true =>
      by_cases h1 : c ≤ 0
      · rw [decide_eq_true h1]
        have e1 : decide (c ≤ 0) = true := decide_eq_true h1
        go_enter Try.func17, Try.ntmps17
        go_wp2_with fail
        refine (V1.out _).mono ?_
        rintro e w1 ⟨rfl, hb1⟩
        obtain ⟨hc1, hf1⟩ := bcell hb1
        have hz1 := bsize hb1
        (try simp at hz1)
        have k1a : w.heap.size < w1.heap.size := by omega
        have k1b : w.heap.size + 1 < w1.heap.size := by omega
        go_wp2_with fail
        refine (V2.out _).mono ?_
        rintro e w2 ⟨rfl, hb2⟩
        obtain ⟨hc2, hf2⟩ := bcell hb2
        have hz2 := bsize hb2
        (try simp at hz2)
        have k2a : w.heap.size < w2.heap.size := by omega
        have k2b : w.heap.size + 1 < w2.heap.size := by omega
        go_wp2_with fail
        refine (C1.out _).mono ?_
        rintro e w3 ⟨rfl, hb3⟩
        obtain ⟨hc3, hf3⟩ := bcell hb3
        have hz3 := bsize hb3
        (try simp at hz3)
        have k3a : w.heap.size < w3.heap.size := by omega
        have k3b : w.heap.size + 1 < w3.heap.size := by omega
        go_wp2_with fail
        refine (C2.out _).mono ?_
        rintro e w4 ⟨rfl, hb4⟩
        obtain ⟨hc4, hf4⟩ := bcell hb4
        have hz4 := bsize hb4
        (try simp at hz4)
        have k4a : w.heap.size < w4.heap.size := by omega
        have k4b : w.heap.size + 1 < w4.heap.size := by omega
        go_wp2
        go_ret
        exact ⟨rfl, (by repeat (first | with_reducible exact Below.refl _ _ | (with_reducible refine Below.setCell ?_ (by first | exact Nat.le_refl _ | omega | (simp; done) | (simp; omega)) _) | (with_reducible refine Below.alloc ?_ (by first | exact Nat.le_refl _ | omega | (simp; done) | (simp; omega)) _) | with_reducible refine Below.drew ?_ | with_reducible refine bel_drewN ?_ _ | (with_reducible refine bel_by (by with_reducible assumption) (by first | exact Nat.le_refl _ | omega | (simp; done) | (simp; omega)) ?_)))⟩
      · rw [decide_eq_false h1]
        have e1 : decide (c ≤ 0) = false := decide_eq_false h1
        clear C2
        go_enter Try.func17, Try.ntmps17
        go_wp2_with fail
        refine (V1.out _).mono ?_
        rintro e w1 ⟨rfl, hb1⟩
        obtain ⟨hc1, hf1⟩ := bcell hb1
        have hz1 := bsize hb1
        (try simp at hz1)
        have k1a : w.heap.size < w1.heap.size := by omega
        have k1b : w.heap.size + 1 < w1.heap.size := by omega
        go_wp2_with fail
        refine (V2.out _).mono ?_
        rintro e w2 ⟨rfl, hb2⟩
        obtain ⟨hc2, hf2⟩ := bcell hb2
        have hz2 := bsize hb2
        (try simp at hz2)
        have k2a : w.heap.size < w2.heap.size := by omega
        have k2b : w.heap.size + 1 < w2.heap.size := by omega
        go_wp2_with fail
        refine (C1.out _).mono ?_
        rintro e w3 ⟨rfl, hb3⟩
        obtain ⟨hc3, hf3⟩ := bcell hb3
        have hz3 := bsize hb3
        (try simp at hz3)
        have k3a : w.heap.size < w3.heap.size := by omega
        have k3b : w.heap.size + 1 < w3.heap.size := by omega
        go_wp2
        go_ret
        exact ⟨rfl, (by repeat (first | with_reducible exact Below.refl _ _ | (with_reducible refine Below.setCell ?_ (by first | exact Nat.le_refl _ | omega | (simp; done) | (simp; omega)) _) | (with_reducible refine Below.alloc ?_ (by first | exact Nat.le_refl _ | omega | (simp; done) | (simp; omega)) _) | with_reducible refine Below.drew ?_ | with_reducible refine bel_drewN ?_ _ | (with_reducible refine bel_by (by with_reducible assumption) (by first | exact Nat.le_refl _ | omega | (simp; done) | (simp; omega)) ?_)))⟩
set_option maxHeartbeats 1000000 in
theorem rpoint_any (f : F) (w : World) : Calls Try.prog 24 #[(.agg #[.int .i64 (f).1, .int .i64 (f).2])] w fun e w' => e = .returned (.agg #[.int .i64 (((f, f) : V)).1.1, .int .i64 (((f, f) : V)).1.2, .int .i64 (((f, f) : V)).2.1, .int .i64 (((f, f) : V)).2.2]) ∧ Below w.heap.size w w' := by
  obtain ⟨f1, f2⟩ := f
  go_enter Try.func24, Try.ntmps24
  go_wp2
  refine bodyPost_ret (v := .agg #[.int .i64 f1, .int .i64 f2, .int .i64 f1, .int .i64 f2]) (by simp [results, Try.results24, go_sem]) rfl ⟨rfl, (by repeat (first | with_reducible exact Below.refl _ _ | (with_reducible refine Below.setCell ?_ (by first | exact Nat.le_refl _ | omega | (simp; done) | (simp; omega)) _) | (with_reducible refine Below.alloc ?_ (by first | exact Nat.le_refl _ | omega | (simp; done) | (simp; omega)) _) | with_reducible refine Below.drew ?_ | with_reducible refine bel_drewN ?_ _ | (with_reducible refine bel_by (by with_reducible assumption) (by first | exact Nat.le_refl _ | omega | (simp; done) | (simp; omega)) ?_)))⟩
end Go.Proofs.Ytbjmibaepccbeaa
