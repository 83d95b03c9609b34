/- Intervals: the program's operations on two intervals, second part: Min, Max, Hull. -/
import Derived.Test.YtbjmibaepccbeaaIvO
import Derived.Test.YtbjmibaepccbeaaRgn
set_option linter.unusedSimpArgs false
set_option linter.unusedVariables false
namespace Go.Proofs.Ytbjmibaepccbeaa
open Go.RowKit
open Iv

set_option maxHeartbeats 4000000 in
set_option maxRecDepth 100000 in
theorem imin_any (a b : V) (ha : WfV a) (hb : WfV b) (w : World) :
    Calls Try.prog 44 #[(.agg #[.int .i64 (a).1.1, .int .i64 (a).1.2, .int .i64 (a).2.1, .int .i64 (a).2.2]), (.agg #[.int .i64 (b).1.1, .int .i64 (b).1.2, .int .i64 (b).2.1, .int .i64 (b).2.2])] w fun e w' => e = .returned (.tuple #[(.agg #[.int .i64 ((doV 3 a b).1).1.1, .int .i64 ((doV 3 a b).1).1.2, .int .i64 ((doV 3 a b).1).2.1, .int .i64 ((doV 3 a b).1).2.2]), .int .i64 (doV 3 a b).2]) ∧ Below w.heap.size w w' := by
  have HV := Lib.hid (ivalid2_any a b ha hb)
  have H1 := Lib.hid (ilesser_any a.1 b.1 ha.l hb.l)
  have H2 := Lib.hid (ilesser_any a.2 b.2 ha.h hb.h)
  clear ha hb
  cases hv : (okV a && okV b) with
  | false =>
    have e : doV 3 a b = (zV, 1) := by unfold doV; rw [hv]; rfl
    rw [e]
    rw [hv] at HV
    clear hv e H1 H2
    obtain ⟨⟨a1, a2⟩, ⟨a3, a4⟩⟩ := a
    obtain ⟨⟨b1, b2⟩, ⟨b3, b4⟩⟩ := b
    have HT0 := Lib.hid (two_start w a1 a2 a3 a4 b1 b2 b3 b4)
    simp only at *
    go_enter Try.func44, Try.ntmps44
    go_wp2_with fail
    refine (HV.out _ _ ?_ ?_).mono ?_
    · simp
    · exact vs_two (by simp [go_sem]) (by simp [go_sem]) (by simp [go_sem]) (by simp [go_sem]) (by simp [go_sem]) (by simp [go_sem]) (by simp [go_sem]) (by simp [go_sem])
    rintro e w1 ⟨rfl, hb1⟩
    have HT1 := Lib.hid (HT0.out.keep (Below.trans (Below.alloc (Below.refl _ _) (Nat.le_refl _) _) (hb1.mono (by simp))))
    clear hb1 HT0
    have hsz := HT1.out.sz
    have q0 := HT1.out.q0
    have q1 := HT1.out.q1
    have q2 := HT1.out.q2
    have q3 := HT1.out.q3
    have fq := HT1.out.fq
    go_wp2
    refine bodyPost_ret (v := .tuple #[.agg #[.int .i64 0, .int .i64 0, .int .i64 0, .int .i64 0], .int .i64 1]) (by simp [results, Try.results44, go_sem, q0, q1, q2, q3, fq]) rfl ⟨rfl, ?_⟩
    have := HT1.out.bel
    exact (by repeat (first | with_reducible exact Below.refl _ _ | (with_reducible refine Below.setCell ?_ (by first | exact Nat.le_refl _ | omega | (simp; done) | (simp; omega)) _) | (with_reducible refine Below.alloc ?_ (by first | exact Nat.le_refl _ | omega | (simp; done) | (simp; omega)) _) | with_reducible refine Below.drew ?_ | with_reducible refine bel_drewN ?_ _ | (with_reducible refine bel_by (by with_reducible assumption) (by first | exact Nat.le_refl _ | omega | (simp; done) | (simp; omega)) ?_)))
  | true =>
    have e : doV 3 a b = ((les a.1 b.1, les a.2 b.2), 0) := by unfold doV; rw [hv]; rfl
    rw [e]
    rw [hv] at HV
    clear hv e
    obtain ⟨p, hp⟩ : ∃ p, les a.1 b.1 = p := ⟨_, rfl⟩
    obtain ⟨q, hq⟩ : ∃ q, les a.2 b.2 = q := ⟨_, rfl⟩
    rw [hp] at H1 ⊢
    rw [hq] at H2 ⊢
    clear hp hq
    obtain ⟨p1, p2⟩ := p
    obtain ⟨p3, p4⟩ := q
    obtain ⟨⟨a1, a2⟩, ⟨a3, a4⟩⟩ := a
    obtain ⟨⟨b1, b2⟩, ⟨b3, b4⟩⟩ := b
    have HT0 := Lib.hid (two_start w a1 a2 a3 a4 b1 b2 b3 b4)
    simp only at *
    go_enter Try.func44, Try.ntmps44
    go_wp2_with fail
    refine (HV.out _ _ ?_ ?_).mono ?_
    · simp
    · exact vs_two (by simp [go_sem]) (by simp [go_sem]) (by simp [go_sem]) (by simp [go_sem]) (by simp [go_sem]) (by simp [go_sem]) (by simp [go_sem]) (by simp [go_sem])
    rintro e w1 ⟨rfl, hb1⟩
    have HT1 := Lib.hid (HT0.out.keep (Below.trans (Below.alloc (Below.refl _ _) (Nat.le_refl _) _) (hb1.mono (by simp))))
    clear hb1 HT0
    have hsz := HT1.out.sz
    have q0 := HT1.out.q0
    have q1 := HT1.out.q1
    have q2 := HT1.out.q2
    have q3 := HT1.out.q3
    have fq := HT1.out.fq
    go_wp2_with fail
    refine wp_region_s (fun w' => w'.cell? ⟨w.heap.size, 0, none⟩ = some (.int .i64 a1) ∧ w'.cell? ⟨w.heap.size, 1, none⟩ = some (.int .i64 a2) ∧ w'.cell? ⟨w.heap.size, 2, none⟩ = some (.int .i64 a3) ∧ w'.cell? ⟨w.heap.size, 3, none⟩ = some (.int .i64 a4) ∧ w'.cell? ⟨w.heap.size + 1, 0, none⟩ = some (.int .i64 b1) ∧ w'.cell? ⟨w.heap.size + 1, 1, none⟩ = some (.int .i64 b2) ∧ w'.cell? ⟨w.heap.size + 1, 2, none⟩ = some (.int .i64 b3) ∧ w'.cell? ⟨w.heap.size + 1, 3, none⟩ = some (.int .i64 b4)) 9 (by kernel_rfl) ?_
    refine AnyS.take0 (i := 0) (v := (.pointer (some ⟨w.heap.size, 0, none⟩))) rfl (by kernel_rfl) (by kernel_rfl) (by kernel_rfl) (by kernel_rfl) (fun _ _ _ h => h) (fun _ => ⟨HT1.out.a0, HT1.out.a1, HT1.out.a2, HT1.out.a3, HT1.out.b0, HT1.out.b1, HT1.out.b2, HT1.out.b3⟩) (Or.inl ⟨by rfl, fun w' _ => (by go_simp)⟩) ?_
    simp only [Act.put, List.setIfInBounds_toArray, List.set_cons_zero, List.set_cons_succ]
    refine AnyS.take (i := 1) (v := (.agg #[.int .i64 a1, .int .i64 a2])) [9, 4] rfl (by kernel_rfl) (by kernel_rfl) (by kernel_rfl) (by kernel_rfl) (fun _ _ _ h => h) ⟨HT1.out.a0, HT1.out.a1, HT1.out.a2, HT1.out.a3, HT1.out.b0, HT1.out.b1, HT1.out.b2, HT1.out.b3⟩ (Or.inl ⟨by rfl, fun w' hw' => (by obtain ⟨t0, t1, t2, t3, t4, t5, t6, t7⟩ := hw'; go_simp)⟩) ?_
    simp only [Act.put, List.setIfInBounds_toArray, List.set_cons_zero, List.set_cons_succ]
    refine AnyS.take0 (i := 2) (v := (.pointer (some ⟨w.heap.size + 1, 0, none⟩))) rfl (by kernel_rfl) (by kernel_rfl) (by kernel_rfl) (by kernel_rfl) (fun _ _ _ h => h) (fun _ => ⟨HT1.out.a0, HT1.out.a1, HT1.out.a2, HT1.out.a3, HT1.out.b0, HT1.out.b1, HT1.out.b2, HT1.out.b3⟩) (Or.inl ⟨by rfl, fun w' _ => (by go_simp)⟩) ?_
    simp only [Act.put, List.setIfInBounds_toArray, List.set_cons_zero, List.set_cons_succ]
    refine AnyS.take (i := 3) (v := (.agg #[.int .i64 b1, .int .i64 b2])) [9, 4] rfl (by kernel_rfl) (by kernel_rfl) (by kernel_rfl) (by kernel_rfl) (fun _ _ _ h => h) ⟨HT1.out.a0, HT1.out.a1, HT1.out.a2, HT1.out.a3, HT1.out.b0, HT1.out.b1, HT1.out.b2, HT1.out.b3⟩ (Or.inl ⟨by rfl, fun w' hw' => (by obtain ⟨t0, t1, t2, t3, t4, t5, t6, t7⟩ := hw'; go_simp)⟩) ?_
    simp only [Act.put, List.setIfInBounds_toArray, List.set_cons_zero, List.set_cons_succ]
    refine AnyS.take0 (i := 5) (v := (.pointer (some ⟨w.heap.size, 2, none⟩))) rfl (by kernel_rfl) (by kernel_rfl) (by kernel_rfl) (by kernel_rfl) (fun _ _ _ h => h) (fun _ => ⟨HT1.out.a0, HT1.out.a1, HT1.out.a2, HT1.out.a3, HT1.out.b0, HT1.out.b1, HT1.out.b2, HT1.out.b3⟩) (Or.inl ⟨by rfl, fun w' _ => (by go_simp)⟩) ?_
    simp only [Act.put, List.setIfInBounds_toArray, List.set_cons_zero, List.set_cons_succ]
    refine AnyS.take (i := 6) (v := (.agg #[.int .i64 a3, .int .i64 a4])) [9] rfl (by kernel_rfl) (by kernel_rfl) (by kernel_rfl) (by kernel_rfl) (fun _ _ _ h => h) ⟨HT1.out.a0, HT1.out.a1, HT1.out.a2, HT1.out.a3, HT1.out.b0, HT1.out.b1, HT1.out.b2, HT1.out.b3⟩ (Or.inl ⟨by rfl, fun w' hw' => (by obtain ⟨t0, t1, t2, t3, t4, t5, t6, t7⟩ := hw'; go_simp)⟩) ?_
    simp only [Act.put, List.setIfInBounds_toArray, List.set_cons_zero, List.set_cons_succ]
    refine AnyS.take0 (i := 7) (v := (.pointer (some ⟨w.heap.size + 1, 2, none⟩))) rfl (by kernel_rfl) (by kernel_rfl) (by kernel_rfl) (by kernel_rfl) (fun _ _ _ h => h) (fun _ => ⟨HT1.out.a0, HT1.out.a1, HT1.out.a2, HT1.out.a3, HT1.out.b0, HT1.out.b1, HT1.out.b2, HT1.out.b3⟩) (Or.inl ⟨by rfl, fun w' _ => (by go_simp)⟩) ?_
    simp only [Act.put, List.setIfInBounds_toArray, List.set_cons_zero, List.set_cons_succ]
    refine AnyS.take (i := 8) (v := (.agg #[.int .i64 b3, .int .i64 b4])) [9] rfl (by kernel_rfl) (by kernel_rfl) (by kernel_rfl) (by kernel_rfl) (fun _ _ _ h => h) ⟨HT1.out.a0, HT1.out.a1, HT1.out.a2, HT1.out.a3, HT1.out.b0, HT1.out.b1, HT1.out.b2, HT1.out.b3⟩ (Or.inl ⟨by rfl, fun w' hw' => (by obtain ⟨t0, t1, t2, t3, t4, t5, t6, t7⟩ := hw'; go_simp)⟩) ?_
    simp only [Act.put, List.setIfInBounds_toArray, List.set_cons_zero, List.set_cons_succ]
    refine AnyS.step (j := 4) rfl (by kernel_rfl) (fun K hK => ?_)
    go_simp
    refine (H1.out _).mono ?_
    rintro e w5 ⟨rfl, hb5⟩
    replace hb5 := undrew hb5
    have HT5 := Lib.hid (HT1.out.keep hb5)
    clear hb5 HT1 q0 q1 q2 q3 fq hsz
    go_wp2_with fail
    refine hK.out _ _ (fun _ => ⟨HT5.out.a0, HT5.out.a1, HT5.out.a2, HT5.out.a3, HT5.out.b0, HT5.out.b1, HT5.out.b2, HT5.out.b3⟩) ?_
    clear hK
    refine AnyS.step (j := 9) rfl (by kernel_rfl) (fun K hK => ?_)
    go_simp
    refine (H2.out _).mono ?_
    rintro e w6 ⟨rfl, hb6⟩
    have HT6 := Lib.hid (HT5.out.keep hb6)
    clear hb6 HT5
    go_wp2_with fail
    refine hK.out _ _ (fun e => absurd e (by decide)) ?_
    clear hK
    refine AnyS.rest 10 (by kernel_rfl) rfl (by kernel_rfl) ?_
    change wpList _ _ _ [_, _, _] _ _
    have q0 := HT6.out.q0
    have q1 := HT6.out.q1
    have q2 := HT6.out.q2
    have q3 := HT6.out.q3
    have fq := HT6.out.fq
    go_wp2
    refine bodyPost_ret (v := .tuple #[.agg #[.int .i64 p1, .int .i64 p2, .int .i64 p3, .int .i64 p4], .int .i64 0]) (by simp [results, Try.results44, go_sem, q0, q1, q2, q3, fq]) rfl ⟨rfl, ?_⟩
    have := HT6.out.bel
    exact (by repeat (first | with_reducible exact Below.refl _ _ | (with_reducible refine Below.setCell ?_ (by first | exact Nat.le_refl _ | omega | (simp; done) | (simp; omega)) _) | (with_reducible refine Below.alloc ?_ (by first | exact Nat.le_refl _ | omega | (simp; done) | (simp; omega)) _) | with_reducible refine Below.drew ?_ | with_reducible refine bel_drewN ?_ _ | (with_reducible refine bel_by (by with_reducible assumption) (by first | exact Nat.le_refl _ | omega | (simp; done) | (simp; omega)) ?_)))
set_option maxHeartbeats 4000000 in
set_option maxRecDepth 100000 in
theorem imax_any (a b : V) (ha : WfV a) (hb : WfV b) (w : World) :
    Calls Try.prog 38 #[(.agg #[.int .i64 (a).1.1, .int .i64 (a).1.2, .int .i64 (a).2.1, .int .i64 (a).2.2]), (.agg #[.int .i64 (b).1.1, .int .i64 (b).1.2, .int .i64 (b).2.1, .int .i64 (b).2.2])] w fun e w' => e = .returned (.tuple #[(.agg #[.int .i64 ((doV 4 a b).1).1.1, .int .i64 ((doV 4 a b).1).1.2, .int .i64 ((doV 4 a b).1).2.1, .int .i64 ((doV 4 a b).1).2.2]), .int .i64 (doV 4 a b).2]) ∧ Below w.heap.size w w' := by
  have HV := Lib.hid (ivalid2_any a b ha hb)
  have H1 := Lib.hid (igreater_any a.1 b.1 ha.l hb.l)
  have H2 := Lib.hid (igreater_any a.2 b.2 ha.h hb.h)
  clear ha hb
  cases hv : (okV a && okV b) with
  | false =>
    have e : doV 4 a b = (zV, 1) := by unfold doV; rw [hv]; rfl
    rw [e]
    rw [hv] at HV
    clear hv e H1 H2
    obtain ⟨⟨a1, a2⟩, ⟨a3, a4⟩⟩ := a
    obtain ⟨⟨b1, b2⟩, ⟨b3, b4⟩⟩ := b
    have HT0 := Lib.hid (two_start w a1 a2 a3 a4 b1 b2 b3 b4)
    simp only at *
    go_enter Try.func38, Try.ntmps38
    go_wp2_with fail
    refine (HV.out _ _ ?_ ?_).mono ?_
    · simp
    · exact vs_two (by simp [go_sem]) (by simp [go_sem]) (by simp [go_sem]) (by simp [go_sem]) (by simp [go_sem]) (by simp [go_sem]) (by simp [go_sem]) (by simp [go_sem])
    rintro e w1 ⟨rfl, hb1⟩
    have HT1 := Lib.hid (HT0.out.keep (Below.trans (Below.alloc (Below.refl _ _) (Nat.le_refl _) _) (hb1.mono (by simp))))
    clear hb1 HT0
    have hsz := HT1.out.sz
    have q0 := HT1.out.q0
    have q1 := HT1.out.q1
    have q2 := HT1.out.q2
    have q3 := HT1.out.q3
    have fq := HT1.out.fq
    go_wp2
    refine bodyPost_ret (v := .tuple #[.agg #[.int .i64 0, .int .i64 0, .int .i64 0, .int .i64 0], .int .i64 1]) (by simp [results, Try.results38, go_sem, q0, q1, q2, q3, fq]) rfl ⟨rfl, ?_⟩
    have := HT1.out.bel
    exact (by repeat (first | with_reducible exact Below.refl _ _ | (with_reducible refine Below.setCell ?_ (by first | exact Nat.le_refl _ | omega | (simp; done) | (simp; omega)) _) | (with_reducible refine Below.alloc ?_ (by first | exact Nat.le_refl _ | omega | (simp; done) | (simp; omega)) _) | with_reducible refine Below.drew ?_ | with_reducible refine bel_drewN ?_ _ | (with_reducible refine bel_by (by with_reducible assumption) (by first | exact Nat.le_refl _ | omega | (simp; done) | (simp; omega)) ?_)))
  | true =>
    have e : doV 4 a b = ((gre a.1 b.1, gre a.2 b.2), 0) := by unfold doV; rw [hv]; rfl
    rw [e]
    rw [hv] at HV
    clear hv e
    obtain ⟨p, hp⟩ : ∃ p, gre a.1 b.1 = p := ⟨_, rfl⟩
    obtain ⟨q, hq⟩ : ∃ q, gre a.2 b.2 = q := ⟨_, rfl⟩
    rw [hp] at H1 ⊢
    rw [hq] at H2 ⊢
    clear hp hq
    obtain ⟨p1, p2⟩ := p
    obtain ⟨p3, p4⟩ := q
    obtain ⟨⟨a1, a2⟩, ⟨a3, a4⟩⟩ := a
    obtain ⟨⟨b1, b2⟩, ⟨b3, b4⟩⟩ := b
    have HT0 := Lib.hid (two_start w a1 a2 a3 a4 b1 b2 b3 b4)
    simp only at *
    go_enter Try.func38, Try.ntmps38
    go_wp2_with fail
    refine (HV.out _ _ ?_ ?_).mono ?_
    · simp
    · exact vs_two (by simp [go_sem]) (by simp [go_sem]) (by simp [go_sem]) (by simp [go_sem]) (by simp [go_sem]) (by simp [go_sem]) (by simp [go_sem]) (by simp [go_sem])
    rintro e w1 ⟨rfl, hb1⟩
    have HT1 := Lib.hid (HT0.out.keep (Below.trans (Below.alloc (Below.refl _ _) (Nat.le_refl _) _) (hb1.mono (by simp))))
    clear hb1 HT0
    have hsz := HT1.out.sz
    have q0 := HT1.out.q0
    have q1 := HT1.out.q1
    have q2 := HT1.out.q2
    have q3 := HT1.out.q3
    have fq := HT1.out.fq
    go_wp2_with fail
    refine wp_region_s (fun w' => w'.cell? ⟨w.heap.size, 0, none⟩ = some (.int .i64 a1) ∧ w'.cell? ⟨w.heap.size, 1, none⟩ = some (.int .i64 a2) ∧ w'.cell? ⟨w.heap.size, 2, none⟩ = some (.int .i64 a3) ∧ w'.cell? ⟨w.heap.size, 3, none⟩ = some (.int .i64 a4) ∧ w'.cell? ⟨w.heap.size + 1, 0, none⟩ = some (.int .i64 b1) ∧ w'.cell? ⟨w.heap.size + 1, 1, none⟩ = some (.int .i64 b2) ∧ w'.cell? ⟨w.heap.size + 1, 2, none⟩ = some (.int .i64 b3) ∧ w'.cell? ⟨w.heap.size + 1, 3, none⟩ = some (.int .i64 b4)) 9 (by kernel_rfl) ?_
    refine AnyS.take0 (i := 0) (v := (.pointer (some ⟨w.heap.size, 0, none⟩))) rfl (by kernel_rfl) (by kernel_rfl) (by kernel_rfl) (by kernel_rfl) (fun _ _ _ h => h) (fun _ => ⟨HT1.out.a0, HT1.out.a1, HT1.out.a2, HT1.out.a3, HT1.out.b0, HT1.out.b1, HT1.out.b2, HT1.out.b3⟩) (Or.inl ⟨by rfl, fun w' _ => (by go_simp)⟩) ?_
    simp only [Act.put, List.setIfInBounds_toArray, List.set_cons_zero, List.set_cons_succ]
    refine AnyS.take (i := 1) (v := (.agg #[.int .i64 a1, .int .i64 a2])) [9, 4] rfl (by kernel_rfl) (by kernel_rfl) (by kernel_rfl) (by kernel_rfl) (fun _ _ _ h => h) ⟨HT1.out.a0, HT1.out.a1, HT1.out.a2, HT1.out.a3, HT1.out.b0, HT1.out.b1, HT1.out.b2, HT1.out.b3⟩ (Or.inl ⟨by rfl, fun w' hw' => (by obtain ⟨t0, t1, t2, t3, t4, t5, t6, t7⟩ := hw'; go_simp)⟩) ?_
    simp only [Act.put, List.setIfInBounds_toArray, List.set_cons_zero, List.set_cons_succ]
    refine AnyS.take0 (i := 2) (v := (.pointer (some ⟨w.heap.size + 1, 0, none⟩))) rfl (by kernel_rfl) (by kernel_rfl) (by kernel_rfl) (by kernel_rfl) (fun _ _ _ h => h) (fun _ => ⟨HT1.out.a0, HT1.out.a1, HT1.out.a2, HT1.out.a3, HT1.out.b0, HT1.out.b1, HT1.out.b2, HT1.out.b3⟩) (Or.inl ⟨by rfl, fun w' _ => (by go_simp)⟩) ?_
    simp only [Act.put, List.setIfInBounds_toArray, List.set_cons_zero, List.set_cons_succ]
    refine AnyS.take (i := 3) (v := (.agg #[.int .i64 b1, .int .i64 b2])) [9, 4] rfl (by kernel_rfl) (by kernel_rfl) (by kernel_rfl) (by kernel_rfl) (fun _ _ _ h => h) ⟨HT1.out.a0, HT1.out.a1, HT1.out.a2, HT1.out.a3, HT1.out.b0, HT1.out.b1, HT1.out.b2, HT1.out.b3⟩ (Or.inl ⟨by rfl, fun w' hw' => (by obtain ⟨t0, t1, t2, t3, t4, t5, t6, t7⟩ := hw'; go_simp)⟩) ?_
    simp only [Act.put, List.setIfInBounds_toArray, List.set_cons_zero, List.set_cons_succ]
    refine AnyS.take0 (i := 5) (v := (.pointer (some ⟨w.heap.size, 2, none⟩))) rfl (by kernel_rfl) (by kernel_rfl) (by kernel_rfl) (by kernel_rfl) (fun _ _ _ h => h) (fun _ => ⟨HT1.out.a0, HT1.out.a1, HT1.out.a2, HT1.out.a3, HT1.out.b0, HT1.out.b1, HT1.out.b2, HT1.out.b3⟩) (Or.inl ⟨by rfl, fun w' _ => (by go_simp)⟩) ?_
    simp only [Act.put, List.setIfInBounds_toArray, List.set_cons_zero, List.set_cons_succ]
    refine AnyS.take (i := 6) (v := (.agg #[.int .i64 a3, .int .i64 a4])) [9] rfl (by kernel_rfl) (by kernel_rfl) (by kernel_rfl) (by kernel_rfl) (fun _ _ _ h => h) ⟨HT1.out.a0, HT1.out.a1, HT1.out.a2, HT1.out.a3, HT1.out.b0, HT1.out.b1, HT1.out.b2, HT1.out.b3⟩ (Or.inl ⟨by rfl, fun w' hw' => (by obtain ⟨t0, t1, t2, t3, t4, t5, t6, t7⟩ := hw'; go_simp)⟩) ?_
    simp only [Act.put, List.setIfInBounds_toArray, List.set_cons_zero, List.set_cons_succ]
    refine AnyS.take0 (i := 7) (v := (.pointer (some ⟨w.heap.size + 1, 2, none⟩))) rfl (by kernel_rfl) (by kernel_rfl) (by kernel_rfl) (by kernel_rfl) (fun _ _ _ h => h) (fun _ => ⟨HT1.out.a0, HT1.out.a1, HT1.out.a2, HT1.out.a3, HT1.out.b0, HT1.out.b1, HT1.out.b2, HT1.out.b3⟩) (Or.inl ⟨by rfl, fun w' _ => (by go_simp)⟩) ?_
    simp only [Act.put, List.setIfInBounds_toArray, List.set_cons_zero, List.set_cons_succ]
    refine AnyS.take (i := 8) (v := (.agg #[.int .i64 b3, .int .i64 b4])) [9] rfl (by kernel_rfl) (by kernel_rfl) (by kernel_rfl) (by kernel_rfl) (fun _ _ _ h => h) ⟨HT1.out.a0, HT1.out.a1, HT1.out.a2, HT1.out.a3, HT1.out.b0, HT1.out.b1, HT1.out.b2, HT1.out.b3⟩ (Or.inl ⟨by rfl, fun w' hw' => (by obtain ⟨t0, t1, t2, t3, t4, t5, t6, t7⟩ := hw'; go_simp)⟩) ?_
    simp only [Act.put, List.setIfInBounds_toArray, List.set_cons_zero, List.set_cons_succ]
    refine AnyS.step (j := 4) rfl (by kernel_rfl) (fun K hK => ?_)
    go_simp
    refine (H1.out _).mono ?_
    rintro e w5 ⟨rfl, hb5⟩
    replace hb5 := undrew hb5
    have HT5 := Lib.hid (HT1.out.keep hb5)
    clear hb5 HT1 q0 q1 q2 q3 fq hsz
    go_wp2_with fail
    refine hK.out _ _ (fun _ => ⟨HT5.out.a0, HT5.out.a1, HT5.out.a2, HT5.out.a3, HT5.out.b0, HT5.out.b1, HT5.out.b2, HT5.out.b3⟩) ?_
    clear hK
    refine AnyS.step (j := 9) rfl (by kernel_rfl) (fun K hK => ?_)
    go_simp
    refine (H2.out _).mono ?_
    rintro e w6 ⟨rfl, hb6⟩
    have HT6 := Lib.hid (HT5.out.keep hb6)
    clear hb6 HT5
    go_wp2_with fail
    refine hK.out _ _ (fun e => absurd e (by decide)) ?_
    clear hK
    refine AnyS.rest 10 (by kernel_rfl) rfl (by kernel_rfl) ?_
    change wpList _ _ _ [_, _, _] _ _
    have q0 := HT6.out.q0
    have q1 := HT6.out.q1
    have q2 := HT6.out.q2
    have q3 := HT6.out.q3
    have fq := HT6.out.fq
    go_wp2
    refine bodyPost_ret (v := .tuple #[.agg #[.int .i64 p1, .int .i64 p2, .int .i64 p3, .int .i64 p4], .int .i64 0]) (by simp [results, Try.results38, go_sem, q0, q1, q2, q3, fq]) rfl ⟨rfl, ?_⟩
    have := HT6.out.bel
    exact (by repeat (first | with_reducible exact Below.refl _ _ | (with_reducible refine Below.setCell ?_ (by first | exact Nat.le_refl _ | omega | (simp; done) | (simp; omega)) _) | (with_reducible refine Below.alloc ?_ (by first | exact Nat.le_refl _ | omega | (simp; done) | (simp; omega)) _) | with_reducible refine Below.drew ?_ | with_reducible refine bel_drewN ?_ _ | (with_reducible refine bel_by (by with_reducible assumption) (by first | exact Nat.le_refl _ | omega | (simp; done) | (simp; omega)) ?_)))
set_option maxHeartbeats 4000000 in
set_option maxRecDepth 100000 in
theorem ihull_any (a b : V) (ha : WfV a) (hb : WfV b) (w : World) :
    Calls Try.prog 27 #[(.agg #[.int .i64 (a).1.1, .int .i64 (a).1.2, .int .i64 (a).2.1, .int .i64 (a).2.2]), (.agg #[.int .i64 (b).1.1, .int .i64 (b).1.2, .int .i64 (b).2.1, .int .i64 (b).2.2])] w fun e w' => e = .returned (.tuple #[(.agg #[.int .i64 ((hullV a b).1).1.1, .int .i64 ((hullV a b).1).1.2, .int .i64 ((hullV a b).1).2.1, .int .i64 ((hullV a b).1).2.2]), .int .i64 (hullV a b).2]) ∧ Below w.heap.size w w' := by
  have HV := Lib.hid (ivalid2_any a b ha hb)
  have H1 := Lib.hid (ilesser_any a.1 b.1 ha.l hb.l)
  have H2 := Lib.hid (igreater_any a.2 b.2 ha.h hb.h)
  clear ha hb
  cases hv : (okV a && okV b) with
  | false =>
    have e : hullV a b = (zV, 1) := by unfold hullV; rw [hv]; rfl
    rw [e]
    rw [hv] at HV
    clear hv e H1 H2
    obtain ⟨⟨a1, a2⟩, ⟨a3, a4⟩⟩ := a
    obtain ⟨⟨b1, b2⟩, ⟨b3, b4⟩⟩ := b
    have HT0 := Lib.hid (two_start w a1 a2 a3 a4 b1 b2 b3 b4)
    simp only at *
    go_enter Try.func27, Try.ntmps27
    go_wp2_with fail
    refine (HV.out _ _ ?_ ?_).mono ?_
    · simp
    · exact vs_two (by simp [go_sem]) (by simp [go_sem]) (by simp [go_sem]) (by simp [go_sem]) (by simp [go_sem]) (by simp [go_sem]) (by simp [go_sem]) (by simp [go_sem])
    rintro e w1 ⟨rfl, hb1⟩
    have HT1 := Lib.hid (HT0.out.keep (Below.trans (Below.alloc (Below.refl _ _) (Nat.le_refl _) _) (hb1.mono (by simp))))
    clear hb1 HT0
    have hsz := HT1.out.sz
    have q0 := HT1.out.q0
    have q1 := HT1.out.q1
    have q2 := HT1.out.q2
    have q3 := HT1.out.q3
    have fq := HT1.out.fq
    go_wp2
    refine bodyPost_ret (v := .tuple #[.agg #[.int .i64 0, .int .i64 0, .int .i64 0, .int .i64 0], .int .i64 1]) (by simp [results, Try.results27, go_sem, q0, q1, q2, q3, fq]) rfl ⟨rfl, ?_⟩
    have := HT1.out.bel
    exact (by repeat (first | with_reducible exact Below.refl _ _ | (with_reducible refine Below.setCell ?_ (by first | exact Nat.le_refl _ | omega | (simp; done) | (simp; omega)) _) | (with_reducible refine Below.alloc ?_ (by first | exact Nat.le_refl _ | omega | (simp; done) | (simp; omega)) _) | with_reducible refine Below.drew ?_ | with_reducible refine bel_drewN ?_ _ | (with_reducible refine bel_by (by with_reducible assumption) (by first | exact Nat.le_refl _ | omega | (simp; done) | (simp; omega)) ?_)))
  | true =>
    have e : hullV a b = ((les a.1 b.1, gre a.2 b.2), 0) := by unfold hullV; rw [hv]; rfl
    rw [e]
    rw [hv] at HV
    clear hv e
    obtain ⟨p, hp⟩ : ∃ p, les a.1 b.1 = p := ⟨_, rfl⟩
    obtain ⟨q, hq⟩ : ∃ q, gre a.2 b.2 = q := ⟨_, rfl⟩
    rw [hp] at H1 ⊢
    rw [hq] at H2 ⊢
    clear hp hq
    obtain ⟨p1, p2⟩ := p
    obtain ⟨p3, p4⟩ := q
    obtain ⟨⟨a1, a2⟩, ⟨a3, a4⟩⟩ := a
    obtain ⟨⟨b1, b2⟩, ⟨b3, b4⟩⟩ := b
    have HT0 := Lib.hid (two_start w a1 a2 a3 a4 b1 b2 b3 b4)
    simp only at *
    go_enter Try.func27, Try.ntmps27
    go_wp2_with fail
    refine (HV.out _ _ ?_ ?_).mono ?_
    · simp
    · exact vs_two (by simp [go_sem]) (by simp [go_sem]) (by simp [go_sem]) (by simp [go_sem]) (by simp [go_sem]) (by simp [go_sem]) (by simp [go_sem]) (by simp [go_sem])
    rintro e w1 ⟨rfl, hb1⟩
    have HT1 := Lib.hid (HT0.out.keep (Below.trans (Below.alloc (Below.refl _ _) (Nat.le_refl _) _) (hb1.mono (by simp))))
    clear hb1 HT0
    have hsz := HT1.out.sz
    have q0 := HT1.out.q0
    have q1 := HT1.out.q1
    have q2 := HT1.out.q2
    have q3 := HT1.out.q3
    have fq := HT1.out.fq
    go_wp2_with fail
    refine wp_region_s (fun w' => w'.cell? ⟨w.heap.size, 0, none⟩ = some (.int .i64 a1) ∧ w'.cell? ⟨w.heap.size, 1, none⟩ = some (.int .i64 a2) ∧ w'.cell? ⟨w.heap.size, 2, none⟩ = some (.int .i64 a3) ∧ w'.cell? ⟨w.heap.size, 3, none⟩ = some (.int .i64 a4) ∧ w'.cell? ⟨w.heap.size + 1, 0, none⟩ = some (.int .i64 b1) ∧ w'.cell? ⟨w.heap.size + 1, 1, none⟩ = some (.int .i64 b2) ∧ w'.cell? ⟨w.heap.size + 1, 2, none⟩ = some (.int .i64 b3) ∧ w'.cell? ⟨w.heap.size + 1, 3, none⟩ = some (.int .i64 b4)) 9 (by kernel_rfl) ?_
    refine AnyS.take0 (i := 0) (v := (.pointer (some ⟨w.heap.size, 0, none⟩))) rfl (by kernel_rfl) (by kernel_rfl) (by kernel_rfl) (by kernel_rfl) (fun _ _ _ h => h) (fun _ => ⟨HT1.out.a0, HT1.out.a1, HT1.out.a2, HT1.out.a3, HT1.out.b0, HT1.out.b1, HT1.out.b2, HT1.out.b3⟩) (Or.inl ⟨by rfl, fun w' _ => (by go_simp)⟩) ?_
    simp only [Act.put, List.setIfInBounds_toArray, List.set_cons_zero, List.set_cons_succ]
    refine AnyS.take (i := 1) (v := (.agg #[.int .i64 a1, .int .i64 a2])) [9, 4] rfl (by kernel_rfl) (by kernel_rfl) (by kernel_rfl) (by kernel_rfl) (fun _ _ _ h => h) ⟨HT1.out.a0, HT1.out.a1, HT1.out.a2, HT1.out.a3, HT1.out.b0, HT1.out.b1, HT1.out.b2, HT1.out.b3⟩ (Or.inl ⟨by rfl, fun w' hw' => (by obtain ⟨t0, t1, t2, t3, t4, t5, t6, t7⟩ := hw'; go_simp)⟩) ?_
    simp only [Act.put, List.setIfInBounds_toArray, List.set_cons_zero, List.set_cons_succ]
    refine AnyS.take0 (i := 2) (v := (.pointer (some ⟨w.heap.size + 1, 0, none⟩))) rfl (by kernel_rfl) (by kernel_rfl) (by kernel_rfl) (by kernel_rfl) (fun _ _ _ h => h) (fun _ => ⟨HT1.out.a0, HT1.out.a1, HT1.out.a2, HT1.out.a3, HT1.out.b0, HT1.out.b1, HT1.out.b2, HT1.out.b3⟩) (Or.inl ⟨by rfl, fun w' _ => (by go_simp)⟩) ?_
    simp only [Act.put, List.setIfInBounds_toArray, List.set_cons_zero, List.set_cons_succ]
    refine AnyS.take (i := 3) (v := (.agg #[.int .i64 b1, .int .i64 b2])) [9, 4] rfl (by kernel_rfl) (by kernel_rfl) (by kernel_rfl) (by kernel_rfl) (fun _ _ _ h => h) ⟨HT1.out.a0, HT1.out.a1, HT1.out.a2, HT1.out.a3, HT1.out.b0, HT1.out.b1, HT1.out.b2, HT1.out.b3⟩ (Or.inl ⟨by rfl, fun w' hw' => (by obtain ⟨t0, t1, t2, t3, t4, t5, t6, t7⟩ := hw'; go_simp)⟩) ?_
    simp only [Act.put, List.setIfInBounds_toArray, List.set_cons_zero, List.set_cons_succ]
    refine AnyS.take0 (i := 5) (v := (.pointer (some ⟨w.heap.size, 2, none⟩))) rfl (by kernel_rfl) (by kernel_rfl) (by kernel_rfl) (by kernel_rfl) (fun _ _ _ h => h) (fun _ => ⟨HT1.out.a0, HT1.out.a1, HT1.out.a2, HT1.out.a3, HT1.out.b0, HT1.out.b1, HT1.out.b2, HT1.out.b3⟩) (Or.inl ⟨by rfl, fun w' _ => (by go_simp)⟩) ?_
    simp only [Act.put, List.setIfInBounds_toArray, List.set_cons_zero, List.set_cons_succ]
    refine AnyS.take (i := 6) (v := (.agg #[.int .i64 a3, .int .i64 a4])) [9] rfl (by kernel_rfl) (by kernel_rfl) (by kernel_rfl) (by kernel_rfl) (fun _ _ _ h => h) ⟨HT1.out.a0, HT1.out.a1, HT1.out.a2, HT1.out.a3, HT1.out.b0, HT1.out.b1, HT1.out.b2, HT1.out.b3⟩ (Or.inl ⟨by rfl, fun w' hw' => (by obtain ⟨t0, t1, t2, t3, t4, t5, t6, t7⟩ := hw'; go_simp)⟩) ?_
    simp only [Act.put, List.setIfInBounds_toArray, List.set_cons_zero, List.set_cons_succ]
    refine AnyS.take0 (i := 7) (v := (.pointer (some ⟨w.heap.size + 1, 2, none⟩))) rfl (by kernel_rfl) (by kernel_rfl) (by kernel_rfl) (by kernel_rfl) (fun _ _ _ h => h) (fun _ => ⟨HT1.out.a0, HT1.out.a1, HT1.out.a2, HT1.out.a3, HT1.out.b0, HT1.out.b1, HT1.out.b2, HT1.out.b3⟩) (Or.inl ⟨by rfl, fun w' _ => (by go_simp)⟩) ?_
    simp only [Act.put, List.setIfInBounds_toArray, List.set_cons_zero, List.set_cons_succ]
    refine AnyS.take (i := 8) (v := (.agg #[.int .i64 b3, .int .i64 b4])) [9] rfl (by kernel_rfl) (by kernel_rfl) (by kernel_rfl) (by kernel_rfl) (fun _ _ _ h => h) ⟨HT1.out.a0, HT1.out.a1, HT1.out.a2, HT1.out.a3, HT1.out.b0, HT1.out.b1, HT1.out.b2, HT1.out.b3⟩ (Or.inl ⟨by rfl, fun w' hw' => (by obtain ⟨t0, t1, t2, t3, t4, t5, t6, t7⟩ := hw'; go_simp)⟩) ?_
    simp only [Act.put, List.setIfInBounds_toArray, List.set_cons_zero, List.set_cons_succ]
    refine AnyS.step (j := 4) rfl (by kernel_rfl) (fun K hK => ?_)
    go_simp
    refine (H1.out _).mono ?_
    rintro e w5 ⟨rfl, hb5⟩
    replace hb5 := undrew hb5
    have HT5 := Lib.hid (HT1.out.keep hb5)
    clear hb5 HT1 q0 q1 q2 q3 fq hsz
    go_wp2_with fail
    refine hK.out _ _ (fun _ => ⟨HT5.out.a0, HT5.out.a1, HT5.out.a2, HT5.out.a3, HT5.out.b0, HT5.out.b1, HT5.out.b2, HT5.out.b3⟩) ?_
    clear hK
    refine AnyS.step (j := 9) rfl (by kernel_rfl) (fun K hK => ?_)
    go_simp
    refine (H2.out _).mono ?_
    rintro e w6 ⟨rfl, hb6⟩
    have HT6 := Lib.hid (HT5.out.keep hb6)
    clear hb6 HT5
    go_wp2_with fail
    refine hK.out _ _ (fun e => absurd e (by decide)) ?_
    clear hK
    refine AnyS.rest 10 (by kernel_rfl) rfl (by kernel_rfl) ?_
    change wpList _ _ _ [_, _, _] _ _
    have q0 := HT6.out.q0
    have q1 := HT6.out.q1
    have q2 := HT6.out.q2
    have q3 := HT6.out.q3
    have fq := HT6.out.fq
    go_wp2
    refine bodyPost_ret (v := .tuple #[.agg #[.int .i64 p1, .int .i64 p2, .int .i64 p3, .int .i64 p4], .int .i64 0]) (by simp [results, Try.results27, go_sem, q0, q1, q2, q3, fq]) rfl ⟨rfl, ?_⟩
    have := HT6.out.bel
    exact (by repeat (first | with_reducible exact Below.refl _ _ | (with_reducible refine Below.setCell ?_ (by first | exact Nat.le_refl _ | omega | (simp; done) | (simp; omega)) _) | (with_reducible refine Below.alloc ?_ (by first | exact Nat.le_refl _ | omega | (simp; done) | (simp; omega)) _) | with_reducible refine Below.drew ?_ | with_reducible refine bel_drewN ?_ _ | (with_reducible refine bel_by (by with_reducible assumption) (by first | exact Nat.le_refl _ | omega | (simp; done) | (simp; omega)) ?_)))
end Go.Proofs.Ytbjmibaepccbeaa
