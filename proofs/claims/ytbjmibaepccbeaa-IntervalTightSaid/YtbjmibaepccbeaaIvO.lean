/- Intervals: the program's operations on two intervals, first part: Add, Sub, Mul. -/
import Derived.Test.YtbjmibaepccbeaaIvU
set_option linter.unusedSimpArgs false
set_option linter.unusedVariables false
namespace Go.Proofs.Ytbjmibaepccbeaa
open Go.RowKit
open Iv

/-- the boxes of two intervals and of a result -/
structure Two (w wr : World) (a1 a2 a3 a4 b1 b2 b3 b4 : Int) : Prop where
  a0 : wr.cell? ⟨w.heap.size, 0, none⟩ = some (.int .i64 a1)
  a1 : wr.cell? ⟨w.heap.size, 1, none⟩ = some (.int .i64 a2)
  a2 : wr.cell? ⟨w.heap.size, 2, none⟩ = some (.int .i64 a3)
  a3 : wr.cell? ⟨w.heap.size, 3, none⟩ = some (.int .i64 a4)
  b0 : wr.cell? ⟨w.heap.size + 1, 0, none⟩ = some (.int .i64 b1)
  b1 : wr.cell? ⟨w.heap.size + 1, 1, none⟩ = some (.int .i64 b2)
  b2 : wr.cell? ⟨w.heap.size + 1, 2, none⟩ = some (.int .i64 b3)
  b3 : wr.cell? ⟨w.heap.size + 1, 3, none⟩ = some (.int .i64 b4)
  q0 : wr.cell? ⟨w.heap.size + 1 + 1, 0, none⟩ = some (.int .i64 0)
  q1 : wr.cell? ⟨w.heap.size + 1 + 1, 1, none⟩ = some (.int .i64 0)
  q2 : wr.cell? ⟨w.heap.size + 1 + 1, 2, none⟩ = some (.int .i64 0)
  q3 : wr.cell? ⟨w.heap.size + 1 + 1, 3, none⟩ = some (.int .i64 0)
  fq : ∀ o, wr.frozen? ⟨w.heap.size + 1 + 1, o, none⟩ = false
  sz : w.heap.size + 3 ≤ wr.heap.size
  bel : Below w.heap.size w wr
theorem Two.keep {w wr w' : World} {a1 a2 a3 a4 b1 b2 b3 b4 : Int} (h : Two w wr a1 a2 a3 a4 b1 b2 b3 b4) (hB : Below wr.heap.size wr w') : Two w w' a1 a2 a3 a4 b1 b2 b3 b4 := by
  have hs := h.sz
  exact ⟨(hB.cell (p := ⟨w.heap.size, 0, none⟩) (by show w.heap.size < _; omega)).trans h.a0,
    (hB.cell (p := ⟨w.heap.size, 1, none⟩) (by show w.heap.size < _; omega)).trans h.a1,
    (hB.cell (p := ⟨w.heap.size, 2, none⟩) (by show w.heap.size < _; omega)).trans h.a2,
    (hB.cell (p := ⟨w.heap.size, 3, none⟩) (by show w.heap.size < _; omega)).trans h.a3,
    (hB.cell (p := ⟨w.heap.size + 1, 0, none⟩) (by show w.heap.size + 1 < _; omega)).trans h.b0,
    (hB.cell (p := ⟨w.heap.size + 1, 1, none⟩) (by show w.heap.size + 1 < _; omega)).trans h.b1,
    (hB.cell (p := ⟨w.heap.size + 1, 2, none⟩) (by show w.heap.size + 1 < _; omega)).trans h.b2,
    (hB.cell (p := ⟨w.heap.size + 1, 3, none⟩) (by show w.heap.size + 1 < _; omega)).trans h.b3,
    (hB.cell (p := ⟨w.heap.size + 1 + 1, 0, none⟩) (by show w.heap.size + 1 + 1 < _; omega)).trans h.q0,
    (hB.cell (p := ⟨w.heap.size + 1 + 1, 1, none⟩) (by show w.heap.size + 1 + 1 < _; omega)).trans h.q1,
    (hB.cell (p := ⟨w.heap.size + 1 + 1, 2, none⟩) (by show w.heap.size + 1 + 1 < _; omega)).trans h.q2,
    (hB.cell (p := ⟨w.heap.size + 1 + 1, 3, none⟩) (by show w.heap.size + 1 + 1 < _; omega)).trans h.q3,
    fun o => (hB.frozen (p := ⟨w.heap.size + 1 + 1, o, none⟩) (by show w.heap.size + 1 + 1 < _; omega)).trans (h.fq o), Nat.le_trans h.sz hB.size, h.bel.trans (hB.mono h.bel.size)⟩
theorem alloc_size (w : World) (o : Obj) : (w.alloc o).heap.size = w.heap.size + 1 := by simp
theorem two_start (w : World) (a1 a2 a3 a4 b1 b2 b3 b4 : Int) : Two w (((w.alloc (.cells #[.int .i64 a1, .int .i64 a2, .int .i64 a3, .int .i64 a4] 25)).alloc (.cells #[.int .i64 b1, .int .i64 b2, .int .i64 b3, .int .i64 b4] 25)).alloc (.cells #[.int .i64 0, .int .i64 0, .int .i64 0, .int .i64 0] 25)) a1 a2 a3 a4 b1 b2 b3 b4 :=
  ⟨by simp [go_sem], by simp [go_sem], by simp [go_sem], by simp [go_sem], by simp [go_sem], by simp [go_sem], by simp [go_sem], by simp [go_sem], by simp [go_sem], by simp [go_sem], by simp [go_sem], by simp [go_sem], fun o => by simp [go_sem], (by rw [alloc_size, alloc_size, alloc_size]; omega), (by repeat (first | with_reducible exact Below.refl _ _ | (with_reducible refine Below.setCell ?_ (by first | exact Nat.le_refl _ | omega | (simp; done) | (simp; omega)) _) | (with_reducible refine Below.alloc ?_ (by first | exact Nat.le_refl _ | omega | (simp; done) | (simp; omega)) _) | with_reducible refine Below.drew ?_ | with_reducible refine bel_drewN ?_ _ | (with_reducible refine bel_by (by with_reducible assumption) (by first | exact Nat.le_refl _ | omega | (simp; done) | (simp; omega)) ?_)))⟩
theorem ivalid2_any (a b : V) (ha : WfV a) (hb : WfV b) (bb : Nat) (w : World) (h : bb < w.heap.size) (hc : VsAt w bb 0 [a, b]) :
    Calls Try.prog 42 #[.slice (some ⟨bb, 0, none⟩) 2 2] w fun e w' => e = .returned (.bool (okV a && okV b)) ∧ Below w.heap.size w w' := by
  have h1 := ivalids_any bb 0 2 2 [a, b] w rfl h (Nat.le_refl _) (by decide) hc (fun x hx => by
    simp only [List.mem_cons, List.not_mem_nil, or_false] at hx
    rcases hx with rfl | rfl <;> assumption)
  simpa using h1
theorem ispan2_any (g : Nat) (r : F → F → R) (hg : FrFn g r) (eg : ∀ args w, (callFunc g args).run Try.prog w = .ok (.enter g args) w) (hr : ∀ x y, Wf64 (r x y).1) (p q : V) (hp : WfV p) (hq : WfV q) (bb : Nat) (w : World) (h : bb < w.heap.size) (hc : VsAt w bb 0 [p, q]) :
    Calls Try.prog 48 #[.func (.func g) #[] #[], .slice (some ⟨bb, 0, none⟩) 2 2] w fun e w' => e = .returned (.tuple #[(.agg #[.int .i64 ((spanV [r p.1 p.2, r q.1 q.2]).1).1.1, .int .i64 ((spanV [r p.1 p.2, r q.1 q.2]).1).1.2, .int .i64 ((spanV [r p.1 p.2, r q.1 q.2]).1).2.1, .int .i64 ((spanV [r p.1 p.2, r q.1 q.2]).1).2.2]), .int .i64 (spanV [r p.1 p.2, r q.1 q.2]).2]) ∧ Below w.heap.size w w' :=
  span_any g r hg eg bb 0 2 2 [p, q] w rfl (by omega) (by omega) h (Nat.le_refl _) (by decide) hc (fun x hx => by
    simp only [List.mem_cons, List.not_mem_nil, or_false] at hx
    rcases hx with rfl | rfl <;> assumption) (fun x _ => hr _ _)
theorem ispan4_any (g : Nat) (r : F → F → R) (hg : FrFn g r) (eg : ∀ args w, (callFunc g args).run Try.prog w = .ok (.enter g args) w) (hr : ∀ x y, Wf64 (r x y).1) (p q s t : V) (hp : WfV p) (hq : WfV q) (hs : WfV s) (ht : WfV t) (bb : Nat) (w : World) (h : bb < w.heap.size) (hc : VsAt w bb 0 [p, q, s, t]) :
    Calls Try.prog 48 #[.func (.func g) #[] #[], .slice (some ⟨bb, 0, none⟩) 4 4] w fun e w' => e = .returned (.tuple #[(.agg #[.int .i64 ((spanV [r p.1 p.2, r q.1 q.2, r s.1 s.2, r t.1 t.2]).1).1.1, .int .i64 ((spanV [r p.1 p.2, r q.1 q.2, r s.1 s.2, r t.1 t.2]).1).1.2, .int .i64 ((spanV [r p.1 p.2, r q.1 q.2, r s.1 s.2, r t.1 t.2]).1).2.1, .int .i64 ((spanV [r p.1 p.2, r q.1 q.2, r s.1 s.2, r t.1 t.2]).1).2.2]), .int .i64 (spanV [r p.1 p.2, r q.1 q.2, r s.1 s.2, r t.1 t.2]).2]) ∧ Below w.heap.size w w' :=
  span_any g r hg eg bb 0 4 4 [p, q, s, t] w rfl (by omega) (by omega) h (Nat.le_refl _) (by decide) hc (fun x hx => by
    simp only [List.mem_cons, List.not_mem_nil, or_false] at hx
    rcases hx with rfl | rfl | rfl | rfl <;> assumption) (fun x _ => hr _ _)
theorem fr_add : FrFn 68 (opR 0) := fun x y hx hy W => add_any x.1 x.2 y.1 y.2 hx hy W
theorem fr_sub : FrFn 49 (opR 1) := fun x y hx hy W => sub_any x.1 x.2 y.1 y.2 hx hy W
theorem fr_mul : FrFn 32 (opR 2) := fun x y hx hy W => mul_any x.1 x.2 y.1 y.2 hx hy W
theorem fr_div : FrFn 33 (opR 5) := fun x y hx hy W => div_any x.1 x.2 y.1 y.2 hx hy W
theorem opR_wf (op : Nat) (hop : op ≠ 3) (hop' : op ≠ 4) (x y : F) : Wf64 (opR op x y).1 := by
  match op, hop, hop' with
  | 0, _, _ => exact add_wf _ _ _ _
  | 1, _, _ => exact sub_wf _ _ _ _
  | 2, _, _ => exact mul_wf _ _ _ _
  | n + 5, _, _ =>
    show Wf64 ((divS x.1 x.2 y.1 y.2).1, (divS x.1 x.2 y.1 y.2).2.1)
    unfold divS
    split
    · exact mul_wf _ _ _ _
    · exact zz_wf
theorem vs_four {w : World} {b : Nat} {x y z u : V} (h0 : w.cell? ⟨b, 0, none⟩ = some (.int .i64 x.1.1)) (h1 : w.cell? ⟨b, 1, none⟩ = some (.int .i64 x.1.2)) (h2 : w.cell? ⟨b, 2, none⟩ = some (.int .i64 x.2.1)) (h3 : w.cell? ⟨b, 3, none⟩ = some (.int .i64 x.2.2)) (h4 : w.cell? ⟨b, 4, none⟩ = some (.int .i64 y.1.1)) (h5 : w.cell? ⟨b, 5, none⟩ = some (.int .i64 y.1.2)) (h6 : w.cell? ⟨b, 6, none⟩ = some (.int .i64 y.2.1)) (h7 : w.cell? ⟨b, 7, none⟩ = some (.int .i64 y.2.2)) (h8 : w.cell? ⟨b, 8, none⟩ = some (.int .i64 z.1.1)) (h9 : w.cell? ⟨b, 9, none⟩ = some (.int .i64 z.1.2)) (h10 : w.cell? ⟨b, 10, none⟩ = some (.int .i64 z.2.1)) (h11 : w.cell? ⟨b, 11, none⟩ = some (.int .i64 z.2.2)) (h12 : w.cell? ⟨b, 12, none⟩ = some (.int .i64 u.1.1)) (h13 : w.cell? ⟨b, 13, none⟩ = some (.int .i64 u.1.2)) (h14 : w.cell? ⟨b, 14, none⟩ = some (.int .i64 u.2.1)) (h15 : w.cell? ⟨b, 15, none⟩ = some (.int .i64 u.2.2)) : VsAt w b 0 [x, y, z, u] := by
  intro k hk
  match k, hk with
  | 0, _ => exact ⟨h0, h1, h2, h3⟩
  | 1, _ => exact ⟨h4, h5, h6, h7⟩
  | 2, _ => exact ⟨h8, h9, h10, h11⟩
  | 3, _ => exact ⟨h12, h13, h14, h15⟩
  | k + 4, hk => exact absurd hk (by simp only [List.length_cons, List.length_nil]; omega)
set_option maxHeartbeats 4000000 in
set_option maxRecDepth 100000 in
theorem iadd_any (a b : V) (ha : WfV a) (hb : WfV b) (w : World) :
    Calls Try.prog 43 #[(.agg #[.int .i64 (a).1.1, .int .i64 (a).1.2, .int .i64 (a).2.1, .int .i64 (a).2.2]), (.agg #[.int .i64 (b).1.1, .int .i64 (b).1.2, .int .i64 (b).2.1, .int .i64 (b).2.2])] w fun e w' => e = .returned (.tuple #[(.agg #[.int .i64 ((doV 0 a b).1).1.1, .int .i64 ((doV 0 a b).1).1.2, .int .i64 ((doV 0 a b).1).2.1, .int .i64 ((doV 0 a b).1).2.2]), .int .i64 (doV 0 a b).2]) ∧ Below w.heap.size w w' := by
  have HV := Lib.hid (ivalid2_any a b ha hb)
  have hw0 : WfV (a.1, b.1) := ⟨ha.l, hb.l⟩
  have hw1 : WfV (a.2, b.2) := ⟨ha.h, hb.h⟩
  have HS := Lib.hid (ispan2_any 68 (opR 0) fr_add (fun _ _ => by kernel_rfl) (opR_wf 0 (by decide) (by decide)) (a.1, b.1) (a.2, b.2) hw0 hw1)
  clear ha hb hw0 hw1
  cases hv : (okV a && okV b) with
  | false =>
    have e : doV 0 a b = (zV, 1) := by unfold doV; rw [hv]; rfl
    rw [e]
    rw [hv] at HV
    clear hv e HS
    obtain ⟨⟨a1, a2⟩, ⟨a3, a4⟩⟩ := a
    obtain ⟨⟨b1, b2⟩, ⟨b3, b4⟩⟩ := b
    have HT0 := Lib.hid (two_start w a1 a2 a3 a4 b1 b2 b3 b4)
    simp only at *
    go_enter Try.func43, Try.ntmps43
    go_wp2_with fail
    refine (HV.out _ _ ?_ ?_).mono ?_
    · simp
    · exact vs_two (by simp [go_sem]) (by simp [go_sem]) (by simp [go_sem]) (by simp [go_sem]) (by simp [go_sem]) (by simp [go_sem]) (by simp [go_sem]) (by simp [go_sem])
    rintro e w1 ⟨rfl, hb1⟩
    have HT1 := Lib.hid (HT0.out.keep (Below.trans (Below.alloc (Below.refl _ _) (Nat.le_refl _) _) (hb1.mono (by simp))))
    clear hb1 HT0
    have hsz := HT1.out.sz
    have q0 := HT1.out.q0
    have q1 := HT1.out.q1
    have q2 := HT1.out.q2
    have q3 := HT1.out.q3
    have fq := HT1.out.fq
    go_wp2
    refine bodyPost_ret (v := .tuple #[.agg #[.int .i64 0, .int .i64 0, .int .i64 0, .int .i64 0], .int .i64 1]) (by simp [results, Try.results43, go_sem, q0, q1, q2, q3, fq]) rfl ⟨rfl, ?_⟩
    have := HT1.out.bel
    exact (by repeat (first | with_reducible exact Below.refl _ _ | (with_reducible refine Below.setCell ?_ (by first | exact Nat.le_refl _ | omega | (simp; done) | (simp; omega)) _) | (with_reducible refine Below.alloc ?_ (by first | exact Nat.le_refl _ | omega | (simp; done) | (simp; omega)) _) | with_reducible refine Below.drew ?_ | with_reducible refine bel_drewN ?_ _ | (with_reducible refine bel_by (by with_reducible assumption) (by first | exact Nat.le_refl _ | omega | (simp; done) | (simp; omega)) ?_)))
  | true =>
    have e : doV 0 a b = spanV [opR 0 a.1 b.1, opR 0 a.2 b.2] := by unfold doV; rw [hv]; rfl
    rw [e]
    rw [hv] at HV
    clear hv e
    obtain ⟨X, hX⟩ : ∃ X, spanV [opR 0 a.1 b.1, opR 0 a.2 b.2] = X := ⟨_, rfl⟩
    simp only at HS
    rw [hX] at HS ⊢
    clear hX
    obtain ⟨⟨⟨x1, x2⟩, ⟨x3, x4⟩⟩, xe⟩ := X
    obtain ⟨⟨a1, a2⟩, ⟨a3, a4⟩⟩ := a
    obtain ⟨⟨b1, b2⟩, ⟨b3, b4⟩⟩ := b
    have HT0 := Lib.hid (two_start w a1 a2 a3 a4 b1 b2 b3 b4)
    simp only at *
    go_enter Try.func43, Try.ntmps43
    go_wp2_with fail
    refine (HV.out _ _ ?_ ?_).mono ?_
    · simp
    · exact vs_two (by simp [go_sem]) (by simp [go_sem]) (by simp [go_sem]) (by simp [go_sem]) (by simp [go_sem]) (by simp [go_sem]) (by simp [go_sem]) (by simp [go_sem])
    rintro e w1 ⟨rfl, hb1⟩
    have HT1 := Lib.hid (HT0.out.keep (Below.trans (Below.alloc (Below.refl _ _) (Nat.le_refl _) _) (hb1.mono (by simp))))
    clear hb1 HT0
    have hsz := HT1.out.sz
    have q0 := HT1.out.q0
    have q1 := HT1.out.q1
    have q2 := HT1.out.q2
    have q3 := HT1.out.q3
    have fq := HT1.out.fq
    have a0' := HT1.out.a0
    have b0' := HT1.out.b0
    have a1' := HT1.out.a1
    have b1' := HT1.out.b1
    have a2' := HT1.out.a2
    have b2' := HT1.out.b2
    have a3' := HT1.out.a3
    have b3' := HT1.out.b3
    go_wp2_with fail
    refine (HS.out _ _ ?_ ?_).mono ?_
    · simp
    · exact vs_two (by simp [go_sem]) (by simp [go_sem]) (by simp [go_sem]) (by simp [go_sem]) (by simp [go_sem]) (by simp [go_sem]) (by simp [go_sem]) (by simp [go_sem])
    rintro e w2 ⟨rfl, hb2⟩
    have HT2 := Lib.hid (HT1.out.keep (Below.trans (Below.alloc (Below.refl _ _) (Nat.le_refl _) _) (hb2.mono (by simp))))
    clear hb2 HT1 q0 q1 q2 q3 fq hsz a0' a1' a2' a3' b0' b1' b2' b3' HS HV
    have q0 := HT2.out.q0
    have q1 := HT2.out.q1
    have q2 := HT2.out.q2
    have q3 := HT2.out.q3
    have fq := HT2.out.fq
    go_wp2
    refine bodyPost_ret (v := .tuple #[.agg #[.int .i64 x1, .int .i64 x2, .int .i64 x3, .int .i64 x4], .int .i64 xe]) (by simp [results, Try.results43, go_sem, q0, q1, q2, q3, fq]) rfl ⟨rfl, ?_⟩
    have := HT2.out.bel
    exact (by repeat (first | with_reducible exact Below.refl _ _ | (with_reducible refine Below.setCell ?_ (by first | exact Nat.le_refl _ | omega | (simp; done) | (simp; omega)) _) | (with_reducible refine Below.alloc ?_ (by first | exact Nat.le_refl _ | omega | (simp; done) | (simp; omega)) _) | with_reducible refine Below.drew ?_ | with_reducible refine bel_drewN ?_ _ | (with_reducible refine bel_by (by with_reducible assumption) (by first | exact Nat.le_refl _ | omega | (simp; done) | (simp; omega)) ?_)))
set_option maxHeartbeats 4000000 in
set_option maxRecDepth 100000 in
theorem isub_any (a b : V) (ha : WfV a) (hb : WfV b) (w : World) :
    Calls Try.prog 37 #[(.agg #[.int .i64 (a).1.1, .int .i64 (a).1.2, .int .i64 (a).2.1, .int .i64 (a).2.2]), (.agg #[.int .i64 (b).1.1, .int .i64 (b).1.2, .int .i64 (b).2.1, .int .i64 (b).2.2])] w fun e w' => e = .returned (.tuple #[(.agg #[.int .i64 ((doV 1 a b).1).1.1, .int .i64 ((doV 1 a b).1).1.2, .int .i64 ((doV 1 a b).1).2.1, .int .i64 ((doV 1 a b).1).2.2]), .int .i64 (doV 1 a b).2]) ∧ Below w.heap.size w w' := by
  have HV := Lib.hid (ivalid2_any a b ha hb)
  have hw0 : WfV (a.1, b.2) := ⟨ha.l, hb.h⟩
  have hw1 : WfV (a.2, b.1) := ⟨ha.h, hb.l⟩
  have HS := Lib.hid (ispan2_any 49 (opR 1) fr_sub (fun _ _ => by kernel_rfl) (opR_wf 1 (by decide) (by decide)) (a.1, b.2) (a.2, b.1) hw0 hw1)
  clear ha hb hw0 hw1
  cases hv : (okV a && okV b) with
  | false =>
    have e : doV 1 a b = (zV, 1) := by unfold doV; rw [hv]; rfl
    rw [e]
    rw [hv] at HV
    clear hv e HS
    obtain ⟨⟨a1, a2⟩, ⟨a3, a4⟩⟩ := a
    obtain ⟨⟨b1, b2⟩, ⟨b3, b4⟩⟩ := b
    have HT0 := Lib.hid (two_start w a1 a2 a3 a4 b1 b2 b3 b4)
    simp only at *
    go_enter Try.func37, Try.ntmps37
    go_wp2_with fail
    refine (HV.out _ _ ?_ ?_).mono ?_
    · simp
    · exact vs_two (by simp [go_sem]) (by simp [go_sem]) (by simp [go_sem]) (by simp [go_sem]) (by simp [go_sem]) (by simp [go_sem]) (by simp [go_sem]) (by simp [go_sem])
    rintro e w1 ⟨rfl, hb1⟩
    have HT1 := Lib.hid (HT0.out.keep (Below.trans (Below.alloc (Below.refl _ _) (Nat.le_refl _) _) (hb1.mono (by simp))))
    clear hb1 HT0
    have hsz := HT1.out.sz
    have q0 := HT1.out.q0
    have q1 := HT1.out.q1
    have q2 := HT1.out.q2
    have q3 := HT1.out.q3
    have fq := HT1.out.fq
    go_wp2
    refine bodyPost_ret (v := .tuple #[.agg #[.int .i64 0, .int .i64 0, .int .i64 0, .int .i64 0], .int .i64 1]) (by simp [results, Try.results37, go_sem, q0, q1, q2, q3, fq]) rfl ⟨rfl, ?_⟩
    have := HT1.out.bel
    exact (by repeat (first | with_reducible exact Below.refl _ _ | (with_reducible refine Below.setCell ?_ (by first | exact Nat.le_refl _ | omega | (simp; done) | (simp; omega)) _) | (with_reducible refine Below.alloc ?_ (by first | exact Nat.le_refl _ | omega | (simp; done) | (simp; omega)) _) | with_reducible refine Below.drew ?_ | with_reducible refine bel_drewN ?_ _ | (with_reducible refine bel_by (by with_reducible assumption) (by first | exact Nat.le_refl _ | omega | (simp; done) | (simp; omega)) ?_)))
  | true =>
    have e : doV 1 a b = spanV [opR 1 a.1 b.2, opR 1 a.2 b.1] := by unfold doV; rw [hv]; rfl
    rw [e]
    rw [hv] at HV
    clear hv e
    obtain ⟨X, hX⟩ : ∃ X, spanV [opR 1 a.1 b.2, opR 1 a.2 b.1] = X := ⟨_, rfl⟩
    simp only at HS
    rw [hX] at HS ⊢
    clear hX
    obtain ⟨⟨⟨x1, x2⟩, ⟨x3, x4⟩⟩, xe⟩ := X
    obtain ⟨⟨a1, a2⟩, ⟨a3, a4⟩⟩ := a
    obtain ⟨⟨b1, b2⟩, ⟨b3, b4⟩⟩ := b
    have HT0 := Lib.hid (two_start w a1 a2 a3 a4 b1 b2 b3 b4)
    simp only at *
    go_enter Try.func37, Try.ntmps37
    go_wp2_with fail
    refine (HV.out _ _ ?_ ?_).mono ?_
    · simp
    · exact vs_two (by simp [go_sem]) (by simp [go_sem]) (by simp [go_sem]) (by simp [go_sem]) (by simp [go_sem]) (by simp [go_sem]) (by simp [go_sem]) (by simp [go_sem])
    rintro e w1 ⟨rfl, hb1⟩
    have HT1 := Lib.hid (HT0.out.keep (Below.trans (Below.alloc (Below.refl _ _) (Nat.le_refl _) _) (hb1.mono (by simp))))
    clear hb1 HT0
    have hsz := HT1.out.sz
    have q0 := HT1.out.q0
    have q1 := HT1.out.q1
    have q2 := HT1.out.q2
    have q3 := HT1.out.q3
    have fq := HT1.out.fq
    have a0' := HT1.out.a0
    have b0' := HT1.out.b0
    have a1' := HT1.out.a1
    have b1' := HT1.out.b1
    have a2' := HT1.out.a2
    have b2' := HT1.out.b2
    have a3' := HT1.out.a3
    have b3' := HT1.out.b3
    go_wp2_with fail
    refine (HS.out _ _ ?_ ?_).mono ?_
    · simp
    · exact vs_two (by simp [go_sem]) (by simp [go_sem]) (by simp [go_sem]) (by simp [go_sem]) (by simp [go_sem]) (by simp [go_sem]) (by simp [go_sem]) (by simp [go_sem])
    rintro e w2 ⟨rfl, hb2⟩
    have HT2 := Lib.hid (HT1.out.keep (Below.trans (Below.alloc (Below.refl _ _) (Nat.le_refl _) _) (hb2.mono (by simp))))
    clear hb2 HT1 q0 q1 q2 q3 fq hsz a0' a1' a2' a3' b0' b1' b2' b3' HS HV
    have q0 := HT2.out.q0
    have q1 := HT2.out.q1
    have q2 := HT2.out.q2
    have q3 := HT2.out.q3
    have fq := HT2.out.fq
    go_wp2
    refine bodyPost_ret (v := .tuple #[.agg #[.int .i64 x1, .int .i64 x2, .int .i64 x3, .int .i64 x4], .int .i64 xe]) (by simp [results, Try.results37, go_sem, q0, q1, q2, q3, fq]) rfl ⟨rfl, ?_⟩
    have := HT2.out.bel
    exact (by repeat (first | with_reducible exact Below.refl _ _ | (with_reducible refine Below.setCell ?_ (by first | exact Nat.le_refl _ | omega | (simp; done) | (simp; omega)) _) | (with_reducible refine Below.alloc ?_ (by first | exact Nat.le_refl _ | omega | (simp; done) | (simp; omega)) _) | with_reducible refine Below.drew ?_ | with_reducible refine bel_drewN ?_ _ | (with_reducible refine bel_by (by with_reducible assumption) (by first | exact Nat.le_refl _ | omega | (simp; done) | (simp; omega)) ?_)))
set_option maxHeartbeats 4000000 in
set_option maxRecDepth 100000 in
theorem imul_any (a b : V) (ha : WfV a) (hb : WfV b) (w : World) :
    Calls Try.prog 35 #[(.agg #[.int .i64 (a).1.1, .int .i64 (a).1.2, .int .i64 (a).2.1, .int .i64 (a).2.2]), (.agg #[.int .i64 (b).1.1, .int .i64 (b).1.2, .int .i64 (b).2.1, .int .i64 (b).2.2])] w fun e w' => e = .returned (.tuple #[(.agg #[.int .i64 ((doV 2 a b).1).1.1, .int .i64 ((doV 2 a b).1).1.2, .int .i64 ((doV 2 a b).1).2.1, .int .i64 ((doV 2 a b).1).2.2]), .int .i64 (doV 2 a b).2]) ∧ Below w.heap.size w w' := by
  have HV := Lib.hid (ivalid2_any a b ha hb)
  have hw0 : WfV (a.1, b.1) := ⟨ha.l, hb.l⟩
  have hw1 : WfV (a.1, b.2) := ⟨ha.l, hb.h⟩
  have hw2 : WfV (a.2, b.1) := ⟨ha.h, hb.l⟩
  have hw3 : WfV (a.2, b.2) := ⟨ha.h, hb.h⟩
  have HS := Lib.hid (ispan4_any 32 (opR 2) fr_mul (fun _ _ => by kernel_rfl) (opR_wf 2 (by decide) (by decide)) (a.1, b.1) (a.1, b.2) (a.2, b.1) (a.2, b.2) hw0 hw1 hw2 hw3)
  clear ha hb hw0 hw1 hw2 hw3
  cases hv : (okV a && okV b) with
  | false =>
    have e : doV 2 a b = (zV, 1) := by unfold doV; rw [hv]; rfl
    rw [e]
    rw [hv] at HV
    clear hv e HS
    obtain ⟨⟨a1, a2⟩, ⟨a3, a4⟩⟩ := a
    obtain ⟨⟨b1, b2⟩, ⟨b3, b4⟩⟩ := b
    have HT0 := Lib.hid (two_start w a1 a2 a3 a4 b1 b2 b3 b4)
    simp only at *
    go_enter Try.func35, Try.ntmps35
    go_wp2_with fail
    refine (HV.out _ _ ?_ ?_).mono ?_
    · simp
    · exact vs_two (by simp [go_sem]) (by simp [go_sem]) (by simp [go_sem]) (by simp [go_sem]) (by simp [go_sem]) (by simp [go_sem]) (by simp [go_sem]) (by simp [go_sem])
    rintro e w1 ⟨rfl, hb1⟩
    have HT1 := Lib.hid (HT0.out.keep (Below.trans (Below.alloc (Below.refl _ _) (Nat.le_refl _) _) (hb1.mono (by simp))))
    clear hb1 HT0
    have hsz := HT1.out.sz
    have q0 := HT1.out.q0
    have q1 := HT1.out.q1
    have q2 := HT1.out.q2
    have q3 := HT1.out.q3
    have fq := HT1.out.fq
    go_wp2
    refine bodyPost_ret (v := .tuple #[.agg #[.int .i64 0, .int .i64 0, .int .i64 0, .int .i64 0], .int .i64 1]) (by simp [results, Try.results35, go_sem, q0, q1, q2, q3, fq]) rfl ⟨rfl, ?_⟩
    have := HT1.out.bel
    exact (by repeat (first | with_reducible exact Below.refl _ _ | (with_reducible refine Below.setCell ?_ (by first | exact Nat.le_refl _ | omega | (simp; done) | (simp; omega)) _) | (with_reducible refine Below.alloc ?_ (by first | exact Nat.le_refl _ | omega | (simp; done) | (simp; omega)) _) | with_reducible refine Below.drew ?_ | with_reducible refine bel_drewN ?_ _ | (with_reducible refine bel_by (by with_reducible assumption) (by first | exact Nat.le_refl _ | omega | (simp; done) | (simp; omega)) ?_)))
  | true =>
    have e : doV 2 a b = spanV [opR 2 a.1 b.1, opR 2 a.1 b.2, opR 2 a.2 b.1, opR 2 a.2 b.2] := by unfold doV; rw [hv]; rfl
    rw [e]
    rw [hv] at HV
    clear hv e
    obtain ⟨X, hX⟩ : ∃ X, spanV [opR 2 a.1 b.1, opR 2 a.1 b.2, opR 2 a.2 b.1, opR 2 a.2 b.2] = X := ⟨_, rfl⟩
    simp only at HS
    rw [hX] at HS ⊢
    clear hX
    obtain ⟨⟨⟨x1, x2⟩, ⟨x3, x4⟩⟩, xe⟩ := X
    obtain ⟨⟨a1, a2⟩, ⟨a3, a4⟩⟩ := a
    obtain ⟨⟨b1, b2⟩, ⟨b3, b4⟩⟩ := b
    have HT0 := Lib.hid (two_start w a1 a2 a3 a4 b1 b2 b3 b4)
    simp only at *
    go_enter Try.func35, Try.ntmps35
    go_wp2_with fail
    refine (HV.out _ _ ?_ ?_).mono ?_
    · simp
    · exact vs_two (by simp [go_sem]) (by simp [go_sem]) (by simp [go_sem]) (by simp [go_sem]) (by simp [go_sem]) (by simp [go_sem]) (by simp [go_sem]) (by simp [go_sem])
    rintro e w1 ⟨rfl, hb1⟩
    have HT1 := Lib.hid (HT0.out.keep (Below.trans (Below.alloc (Below.refl _ _) (Nat.le_refl _) _) (hb1.mono (by simp))))
    clear hb1 HT0
    have hsz := HT1.out.sz
    have q0 := HT1.out.q0
    have q1 := HT1.out.q1
    have q2 := HT1.out.q2
    have q3 := HT1.out.q3
    have fq := HT1.out.fq
    have a0' := HT1.out.a0
    have b0' := HT1.out.b0
    have a1' := HT1.out.a1
    have b1' := HT1.out.b1
    have a2' := HT1.out.a2
    have b2' := HT1.out.b2
    have a3' := HT1.out.a3
    have b3' := HT1.out.b3
    go_wp2_with fail
    refine (HS.out _ _ ?_ ?_).mono ?_
    · simp
    · exact vs_four (by simp [go_sem]) (by simp [go_sem]) (by simp [go_sem]) (by simp [go_sem]) (by simp [go_sem]) (by simp [go_sem]) (by simp [go_sem]) (by simp [go_sem]) (by simp [go_sem]) (by simp [go_sem]) (by simp [go_sem]) (by simp [go_sem]) (by simp [go_sem]) (by simp [go_sem]) (by simp [go_sem]) (by simp [go_sem])
    rintro e w2 ⟨rfl, hb2⟩
    have HT2 := Lib.hid (HT1.out.keep (Below.trans (Below.alloc (Below.refl _ _) (Nat.le_refl _) _) (hb2.mono (by simp))))
    clear hb2 HT1 q0 q1 q2 q3 fq hsz a0' a1' a2' a3' b0' b1' b2' b3' HS HV
    have q0 := HT2.out.q0
    have q1 := HT2.out.q1
    have q2 := HT2.out.q2
    have q3 := HT2.out.q3
    have fq := HT2.out.fq
    go_wp2
    refine bodyPost_ret (v := .tuple #[.agg #[.int .i64 x1, .int .i64 x2, .int .i64 x3, .int .i64 x4], .int .i64 xe]) (by simp [results, Try.results35, go_sem, q0, q1, q2, q3, fq]) rfl ⟨rfl, ?_⟩
    have := HT2.out.bel
    exact (by repeat (first | with_reducible exact Below.refl _ _ | (with_reducible refine Below.setCell ?_ (by first | exact Nat.le_refl _ | omega | (simp; done) | (simp; omega)) _) | (with_reducible refine Below.alloc ?_ (by first | exact Nat.le_refl _ | omega | (simp; done) | (simp; omega)) _) | with_reducible refine Below.drew ?_ | with_reducible refine bel_drewN ?_ _ | (with_reducible refine bel_by (by with_reducible assumption) (by first | exact Nat.le_refl _ | omega | (simp; done) | (simp; omega)) ?_)))
end Go.Proofs.Ytbjmibaepccbeaa
