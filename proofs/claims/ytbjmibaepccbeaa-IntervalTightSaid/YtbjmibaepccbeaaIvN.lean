/- Intervals: Intersect, of the program and of the reference. -/
import Derived.Test.YtbjmibaepccbeaaIvF
import Derived.Deep.RegionHeld3
set_option linter.unusedSimpArgs false
set_option linter.unusedVariables false
namespace Go.Proofs.Ytbjmibaepccbeaa
open Go.RowKit
open Iv

theorem Two.far {w wr : World} {a1 a2 a3 a4 b1 b2 b3 b4 : Int} (h : Two w wr a1 a2 a3 a4 b1 b2 b3 b4) {p : Addr} (hp : w.heap.size + 3 ≤ p.block) (u : Value) : Two w (wr.setCell p u) a1 a2 a3 a4 b1 b2 b3 b4 := by
  obtain ⟨b, o, s⟩ := p
  have hp' : w.heap.size + 3 ≤ b := hp
  have e : ∀ (n t : Nat), n < w.heap.size + 3 → (wr.setCell ⟨b, o, s⟩ u).cell? ⟨n, t, none⟩ = wr.cell? ⟨n, t, none⟩ := fun n t hn => World.cell?_setCell_other _ _ _ _ (fun e => by have := (Addr.mk.inj e).1; omega)
  exact ⟨(e _ _ (by omega)).trans h.a0, (e _ _ (by omega)).trans h.a1, (e _ _ (by omega)).trans h.a2, (e _ _ (by omega)).trans h.a3, (e _ _ (by omega)).trans h.b0, (e _ _ (by omega)).trans h.b1, (e _ _ (by omega)).trans h.b2, (e _ _ (by omega)).trans h.b3,
    (e _ _ (by omega)).trans h.q0, (e _ _ (by omega)).trans h.q1, (e _ _ (by omega)).trans h.q2, (e _ _ (by omega)).trans h.q3, fun o => by simpa using h.fq o, by simpa using h.sz, h.bel.setCell (p := ⟨b, o, s⟩) (by show w.heap.size ≤ b; omega) _⟩
theorem Two.drew {w wr : World} {a1 a2 a3 a4 b1 b2 b3 b4 : Int} (h : Two w wr a1 a2 a3 a4 b1 b2 b3 b4) : Two w wr.drew a1 a2 a3 a4 b1 b2 b3 b4 := h.keep (Below.refl _ _).drew
theorem Two.alloc {w wr : World} {a1 a2 a3 a4 b1 b2 b3 b4 : Int} (h : Two w wr a1 a2 a3 a4 b1 b2 b3 b4) (o : Obj) : Two w (wr.alloc o) a1 a2 a3 a4 b1 b2 b3 b4 := h.keep ((Below.refl _ _).alloc (Nat.le_refl _) o)
/-- a block of one's own, with an interval's four cells -/
structure Nw (w : World) (g : Nat) : Prop where
  c : ∀ o, o < 4 → ∃ u, w.cell? ⟨g, o, none⟩ = some u
  f : ∀ o, w.frozen? ⟨g, o, none⟩ = false
  lt : g < w.heap.size
theorem Nw.keep {w w' : World} {g : Nat} (h : Nw w g) (hB : Below w.heap.size w w') : Nw w' g :=
  ⟨fun o ho => by obtain ⟨u, hu⟩ := h.c o ho; exact ⟨u, (hB.cell (p := ⟨g, o, none⟩) h.lt).trans hu⟩, fun o => (hB.frozen (p := ⟨g, o, none⟩) h.lt).trans (h.f o), Nat.lt_of_lt_of_le h.lt hB.size⟩
theorem nw_new (w : World) : Nw (w.alloc (.cells #[.int .i64 0, .int .i64 0, .int .i64 0, .int .i64 0] 25)) w.heap.size :=
  ⟨fun o ho => ⟨.int .i64 0, by
    match o, ho with
    | 0, _ => simp [go_sem]
    | 1, _ => simp [go_sem]
    | 2, _ => simp [go_sem]
    | 3, _ => simp [go_sem]⟩, fun o => by simp [go_sem], by simp⟩
theorem nw_put {w : World} {g : Nat} (h : Nw w g) (p1 p2 p3 p4 : Int) : AlB ((((w.setCell ⟨g, 0, none⟩ (.int .i64 p1)).setCell ⟨g, 1, none⟩ (.int .i64 p2)).setCell ⟨g, 2, none⟩ (.int .i64 p3)).setCell ⟨g, 3, none⟩ (.int .i64 p4)) g ((p1, p2), (p3, p4)) := by
  obtain ⟨u0, h0⟩ := h.c 0 (by decide)
  obtain ⟨u1, h1⟩ := h.c 1 (by decide)
  obtain ⟨u2, h2⟩ := h.c 2 (by decide)
  obtain ⟨u3, h3⟩ := h.c 3 (by decide)
  exact ⟨by simp [go_sem, h0, h1, h2, h3], by simp [go_sem, h0, h1, h2, h3], by simp [go_sem, h0, h1, h2, h3], by simp [go_sem, h0, h1, h2, h3], by simpa using h.lt, fun o => by simpa using h.f o⟩
theorem al_new (w : World) (p1 p2 p3 p4 : Int) : AlB (w.alloc (.cells #[.int .i64 p1, .int .i64 p2, .int .i64 p3, .int .i64 p4] 25)) w.heap.size ((p1, p2), (p3, p4)) :=
  ⟨by simp [go_sem], by simp [go_sem], by simp [go_sem], by simp [go_sem], by simp, fun o => by simp [go_sem]⟩
set_option maxHeartbeats 4000000 in
set_option maxRecDepth 100000 in
theorem iinter_any (a b : V) (ha : WfV a) (hb : WfV b) (w : World) :
    Calls Try.prog 28 #[(.agg #[.int .i64 (a).1.1, .int .i64 (a).1.2, .int .i64 (a).2.1, .int .i64 (a).2.2]), (.agg #[.int .i64 (b).1.1, .int .i64 (b).1.2, .int .i64 (b).2.1, .int .i64 (b).2.2])] w fun e w' => e = .returned (.tuple #[(.agg #[.int .i64 ((interV a b).1).1.1, .int .i64 ((interV a b).1).1.2, .int .i64 ((interV a b).1).2.1, .int .i64 ((interV a b).1).2.2]), .int .i64 (interV a b).2]) ∧ Below w.heap.size w w' := by
  have HV := Lib.hid (ivalid2_any a b ha hb)
  have H1 := Lib.hid (igreater_any a.1 b.1 ha.l hb.l)
  have H2 := Lib.hid (ilesser_any a.2 b.2 ha.h hb.h)
  have HK := Lib.hid (iok_any (gre a.1 b.1, les a.2 b.2) ⟨gre_wf ha.l hb.l, les_wf ha.h hb.h⟩)
  clear ha hb
  cases hv : (okV a && okV b) with
  | false =>
    have e : interV a b = (zV, 1) := by unfold interV; rw [hv]; rfl
    rw [e]
    rw [hv] at HV
    clear hv e H1 H2 HK
    obtain ⟨⟨a1, a2⟩, ⟨a3, a4⟩⟩ := a
    obtain ⟨⟨b1, b2⟩, ⟨b3, b4⟩⟩ := b
    have HT0 := Lib.hid (two_start w a1 a2 a3 a4 b1 b2 b3 b4)
    simp only at *
    go_enter Try.func28, Try.ntmps28
    go_wp2_with fail
    refine (HV.out _ _ ?_ ?_).mono ?_
    · simp
    · exact vs_two (by simp [go_sem]) (by simp [go_sem]) (by simp [go_sem]) (by simp [go_sem]) (by simp [go_sem]) (by simp [go_sem]) (by simp [go_sem]) (by simp [go_sem])
    rintro e w1 ⟨rfl, hb1⟩
    have HT1 := Lib.hid (HT0.out.keep (Below.trans (Below.alloc (Below.refl _ _) (Nat.le_refl _) _) (hb1.mono (by simp))))
    clear hb1 HT0
    have hsz := HT1.out.sz
    have q0 := HT1.out.q0
    have q1 := HT1.out.q1
    have q2 := HT1.out.q2
    have q3 := HT1.out.q3
    have fq := HT1.out.fq
    go_wp2
    refine bodyPost_ret (v := .tuple #[.agg #[.int .i64 0, .int .i64 0, .int .i64 0, .int .i64 0], .int .i64 1]) (by simp [results, Try.results28, go_sem, q0, q1, q2, q3, fq]) rfl ⟨rfl, ?_⟩
    have := HT1.out.bel
    exact (by repeat (first | with_reducible exact Below.refl _ _ | (with_reducible refine Below.setCell ?_ (by first | exact Nat.le_refl _ | omega | (simp; done) | (simp; omega)) _) | (with_reducible refine Below.alloc ?_ (by first | exact Nat.le_refl _ | omega | (simp; done) | (simp; omega)) _) | with_reducible refine Below.drew ?_ | with_reducible refine bel_drewN ?_ _ | (with_reducible refine bel_by (by with_reducible assumption) (by first | exact Nat.le_refl _ | omega | (simp; done) | (simp; omega)) ?_)))
  | true =>
    have e : interV a b = (if okV (gre a.1 b.1, les a.2 b.2) = true then ((gre a.1 b.1, les a.2 b.2), 0) else (zV, 8)) := by unfold interV; rw [hv]; rfl
    rw [e]
    rw [hv] at HV
    clear hv e
    obtain ⟨p, hp⟩ : ∃ p, gre a.1 b.1 = p := ⟨_, rfl⟩
    obtain ⟨q, hq⟩ : ∃ q, les a.2 b.2 = q := ⟨_, rfl⟩
    rw [hp] at H1 HK ⊢
    rw [hq] at H2 HK ⊢
    clear hp hq
    obtain ⟨p1, p2⟩ := p
    obtain ⟨p3, p4⟩ := q
    generalize okV ((p1, p2), (p3, p4)) = vk at *
    obtain ⟨⟨a1, a2⟩, ⟨a3, a4⟩⟩ := a
    obtain ⟨⟨b1, b2⟩, ⟨b3, b4⟩⟩ := b
    have HT0 := Lib.hid (two_start w a1 a2 a3 a4 b1 b2 b3 b4)
    simp only at *
    go_enter Try.func28, Try.ntmps28
    go_wp2_with fail
    refine (HV.out _ _ ?_ ?_).mono ?_
    · simp
    · exact vs_two (by simp [go_sem]) (by simp [go_sem]) (by simp [go_sem]) (by simp [go_sem]) (by simp [go_sem]) (by simp [go_sem]) (by simp [go_sem]) (by simp [go_sem])
    rintro e w1 ⟨rfl, hb1⟩
    have HT1 := Lib.hid (HT0.out.keep (Below.trans (Below.alloc (Below.refl _ _) (Nat.le_refl _) _) (hb1.mono (by simp))))
    clear hb1 HT0
    have hsz := HT1.out.sz
    have q0 := HT1.out.q0
    have q1 := HT1.out.q1
    have q2 := HT1.out.q2
    have q3 := HT1.out.q3
    have fq := HT1.out.fq
    go_wp2_with fail
    clear q0 q1 q2 q3 fq
    refine wp_region_s (fun w' => w'.cell? ⟨w.heap.size, 0, none⟩ = some (.int .i64 a1) ∧ w'.cell? ⟨w.heap.size, 1, none⟩ = some (.int .i64 a2) ∧ w'.cell? ⟨w.heap.size, 2, none⟩ = some (.int .i64 a3) ∧ w'.cell? ⟨w.heap.size, 3, none⟩ = some (.int .i64 a4) ∧ w'.cell? ⟨w.heap.size + 1, 0, none⟩ = some (.int .i64 b1) ∧ w'.cell? ⟨w.heap.size + 1, 1, none⟩ = some (.int .i64 b2) ∧ w'.cell? ⟨w.heap.size + 1, 2, none⟩ = some (.int .i64 b3) ∧ w'.cell? ⟨w.heap.size + 1, 3, none⟩ = some (.int .i64 b4)) 9 (by kernel_rfl) ?_
    refine AnyS.take0 (i := 0) (v := (.pointer (some ⟨w.heap.size, 0, none⟩))) rfl (by kernel_rfl) (by kernel_rfl) (by kernel_rfl) (by kernel_rfl) (fun _ _ _ h => h) (fun _ => ⟨HT1.out.a0, HT1.out.a1, HT1.out.a2, HT1.out.a3, HT1.out.b0, HT1.out.b1, HT1.out.b2, HT1.out.b3⟩) (Or.inl ⟨by rfl, fun w' _ => (by go_simp)⟩) ?_
    simp only [Act.put, List.setIfInBounds_toArray, List.set_cons_zero, List.set_cons_succ]
    refine AnyS.take (i := 1) (v := (.agg #[.int .i64 a1, .int .i64 a2])) [9, 4] rfl (by kernel_rfl) (by kernel_rfl) (by kernel_rfl) (by kernel_rfl) (fun _ _ _ h => h) ⟨HT1.out.a0, HT1.out.a1, HT1.out.a2, HT1.out.a3, HT1.out.b0, HT1.out.b1, HT1.out.b2, HT1.out.b3⟩ (Or.inl ⟨by rfl, fun w' hw' => (by obtain ⟨t0, t1, t2, t3, t4, t5, t6, t7⟩ := hw'; go_simp)⟩) ?_
    simp only [Act.put, List.setIfInBounds_toArray, List.set_cons_zero, List.set_cons_succ]
    refine AnyS.take0 (i := 2) (v := (.pointer (some ⟨w.heap.size + 1, 0, none⟩))) rfl (by kernel_rfl) (by kernel_rfl) (by kernel_rfl) (by kernel_rfl) (fun _ _ _ h => h) (fun _ => ⟨HT1.out.a0, HT1.out.a1, HT1.out.a2, HT1.out.a3, HT1.out.b0, HT1.out.b1, HT1.out.b2, HT1.out.b3⟩) (Or.inl ⟨by rfl, fun w' _ => (by go_simp)⟩) ?_
    simp only [Act.put, List.setIfInBounds_toArray, List.set_cons_zero, List.set_cons_succ]
    refine AnyS.take (i := 3) (v := (.agg #[.int .i64 b1, .int .i64 b2])) [9, 4] rfl (by kernel_rfl) (by kernel_rfl) (by kernel_rfl) (by kernel_rfl) (fun _ _ _ h => h) ⟨HT1.out.a0, HT1.out.a1, HT1.out.a2, HT1.out.a3, HT1.out.b0, HT1.out.b1, HT1.out.b2, HT1.out.b3⟩ (Or.inl ⟨by rfl, fun w' hw' => (by obtain ⟨t0, t1, t2, t3, t4, t5, t6, t7⟩ := hw'; go_simp)⟩) ?_
    simp only [Act.put, List.setIfInBounds_toArray, List.set_cons_zero, List.set_cons_succ]
    refine AnyS.take0 (i := 5) (v := (.pointer (some ⟨w.heap.size, 2, none⟩))) rfl (by kernel_rfl) (by kernel_rfl) (by kernel_rfl) (by kernel_rfl) (fun _ _ _ h => h) (fun _ => ⟨HT1.out.a0, HT1.out.a1, HT1.out.a2, HT1.out.a3, HT1.out.b0, HT1.out.b1, HT1.out.b2, HT1.out.b3⟩) (Or.inl ⟨by rfl, fun w' _ => (by go_simp)⟩) ?_
    simp only [Act.put, List.setIfInBounds_toArray, List.set_cons_zero, List.set_cons_succ]
    refine AnyS.take (i := 6) (v := (.agg #[.int .i64 a3, .int .i64 a4])) [9] rfl (by kernel_rfl) (by kernel_rfl) (by kernel_rfl) (by kernel_rfl) (fun _ _ _ h => h) ⟨HT1.out.a0, HT1.out.a1, HT1.out.a2, HT1.out.a3, HT1.out.b0, HT1.out.b1, HT1.out.b2, HT1.out.b3⟩ (Or.inl ⟨by rfl, fun w' hw' => (by obtain ⟨t0, t1, t2, t3, t4, t5, t6, t7⟩ := hw'; go_simp)⟩) ?_
    simp only [Act.put, List.setIfInBounds_toArray, List.set_cons_zero, List.set_cons_succ]
    refine AnyS.take0 (i := 7) (v := (.pointer (some ⟨w.heap.size + 1, 2, none⟩))) rfl (by kernel_rfl) (by kernel_rfl) (by kernel_rfl) (by kernel_rfl) (fun _ _ _ h => h) (fun _ => ⟨HT1.out.a0, HT1.out.a1, HT1.out.a2, HT1.out.a3, HT1.out.b0, HT1.out.b1, HT1.out.b2, HT1.out.b3⟩) (Or.inl ⟨by rfl, fun w' _ => (by go_simp)⟩) ?_
    simp only [Act.put, List.setIfInBounds_toArray, List.set_cons_zero, List.set_cons_succ]
    refine AnyS.take (i := 8) (v := (.agg #[.int .i64 b3, .int .i64 b4])) [9] rfl (by kernel_rfl) (by kernel_rfl) (by kernel_rfl) (by kernel_rfl) (fun _ _ _ h => h) ⟨HT1.out.a0, HT1.out.a1, HT1.out.a2, HT1.out.a3, HT1.out.b0, HT1.out.b1, HT1.out.b2, HT1.out.b3⟩ (Or.inl ⟨by rfl, fun w' hw' => (by obtain ⟨t0, t1, t2, t3, t4, t5, t6, t7⟩ := hw'; go_simp)⟩) ?_
    simp only [Act.put, List.setIfInBounds_toArray, List.set_cons_zero, List.set_cons_succ]
    refine AnyS.step2 (i := 4) (j := 11) rfl rfl (by kernel_rfl) (fun K hK => ?_) (fun K hK => ?_)
    · go_simp
      refine (H1.out _).mono ?_
      rintro e w5 ⟨rfl, hb5⟩
      replace hb5 := undrew hb5
      have HT5 := Lib.hid (HT1.out.keep hb5)
      have hs5 := hb5.size
      clear hb5
      go_wp2_with fail
      refine hK.out _ _ (fun _ => ⟨HT5.out.a0, HT5.out.a1, HT5.out.a2, HT5.out.a3, HT5.out.b0, HT5.out.b1, HT5.out.b2, HT5.out.b3⟩) ?_
      clear hK
      refine AnyS.step2 (i := 9) (j := 11) rfl rfl (by kernel_rfl) (fun K hK => ?_) (fun K hK => ?_)
      · go_simp
        refine (H2.out _).mono ?_
        rintro e w6 ⟨rfl, hb6⟩
        have HT6 := Lib.hid (HT5.out.keep hb6)
        clear hb6
        go_wp2_with fail
        refine hK.out _ _ (fun e => absurd e (by decide)) ?_
        clear hK
        refine AnyS.take0 (i := 10) (v := (.agg #[.int .i64 p1, .int .i64 p2, .int .i64 p3, .int .i64 p4])) rfl (by kernel_rfl) (by kernel_rfl) (by kernel_rfl) (by kernel_rfl) (fun _ _ _ h => h) (fun x9 => absurd x9 (by decide)) (Or.inl ⟨by rfl, fun w' _ => (by go_simp)⟩) ?_
        simp only [Act.put, List.setIfInBounds_toArray, List.set_cons_zero, List.set_cons_succ]
        refine AnyS.rest 11 (by kernel_rfl) rfl (by kernel_rfl) ?_
        change wpList _ _ _ [_, _] _ _
        have HTF := Lib.hid (HT6.out.alloc (.cells #[.int .i64 p1, .int .i64 p2, .int .i64 p3, .int .i64 p4] 25))
        have HAF := Lib.hid (al_new w6 p1 p2 p3 p4)
        cases vk with
        | false =>
          go_wp2_with fail
          refine (HK.out _).mono ?_
          rintro e w7 ⟨rfl, hb7⟩
          have HT7 := Lib.hid (HTF.out.keep hb7)
          clear hb7 HTF HAF 
          have q0 := HT7.out.q0
          have q1 := HT7.out.q1
          have q2 := HT7.out.q2
          have q3 := HT7.out.q3
          have fq := HT7.out.fq
          go_wp2
          refine bodyPost_ret (v := .tuple #[.agg #[.int .i64 0, .int .i64 0, .int .i64 0, .int .i64 0], .int .i64 8]) (by simp [results, Try.results28, go_sem, q0, q1, q2, q3, fq]) rfl ⟨rfl, ?_⟩
          have := HT7.out.bel
          exact (by repeat (first | with_reducible exact Below.refl _ _ | (with_reducible refine Below.setCell ?_ (by first | exact Nat.le_refl _ | omega | (simp; done) | (simp; omega)) _) | (with_reducible refine Below.alloc ?_ (by first | exact Nat.le_refl _ | omega | (simp; done) | (simp; omega)) _) | with_reducible refine Below.drew ?_ | with_reducible refine bel_drewN ?_ _ | (with_reducible refine bel_by (by with_reducible assumption) (by first | exact Nat.le_refl _ | omega | (simp; done) | (simp; omega)) ?_)))
        | true =>
          go_wp2_with fail
          refine (HK.out _).mono ?_
          rintro e w7 ⟨rfl, hb7⟩
          have HT7 := Lib.hid (HTF.out.keep hb7)
          have HA7 := Lib.hid (HAF.out.keep hb7)
          clear hb7 HTF HAF 
          have q0 := HT7.out.q0
          have q1 := HT7.out.q1
          have q2 := HT7.out.q2
          have q3 := HT7.out.q3
          have fq := HT7.out.fq
          have z0 := HA7.out.c0
          have z1 := HA7.out.c1
          have z2 := HA7.out.c2
          have z3 := HA7.out.c3
          simp only at z0 z1 z2 z3
          go_wp2
          refine bodyPost_ret (v := .tuple #[.agg #[.int .i64 p1, .int .i64 p2, .int .i64 p3, .int .i64 p4], .int .i64 0]) (by simp [results, Try.results28, go_sem, q0, q1, q2, q3, fq]) rfl ⟨rfl, ?_⟩
          have := HT7.out.bel
          exact (by repeat (first | with_reducible exact Below.refl _ _ | (with_reducible refine Below.setCell ?_ (by first | exact Nat.le_refl _ | omega | (simp; done) | (simp; omega)) _) | (with_reducible refine Below.alloc ?_ (by first | exact Nat.le_refl _ | omega | (simp; done) | (simp; omega)) _) | with_reducible refine Below.drew ?_ | with_reducible refine bel_drewN ?_ _ | (with_reducible refine bel_by (by with_reducible assumption) (by first | exact Nat.le_refl _ | omega | (simp; done) | (simp; omega)) ?_)))
      · go_simp
        have HT5b := Lib.hid (HT5.out.alloc (.cells #[.int .i64 0, .int .i64 0, .int .i64 0, .int .i64 0] 25))
        have hn5 := Lib.hid (nw_new w5)
        refine hK.out _ _ (fun _ => ⟨HT5b.out.a0, HT5b.out.a1, HT5b.out.a2, HT5b.out.a3, HT5b.out.b0, HT5b.out.b1, HT5b.out.b2, HT5b.out.b3⟩) ?_
        clear hK
        refine AnyS.step (j := 9) rfl (by kernel_rfl) (fun K hK => ?_)
        go_simp
        refine (H2.out _).mono ?_
        rintro e w6 ⟨rfl, hb6⟩
        have HT6 := Lib.hid (HT5b.out.keep hb6)
        have hn6 := Lib.hid (hn5.out.keep hb6)
        have hle : w.heap.size + 3 ≤ w5.heap.size := by omega
        clear hb6
        go_wp2_with fail
        refine hK.out _ _ (fun e => absurd e (by decide)) ?_
        clear hK
        obtain ⟨u0, e0⟩ := hn6.out.c 0 (by decide)
        obtain ⟨u1, e1⟩ := hn6.out.c 1 (by decide)
        obtain ⟨u2, e2⟩ := hn6.out.c 2 (by decide)
        obtain ⟨u3, e3⟩ := hn6.out.c 3 (by decide)
        have ef := hn6.out.f
        refine AnyS.take0 (i := 10) (v := (.agg #[.int .i64 p1, .int .i64 p2, .int .i64 p3, .int .i64 p4])) rfl (by kernel_rfl) (by kernel_rfl) (by kernel_rfl) (by kernel_rfl) (fun _ _ _ h => h) (fun x9 => absurd x9 (by decide)) (Or.inl ⟨by rfl, fun w' _ => (by go_simp)⟩) ?_
        simp only [Act.put, List.setIfInBounds_toArray, List.set_cons_zero, List.set_cons_succ]
        refine AnyS.rest 12 (by kernel_rfl) rfl (by kernel_rfl) ?_
        change wpList _ _ _ [_] _ _
        have HTF := Lib.hid (((((HT6.out.far (p := ⟨w5.heap.size, 0, none⟩) hle (.int .i64 p1)).far (p := ⟨w5.heap.size, 1, none⟩) hle (.int .i64 p2)).far (p := ⟨w5.heap.size, 2, none⟩) hle (.int .i64 p3)).far (p := ⟨w5.heap.size, 3, none⟩) hle (.int .i64 p4)))
        have HAF := Lib.hid (nw_put hn6.out p1 p2 p3 p4)
        cases vk with
        | false =>
          go_wp2_with fail
          refine (HK.out _).mono ?_
          rintro e w7 ⟨rfl, hb7⟩
          have HT7 := Lib.hid (HTF.out.keep hb7)
          clear hb7 HTF HAF e0 e1 e2 e3 ef
          have q0 := HT7.out.q0
          have q1 := HT7.out.q1
          have q2 := HT7.out.q2
          have q3 := HT7.out.q3
          have fq := HT7.out.fq
          go_wp2
          refine bodyPost_ret (v := .tuple #[.agg #[.int .i64 0, .int .i64 0, .int .i64 0, .int .i64 0], .int .i64 8]) (by simp [results, Try.results28, go_sem, q0, q1, q2, q3, fq]) rfl ⟨rfl, ?_⟩
          have := HT7.out.bel
          exact (by repeat (first | with_reducible exact Below.refl _ _ | (with_reducible refine Below.setCell ?_ (by first | exact Nat.le_refl _ | omega | (simp; done) | (simp; omega)) _) | (with_reducible refine Below.alloc ?_ (by first | exact Nat.le_refl _ | omega | (simp; done) | (simp; omega)) _) | with_reducible refine Below.drew ?_ | with_reducible refine bel_drewN ?_ _ | (with_reducible refine bel_by (by with_reducible assumption) (by first | exact Nat.le_refl _ | omega | (simp; done) | (simp; omega)) ?_)))
        | true =>
          go_wp2_with fail
          refine (HK.out _).mono ?_
          rintro e w7 ⟨rfl, hb7⟩
          have HT7 := Lib.hid (HTF.out.keep hb7)
          have HA7 := Lib.hid (HAF.out.keep hb7)
          clear hb7 HTF HAF e0 e1 e2 e3 ef
          have q0 := HT7.out.q0
          have q1 := HT7.out.q1
          have q2 := HT7.out.q2
          have q3 := HT7.out.q3
          have fq := HT7.out.fq
          have z0 := HA7.out.c0
          have z1 := HA7.out.c1
          have z2 := HA7.out.c2
          have z3 := HA7.out.c3
          simp only at z0 z1 z2 z3
          go_wp2
          refine bodyPost_ret (v := .tuple #[.agg #[.int .i64 p1, .int .i64 p2, .int .i64 p3, .int .i64 p4], .int .i64 0]) (by simp [results, Try.results28, go_sem, q0, q1, q2, q3, fq]) rfl ⟨rfl, ?_⟩
          have := HT7.out.bel
          exact (by repeat (first | with_reducible exact Below.refl _ _ | (with_reducible refine Below.setCell ?_ (by first | exact Nat.le_refl _ | omega | (simp; done) | (simp; omega)) _) | (with_reducible refine Below.alloc ?_ (by first | exact Nat.le_refl _ | omega | (simp; done) | (simp; omega)) _) | with_reducible refine Below.drew ?_ | with_reducible refine bel_drewN ?_ _ | (with_reducible refine bel_by (by with_reducible assumption) (by first | exact Nat.le_refl _ | omega | (simp; done) | (simp; omega)) ?_)))
    · go_simp
      have HT1b := Lib.hid (HT1.out.alloc (.cells #[.int .i64 0, .int .i64 0, .int .i64 0, .int .i64 0] 25))
      have hn1 := Lib.hid (nw_new w1)
      refine hK.out _ _ (fun _ => ⟨HT1b.out.a0, HT1b.out.a1, HT1b.out.a2, HT1b.out.a3, HT1b.out.b0, HT1b.out.b1, HT1b.out.b2, HT1b.out.b3⟩) ?_
      clear hK
      refine AnyS.step (j := 4) rfl (by kernel_rfl) (fun K hK => ?_)
      go_simp
      refine (H1.out _).mono ?_
      rintro e w5 ⟨rfl, hb5⟩
      replace hb5 := undrew hb5
      have HT5 := Lib.hid (HT1b.out.keep hb5)
      have hn5 := Lib.hid (hn1.out.keep hb5)
      clear hb5
      go_wp2_with fail
      refine hK.out _ _ (fun _ => ⟨HT5.out.a0, HT5.out.a1, HT5.out.a2, HT5.out.a3, HT5.out.b0, HT5.out.b1, HT5.out.b2, HT5.out.b3⟩) ?_
      clear hK
      refine AnyS.step (j := 9) rfl (by kernel_rfl) (fun K hK => ?_)
      go_simp
      refine (H2.out _).mono ?_
      rintro e w6 ⟨rfl, hb6⟩
      have HT6 := Lib.hid (HT5.out.keep hb6)
      have hn6 := Lib.hid (hn5.out.keep hb6)
      have hle : w.heap.size + 3 ≤ w1.heap.size := hsz
      clear hb6
      go_wp2_with fail
      refine hK.out _ _ (fun e => absurd e (by decide)) ?_
      clear hK
      obtain ⟨u0, e0⟩ := hn6.out.c 0 (by decide)
      obtain ⟨u1, e1⟩ := hn6.out.c 1 (by decide)
      obtain ⟨u2, e2⟩ := hn6.out.c 2 (by decide)
      obtain ⟨u3, e3⟩ := hn6.out.c 3 (by decide)
      have ef := hn6.out.f
      refine AnyS.take0 (i := 10) (v := (.agg #[.int .i64 p1, .int .i64 p2, .int .i64 p3, .int .i64 p4])) rfl (by kernel_rfl) (by kernel_rfl) (by kernel_rfl) (by kernel_rfl) (fun _ _ _ h => h) (fun x9 => absurd x9 (by decide)) (Or.inl ⟨by rfl, fun w' _ => (by go_simp)⟩) ?_
      simp only [Act.put, List.setIfInBounds_toArray, List.set_cons_zero, List.set_cons_succ]
      refine AnyS.rest 12 (by kernel_rfl) rfl (by kernel_rfl) ?_
      change wpList _ _ _ [_] _ _
      have HTF := Lib.hid (((((HT6.out.far (p := ⟨w1.heap.size, 0, none⟩) hle (.int .i64 p1)).far (p := ⟨w1.heap.size, 1, none⟩) hle (.int .i64 p2)).far (p := ⟨w1.heap.size, 2, none⟩) hle (.int .i64 p3)).far (p := ⟨w1.heap.size, 3, none⟩) hle (.int .i64 p4)))
      have HAF := Lib.hid (nw_put hn6.out p1 p2 p3 p4)
      cases vk with
      | false =>
        go_wp2_with fail
        refine (HK.out _).mono ?_
        rintro e w7 ⟨rfl, hb7⟩
        have HT7 := Lib.hid (HTF.out.keep hb7)
        clear hb7 HTF HAF e0 e1 e2 e3 ef
        have q0 := HT7.out.q0
        have q1 := HT7.out.q1
        have q2 := HT7.out.q2
        have q3 := HT7.out.q3
        have fq := HT7.out.fq
        go_wp2
        refine bodyPost_ret (v := .tuple #[.agg #[.int .i64 0, .int .i64 0, .int .i64 0, .int .i64 0], .int .i64 8]) (by simp [results, Try.results28, go_sem, q0, q1, q2, q3, fq]) rfl ⟨rfl, ?_⟩
        have := HT7.out.bel
        exact (by repeat (first | with_reducible exact Below.refl _ _ | (with_reducible refine Below.setCell ?_ (by first | exact Nat.le_refl _ | omega | (simp; done) | (simp; omega)) _) | (with_reducible refine Below.alloc ?_ (by first | exact Nat.le_refl _ | omega | (simp; done) | (simp; omega)) _) | with_reducible refine Below.drew ?_ | with_reducible refine bel_drewN ?_ _ | (with_reducible refine bel_by (by with_reducible assumption) (by first | exact Nat.le_refl _ | omega | (simp; done) | (simp; omega)) ?_)))
      | true =>
        go_wp2_with fail
        refine (HK.out _).mono ?_
        rintro e w7 ⟨rfl, hb7⟩
        have HT7 := Lib.hid (HTF.out.keep hb7)
        have HA7 := Lib.hid (HAF.out.keep hb7)
        clear hb7 HTF HAF e0 e1 e2 e3 ef
        have q0 := HT7.out.q0
        have q1 := HT7.out.q1
        have q2 := HT7.out.q2
        have q3 := HT7.out.q3
        have fq := HT7.out.fq
        have z0 := HA7.out.c0
        have z1 := HA7.out.c1
        have z2 := HA7.out.c2
        have z3 := HA7.out.c3
        simp only at z0 z1 z2 z3
        go_wp2
        refine bodyPost_ret (v := .tuple #[.agg #[.int .i64 p1, .int .i64 p2, .int .i64 p3, .int .i64 p4], .int .i64 0]) (by simp [results, Try.results28, go_sem, q0, q1, q2, q3, fq]) rfl ⟨rfl, ?_⟩
        have := HT7.out.bel
        exact (by repeat (first | with_reducible exact Below.refl _ _ | (with_reducible refine Below.setCell ?_ (by first | exact Nat.le_refl _ | omega | (simp; done) | (simp; omega)) _) | (with_reducible refine Below.alloc ?_ (by first | exact Nat.le_refl _ | omega | (simp; done) | (simp; omega)) _) | with_reducible refine Below.drew ?_ | with_reducible refine bel_drewN ?_ _ | (with_reducible refine bel_by (by with_reducible assumption) (by first | exact Nat.le_refl _ | omega | (simp; done) | (simp; omega)) ?_)))
set_option maxHeartbeats 4000000 in
set_option maxRecDepth 100000 in
theorem rinter_any (a b : V) (ha : WfV a) (hb : WfV b) (w : World) :
    Calls Try.prog 30 #[(.agg #[.int .i64 (a).1.1, .int .i64 (a).1.2, .int .i64 (a).2.1, .int .i64 (a).2.2]), (.agg #[.int .i64 (b).1.1, .int .i64 (b).1.2, .int .i64 (b).2.1, .int .i64 (b).2.2])] w fun e w' => e = .returned (.tuple #[(.agg #[.int .i64 ((interV a b).1).1.1, .int .i64 ((interV a b).1).1.2, .int .i64 ((interV a b).1).2.1, .int .i64 ((interV a b).1).2.2]), .int .i64 (interV a b).2]) ∧ Below w.heap.size w w' := by
  have V1 := Lib.hid (rok_any a ha)
  have V2 := Lib.hid (rok_any b hb)
  have H1 := Lib.hid (rgreater_any a.1 b.1 ha.l hb.l)
  have H2 := Lib.hid (rlesser_any a.2 b.2 ha.h hb.h)
  have HK := Lib.hid (rok_any (gre a.1 b.1, les a.2 b.2) ⟨gre_wf ha.l hb.l, les_wf ha.h hb.h⟩)
  clear ha hb
  cases va : okV a <;> cases vb : okV b
  case false.false =>
    have e : interV a b = (zV, 1) := by unfold interV; rw [va, vb]; rfl
    rw [e]
    rw [va] at V1
    rw [vb] at V2
    clear va vb e H1 H2 HK
    obtain ⟨⟨a1, a2⟩, ⟨a3, a4⟩⟩ := a
    obtain ⟨⟨b1, b2⟩, ⟨b3, b4⟩⟩ := b
    have HT0 := Lib.hid (two_start w a1 a2 a3 a4 b1 b2 b3 b4)
    simp only at *
    go_enter Try.func30, Try.ntmps30
    go_wp2_with fail
    refine (V1.out _).mono ?_
    rintro e w0 ⟨rfl, hb0⟩
    have HT1 := Lib.hid (HT0.out.keep hb0)
    have q0 := HT1.out.q0
    have q1 := HT1.out.q1
    have q2 := HT1.out.q2
    have q3 := HT1.out.q3
    have fq := HT1.out.fq
    go_wp2
    refine bodyPost_ret (v := .tuple #[.agg #[.int .i64 0, .int .i64 0, .int .i64 0, .int .i64 0], .int .i64 1]) (by simp [results, Try.results30, go_sem, q0, q1, q2, q3, fq]) rfl ⟨rfl, ?_⟩
    have := HT1.out.bel
    exact (by repeat (first | with_reducible exact Below.refl _ _ | (with_reducible refine Below.setCell ?_ (by first | exact Nat.le_refl _ | omega | (simp; done) | (simp; omega)) _) | (with_reducible refine Below.alloc ?_ (by first | exact Nat.le_refl _ | omega | (simp; done) | (simp; omega)) _) | with_reducible refine Below.drew ?_ | with_reducible refine bel_drewN ?_ _ | (with_reducible refine bel_by (by with_reducible assumption) (by first | exact Nat.le_refl _ | omega | (simp; done) | (simp; omega)) ?_)))
  case false.true =>
    have e : interV a b = (zV, 1) := by unfold interV; rw [va, vb]; rfl
    rw [e]
    rw [va] at V1
    rw [vb] at V2
    clear va vb e H1 H2 HK
    obtain ⟨⟨a1, a2⟩, ⟨a3, a4⟩⟩ := a
    obtain ⟨⟨b1, b2⟩, ⟨b3, b4⟩⟩ := b
    have HT0 := Lib.hid (two_start w a1 a2 a3 a4 b1 b2 b3 b4)
    simp only at *
    go_enter Try.func30, Try.ntmps30
    go_wp2_with fail
    refine (V1.out _).mono ?_
    rintro e w0 ⟨rfl, hb0⟩
    have HT1 := Lib.hid (HT0.out.keep hb0)
    have q0 := HT1.out.q0
    have q1 := HT1.out.q1
    have q2 := HT1.out.q2
    have q3 := HT1.out.q3
    have fq := HT1.out.fq
    go_wp2
    refine bodyPost_ret (v := .tuple #[.agg #[.int .i64 0, .int .i64 0, .int .i64 0, .int .i64 0], .int .i64 1]) (by simp [results, Try.results30, go_sem, q0, q1, q2, q3, fq]) rfl ⟨rfl, ?_⟩
    have := HT1.out.bel
    exact (by repeat (first | with_reducible exact Below.refl _ _ | (with_reducible refine Below.setCell ?_ (by first | exact Nat.le_refl _ | omega | (simp; done) | (simp; omega)) _) | (with_reducible refine Below.alloc ?_ (by first | exact Nat.le_refl _ | omega | (simp; done) | (simp; omega)) _) | with_reducible refine Below.drew ?_ | with_reducible refine bel_drewN ?_ _ | (with_reducible refine bel_by (by with_reducible assumption) (by first | exact Nat.le_refl _ | omega | (simp; done) | (simp; omega)) ?_)))
  case true.false =>
    have e : interV a b = (zV, 1) := by unfold interV; rw [va, vb]; rfl
    rw [e]
    rw [va] at V1
    rw [vb] at V2
    clear va vb e H1 H2 HK
    obtain ⟨⟨a1, a2⟩, ⟨a3, a4⟩⟩ := a
    obtain ⟨⟨b1, b2⟩, ⟨b3, b4⟩⟩ := b
    have HT0 := Lib.hid (two_start w a1 a2 a3 a4 b1 b2 b3 b4)
    simp only at *
    go_enter Try.func30, Try.ntmps30
    go_wp2_with fail
    refine (V1.out _).mono ?_
    rintro e w0 ⟨rfl, hb0⟩
    have HT1 := Lib.hid (HT0.out.keep hb0)
    have c0 := HT1.out.b0
    have c1 := HT1.out.b1
    have c2 := HT1.out.b2
    have c3 := HT1.out.b3
    clear hb0
    go_wp2_with fail
    refine (V2.out _).mono ?_
    rintro e w1 ⟨rfl, hb1⟩
    replace HT1 := Lib.hid (HT1.out.keep hb1)
    clear hb1 c0 c1 c2 c3
    have q0 := HT1.out.q0
    have q1 := HT1.out.q1
    have q2 := HT1.out.q2
    have q3 := HT1.out.q3
    have fq := HT1.out.fq
    go_wp2
    refine bodyPost_ret (v := .tuple #[.agg #[.int .i64 0, .int .i64 0, .int .i64 0, .int .i64 0], .int .i64 1]) (by simp [results, Try.results30, go_sem, q0, q1, q2, q3, fq]) rfl ⟨rfl, ?_⟩
    have := HT1.out.bel
    exact (by repeat (first | with_reducible exact Below.refl _ _ | (with_reducible refine Below.setCell ?_ (by first | exact Nat.le_refl _ | omega | (simp; done) | (simp; omega)) _) | (with_reducible refine Below.alloc ?_ (by first | exact Nat.le_refl _ | omega | (simp; done) | (simp; omega)) _) | with_reducible refine Below.drew ?_ | with_reducible refine bel_drewN ?_ _ | (with_reducible refine bel_by (by with_reducible assumption) (by first | exact Nat.le_refl _ | omega | (simp; done) | (simp; omega)) ?_)))
  case true.true =>
    have e : interV a b = (if okV (gre a.1 b.1, les a.2 b.2) = true then ((gre a.1 b.1, les a.2 b.2), 0) else (zV, 8)) := by unfold interV; rw [va, vb]; rfl
    rw [e]
    rw [va] at V1
    rw [vb] at V2
    clear va vb e
    obtain ⟨p, hp⟩ : ∃ p, gre a.1 b.1 = p := ⟨_, rfl⟩
    obtain ⟨q, hq⟩ : ∃ q, les a.2 b.2 = q := ⟨_, rfl⟩
    rw [hp] at H1 HK ⊢
    rw [hq] at H2 HK ⊢
    clear hp hq
    obtain ⟨p1, p2⟩ := p
    obtain ⟨p3, p4⟩ := q
    generalize okV ((p1, p2), (p3, p4)) = vk at *
    obtain ⟨⟨a1, a2⟩, ⟨a3, a4⟩⟩ := a
    obtain ⟨⟨b1, b2⟩, ⟨b3, b4⟩⟩ := b
    have HT0 := Lib.hid (two_start w a1 a2 a3 a4 b1 b2 b3 b4)
    simp only at *
    go_enter Try.func30, Try.ntmps30
    go_wp2_with fail
    refine (V1.out _).mono ?_
    rintro e w0 ⟨rfl, hb0⟩
    have HT1 := Lib.hid (HT0.out.keep hb0)
    have c0 := HT1.out.b0
    have c1 := HT1.out.b1
    have c2 := HT1.out.b2
    have c3 := HT1.out.b3
    clear hb0
    go_wp2_with fail
    refine (V2.out _).mono ?_
    rintro e w1 ⟨rfl, hb1⟩
    replace HT1 := Lib.hid (HT1.out.keep hb1)
    clear hb1 c0 c1 c2 c3 HT0
    have hsz := HT1.out.sz
    have q0 := HT1.out.q0
    have q1 := HT1.out.q1
    have q2 := HT1.out.q2
    have q3 := HT1.out.q3
    have fq := HT1.out.fq
    go_wp2_with fail
    clear q0 q1 q2 q3 fq
    refine wp_region_s (fun w' => w'.cell? ⟨w.heap.size, 0, none⟩ = some (.int .i64 a1) ∧ w'.cell? ⟨w.heap.size, 1, none⟩ = some (.int .i64 a2) ∧ w'.cell? ⟨w.heap.size, 2, none⟩ = some (.int .i64 a3) ∧ w'.cell? ⟨w.heap.size, 3, none⟩ = some (.int .i64 a4) ∧ w'.cell? ⟨w.heap.size + 1, 0, none⟩ = some (.int .i64 b1) ∧ w'.cell? ⟨w.heap.size + 1, 1, none⟩ = some (.int .i64 b2) ∧ w'.cell? ⟨w.heap.size + 1, 2, none⟩ = some (.int .i64 b3) ∧ w'.cell? ⟨w.heap.size + 1, 3, none⟩ = some (.int .i64 b4)) 9 (by kernel_rfl) ?_
    refine AnyS.take0 (i := 0) (v := (.pointer (some ⟨w.heap.size, 0, none⟩))) rfl (by kernel_rfl) (by kernel_rfl) (by kernel_rfl) (by kernel_rfl) (fun _ _ _ h => h) (fun _ => ⟨HT1.out.a0, HT1.out.a1, HT1.out.a2, HT1.out.a3, HT1.out.b0, HT1.out.b1, HT1.out.b2, HT1.out.b3⟩) (Or.inl ⟨by rfl, fun w' _ => (by go_simp)⟩) ?_
    simp only [Act.put, List.setIfInBounds_toArray, List.set_cons_zero, List.set_cons_succ]
    refine AnyS.take (i := 1) (v := (.agg #[.int .i64 a1, .int .i64 a2])) [9, 4] rfl (by kernel_rfl) (by kernel_rfl) (by kernel_rfl) (by kernel_rfl) (fun _ _ _ h => h) ⟨HT1.out.a0, HT1.out.a1, HT1.out.a2, HT1.out.a3, HT1.out.b0, HT1.out.b1, HT1.out.b2, HT1.out.b3⟩ (Or.inl ⟨by rfl, fun w' hw' => (by obtain ⟨t0, t1, t2, t3, t4, t5, t6, t7⟩ := hw'; go_simp)⟩) ?_
    simp only [Act.put, List.setIfInBounds_toArray, List.set_cons_zero, List.set_cons_succ]
    refine AnyS.take0 (i := 2) (v := (.pointer (some ⟨w.heap.size + 1, 0, none⟩))) rfl (by kernel_rfl) (by kernel_rfl) (by kernel_rfl) (by kernel_rfl) (fun _ _ _ h => h) (fun _ => ⟨HT1.out.a0, HT1.out.a1, HT1.out.a2, HT1.out.a3, HT1.out.b0, HT1.out.b1, HT1.out.b2, HT1.out.b3⟩) (Or.inl ⟨by rfl, fun w' _ => (by go_simp)⟩) ?_
    simp only [Act.put, List.setIfInBounds_toArray, List.set_cons_zero, List.set_cons_succ]
    refine AnyS.take (i := 3) (v := (.agg #[.int .i64 b1, .int .i64 b2])) [9, 4] rfl (by kernel_rfl) (by kernel_rfl) (by kernel_rfl) (by kernel_rfl) (fun _ _ _ h => h) ⟨HT1.out.a0, HT1.out.a1, HT1.out.a2, HT1.out.a3, HT1.out.b0, HT1.out.b1, HT1.out.b2, HT1.out.b3⟩ (Or.inl ⟨by rfl, fun w' hw' => (by obtain ⟨t0, t1, t2, t3, t4, t5, t6, t7⟩ := hw'; go_simp)⟩) ?_
    simp only [Act.put, List.setIfInBounds_toArray, List.set_cons_zero, List.set_cons_succ]
    refine AnyS.take0 (i := 5) (v := (.pointer (some ⟨w.heap.size, 2, none⟩))) rfl (by kernel_rfl) (by kernel_rfl) (by kernel_rfl) (by kernel_rfl) (fun _ _ _ h => h) (fun _ => ⟨HT1.out.a0, HT1.out.a1, HT1.out.a2, HT1.out.a3, HT1.out.b0, HT1.out.b1, HT1.out.b2, HT1.out.b3⟩) (Or.inl ⟨by rfl, fun w' _ => (by go_simp)⟩) ?_
    simp only [Act.put, List.setIfInBounds_toArray, List.set_cons_zero, List.set_cons_succ]
    refine AnyS.take (i := 6) (v := (.agg #[.int .i64 a3, .int .i64 a4])) [9] rfl (by kernel_rfl) (by kernel_rfl) (by kernel_rfl) (by kernel_rfl) (fun _ _ _ h => h) ⟨HT1.out.a0, HT1.out.a1, HT1.out.a2, HT1.out.a3, HT1.out.b0, HT1.out.b1, HT1.out.b2, HT1.out.b3⟩ (Or.inl ⟨by rfl, fun w' hw' => (by obtain ⟨t0, t1, t2, t3, t4, t5, t6, t7⟩ := hw'; go_simp)⟩) ?_
    simp only [Act.put, List.setIfInBounds_toArray, List.set_cons_zero, List.set_cons_succ]
    refine AnyS.take0 (i := 7) (v := (.pointer (some ⟨w.heap.size + 1, 2, none⟩))) rfl (by kernel_rfl) (by kernel_rfl) (by kernel_rfl) (by kernel_rfl) (fun _ _ _ h => h) (fun _ => ⟨HT1.out.a0, HT1.out.a1, HT1.out.a2, HT1.out.a3, HT1.out.b0, HT1.out.b1, HT1.out.b2, HT1.out.b3⟩) (Or.inl ⟨by rfl, fun w' _ => (by go_simp)⟩) ?_
    simp only [Act.put, List.setIfInBounds_toArray, List.set_cons_zero, List.set_cons_succ]
    refine AnyS.take (i := 8) (v := (.agg #[.int .i64 b3, .int .i64 b4])) [9] rfl (by kernel_rfl) (by kernel_rfl) (by kernel_rfl) (by kernel_rfl) (fun _ _ _ h => h) ⟨HT1.out.a0, HT1.out.a1, HT1.out.a2, HT1.out.a3, HT1.out.b0, HT1.out.b1, HT1.out.b2, HT1.out.b3⟩ (Or.inl ⟨by rfl, fun w' hw' => (by obtain ⟨t0, t1, t2, t3, t4, t5, t6, t7⟩ := hw'; go_simp)⟩) ?_
    simp only [Act.put, List.setIfInBounds_toArray, List.set_cons_zero, List.set_cons_succ]
    refine AnyS.step2 (i := 4) (j := 11) rfl rfl (by kernel_rfl) (fun K hK => ?_) (fun K hK => ?_)
    · go_simp
      refine (H1.out _).mono ?_
      rintro e w5 ⟨rfl, hb5⟩
      replace hb5 := undrew hb5
      have HT5 := Lib.hid (HT1.out.keep hb5)
      have hs5 := hb5.size
      clear hb5
      go_wp2_with fail
      refine hK.out _ _ (fun _ => ⟨HT5.out.a0, HT5.out.a1, HT5.out.a2, HT5.out.a3, HT5.out.b0, HT5.out.b1, HT5.out.b2, HT5.out.b3⟩) ?_
      clear hK
      refine AnyS.step2 (i := 9) (j := 11) rfl rfl (by kernel_rfl) (fun K hK => ?_) (fun K hK => ?_)
      · go_simp
        refine (H2.out _).mono ?_
        rintro e w6 ⟨rfl, hb6⟩
        have HT6 := Lib.hid (HT5.out.keep hb6)
        clear hb6
        go_wp2_with fail
        refine hK.out _ _ (fun e => absurd e (by decide)) ?_
        clear hK
        refine AnyS.take0 (i := 10) (v := (.agg #[.int .i64 p1, .int .i64 p2, .int .i64 p3, .int .i64 p4])) rfl (by kernel_rfl) (by kernel_rfl) (by kernel_rfl) (by kernel_rfl) (fun _ _ _ h => h) (fun x9 => absurd x9 (by decide)) (Or.inl ⟨by rfl, fun w' _ => (by go_simp)⟩) ?_
        simp only [Act.put, List.setIfInBounds_toArray, List.set_cons_zero, List.set_cons_succ]
        refine AnyS.rest 11 (by kernel_rfl) rfl (by kernel_rfl) ?_
        change wpList _ _ _ [_, _] _ _
        have HTF := Lib.hid (HT6.out.alloc (.cells #[.int .i64 p1, .int .i64 p2, .int .i64 p3, .int .i64 p4] 25))
        have HAF := Lib.hid (al_new w6 p1 p2 p3 p4)
        cases vk with
        | false =>
          go_wp2_with fail
          refine (HK.out _).mono ?_
          rintro e w7 ⟨rfl, hb7⟩
          have HT7 := Lib.hid (HTF.out.keep hb7)
          clear hb7 HTF HAF 
          have q0 := HT7.out.q0
          have q1 := HT7.out.q1
          have q2 := HT7.out.q2
          have q3 := HT7.out.q3
          have fq := HT7.out.fq
          go_wp2
          refine bodyPost_ret (v := .tuple #[.agg #[.int .i64 0, .int .i64 0, .int .i64 0, .int .i64 0], .int .i64 8]) (by simp [results, Try.results30, go_sem, q0, q1, q2, q3, fq]) rfl ⟨rfl, ?_⟩
          have := HT7.out.bel
          exact (by repeat (first | with_reducible exact Below.refl _ _ | (with_reducible refine Below.setCell ?_ (by first | exact Nat.le_refl _ | omega | (simp; done) | (simp; omega)) _) | (with_reducible refine Below.alloc ?_ (by first | exact Nat.le_refl _ | omega | (simp; done) | (simp; omega)) _) | with_reducible refine Below.drew ?_ | with_reducible refine bel_drewN ?_ _ | (with_reducible refine bel_by (by with_reducible assumption) (by first | exact Nat.le_refl _ | omega | (simp; done) | (simp; omega)) ?_)))
        | true =>
          go_wp2_with fail
          refine (HK.out _).mono ?_
          rintro e w7 ⟨rfl, hb7⟩
          have HT7 := Lib.hid (HTF.out.keep hb7)
          have HA7 := Lib.hid (HAF.out.keep hb7)
          clear hb7 HTF HAF 
          have q0 := HT7.out.q0
          have q1 := HT7.out.q1
          have q2 := HT7.out.q2
          have q3 := HT7.out.q3
          have fq := HT7.out.fq
          have z0 := HA7.out.c0
          have z1 := HA7.out.c1
          have z2 := HA7.out.c2
          have z3 := HA7.out.c3
          simp only at z0 z1 z2 z3
          go_wp2
          refine bodyPost_ret (v := .tuple #[.agg #[.int .i64 p1, .int .i64 p2, .int .i64 p3, .int .i64 p4], .int .i64 0]) (by simp [results, Try.results30, go_sem, q0, q1, q2, q3, fq]) rfl ⟨rfl, ?_⟩
          have := HT7.out.bel
          exact (by repeat (first | with_reducible exact Below.refl _ _ | (with_reducible refine Below.setCell ?_ (by first | exact Nat.le_refl _ | omega | (simp; done) | (simp; omega)) _) | (with_reducible refine Below.alloc ?_ (by first | exact Nat.le_refl _ | omega | (simp; done) | (simp; omega)) _) | with_reducible refine Below.drew ?_ | with_reducible refine bel_drewN ?_ _ | (with_reducible refine bel_by (by with_reducible assumption) (by first | exact Nat.le_refl _ | omega | (simp; done) | (simp; omega)) ?_)))
      · go_simp
        have HT5b := Lib.hid (HT5.out.alloc (.cells #[.int .i64 0, .int .i64 0, .int .i64 0, .int .i64 0] 25))
        have hn5 := Lib.hid (nw_new w5)
        refine hK.out _ _ (fun _ => ⟨HT5b.out.a0, HT5b.out.a1, HT5b.out.a2, HT5b.out.a3, HT5b.out.b0, HT5b.out.b1, HT5b.out.b2, HT5b.out.b3⟩) ?_
        clear hK
        refine AnyS.step (j := 9) rfl (by kernel_rfl) (fun K hK => ?_)
        go_simp
        refine (H2.out _).mono ?_
        rintro e w6 ⟨rfl, hb6⟩
        have HT6 := Lib.hid (HT5b.out.keep hb6)
        have hn6 := Lib.hid (hn5.out.keep hb6)
        have hle : w.heap.size + 3 ≤ w5.heap.size := by omega
        clear hb6
        go_wp2_with fail
        refine hK.out _ _ (fun e => absurd e (by decide)) ?_
        clear hK
        obtain ⟨u0, e0⟩ := hn6.out.c 0 (by decide)
        obtain ⟨u1, e1⟩ := hn6.out.c 1 (by decide)
        obtain ⟨u2, e2⟩ := hn6.out.c 2 (by decide)
        obtain ⟨u3, e3⟩ := hn6.out.c 3 (by decide)
        have ef := hn6.out.f
        refine AnyS.take0 (i := 10) (v := (.agg #[.int .i64 p1, .int .i64 p2, .int .i64 p3, .int .i64 p4])) rfl (by kernel_rfl) (by kernel_rfl) (by kernel_rfl) (by kernel_rfl) (fun _ _ _ h => h) (fun x9 => absurd x9 (by decide)) (Or.inl ⟨by rfl, fun w' _ => (by go_simp)⟩) ?_
        simp only [Act.put, List.setIfInBounds_toArray, List.set_cons_zero, List.set_cons_succ]
        refine AnyS.rest 12 (by kernel_rfl) rfl (by kernel_rfl) ?_
        change wpList _ _ _ [_] _ _
        have HTF := Lib.hid (((((HT6.out.far (p := ⟨w5.heap.size, 0, none⟩) hle (.int .i64 p1)).far (p := ⟨w5.heap.size, 1, none⟩) hle (.int .i64 p2)).far (p := ⟨w5.heap.size, 2, none⟩) hle (.int .i64 p3)).far (p := ⟨w5.heap.size, 3, none⟩) hle (.int .i64 p4)))
        have HAF := Lib.hid (nw_put hn6.out p1 p2 p3 p4)
        cases vk with
        | false =>
          go_wp2_with fail
          refine (HK.out _).mono ?_
          rintro e w7 ⟨rfl, hb7⟩
          have HT7 := Lib.hid (HTF.out.keep hb7)
          clear hb7 HTF HAF e0 e1 e2 e3 ef
          have q0 := HT7.out.q0
          have q1 := HT7.out.q1
          have q2 := HT7.out.q2
          have q3 := HT7.out.q3
          have fq := HT7.out.fq
          go_wp2
          refine bodyPost_ret (v := .tuple #[.agg #[.int .i64 0, .int .i64 0, .int .i64 0, .int .i64 0], .int .i64 8]) (by simp [results, Try.results30, go_sem, q0, q1, q2, q3, fq]) rfl ⟨rfl, ?_⟩
          have := HT7.out.bel
          exact (by repeat (first | with_reducible exact Below.refl _ _ | (with_reducible refine Below.setCell ?_ (by first | exact Nat.le_refl _ | omega | (simp; done) | (simp; omega)) _) | (with_reducible refine Below.alloc ?_ (by first | exact Nat.le_refl _ | omega | (simp; done) | (simp; omega)) _) | with_reducible refine Below.drew ?_ | with_reducible refine bel_drewN ?_ _ | (with_reducible refine bel_by (by with_reducible assumption) (by first | exact Nat.le_refl _ | omega | (simp; done) | (simp; omega)) ?_)))
        | true =>
          go_wp2_with fail
          refine (HK.out _).mono ?_
          rintro e w7 ⟨rfl, hb7⟩
          have HT7 := Lib.hid (HTF.out.keep hb7)
          have HA7 := Lib.hid (HAF.out.keep hb7)
          clear hb7 HTF HAF e0 e1 e2 e3 ef
          have q0 := HT7.out.q0
          have q1 := HT7.out.q1
          have q2 := HT7.out.q2
          have q3 := HT7.out.q3
          have fq := HT7.out.fq
          have z0 := HA7.out.c0
          have z1 := HA7.out.c1
          have z2 := HA7.out.c2
          have z3 := HA7.out.c3
          simp only at z0 z1 z2 z3
          go_wp2
          refine bodyPost_ret (v := .tuple #[.agg #[.int .i64 p1, .int .i64 p2, .int .i64 p3, .int .i64 p4], .int .i64 0]) (by simp [results, Try.results30, go_sem, q0, q1, q2, q3, fq]) rfl ⟨rfl, ?_⟩
          have := HT7.out.bel
          exact (by repeat (first | with_reducible exact Below.refl _ _ | (with_reducible refine Below.setCell ?_ (by first | exact Nat.le_refl _ | omega | (simp; done) | (simp; omega)) _) | (with_reducible refine Below.alloc ?_ (by first | exact Nat.le_refl _ | omega | (simp; done) | (simp; omega)) _) | with_reducible refine Below.drew ?_ | with_reducible refine bel_drewN ?_ _ | (with_reducible refine bel_by (by with_reducible assumption) (by first | exact Nat.le_refl _ | omega | (simp; done) | (simp; omega)) ?_)))
    · go_simp
      have HT1b := Lib.hid (HT1.out.alloc (.cells #[.int .i64 0, .int .i64 0, .int .i64 0, .int .i64 0] 25))
      have hn1 := Lib.hid (nw_new w1)
      refine hK.out _ _ (fun _ => ⟨HT1b.out.a0, HT1b.out.a1, HT1b.out.a2, HT1b.out.a3, HT1b.out.b0, HT1b.out.b1, HT1b.out.b2, HT1b.out.b3⟩) ?_
      clear hK
      refine AnyS.step (j := 4) rfl (by kernel_rfl) (fun K hK => ?_)
      go_simp
      refine (H1.out _).mono ?_
      rintro e w5 ⟨rfl, hb5⟩
      replace hb5 := undrew hb5
      have HT5 := Lib.hid (HT1b.out.keep hb5)
      have hn5 := Lib.hid (hn1.out.keep hb5)
      clear hb5
      go_wp2_with fail
      refine hK.out _ _ (fun _ => ⟨HT5.out.a0, HT5.out.a1, HT5.out.a2, HT5.out.a3, HT5.out.b0, HT5.out.b1, HT5.out.b2, HT5.out.b3⟩) ?_
      clear hK
      refine AnyS.step (j := 9) rfl (by kernel_rfl) (fun K hK => ?_)
      go_simp
      refine (H2.out _).mono ?_
      rintro e w6 ⟨rfl, hb6⟩
      have HT6 := Lib.hid (HT5.out.keep hb6)
      have hn6 := Lib.hid (hn5.out.keep hb6)
      have hle : w.heap.size + 3 ≤ w1.heap.size := hsz
      clear hb6
      go_wp2_with fail
      refine hK.out _ _ (fun e => absurd e (by decide)) ?_
      clear hK
      obtain ⟨u0, e0⟩ := hn6.out.c 0 (by decide)
      obtain ⟨u1, e1⟩ := hn6.out.c 1 (by decide)
      obtain ⟨u2, e2⟩ := hn6.out.c 2 (by decide)
      obtain ⟨u3, e3⟩ := hn6.out.c 3 (by decide)
      have ef := hn6.out.f
      refine AnyS.take0 (i := 10) (v := (.agg #[.int .i64 p1, .int .i64 p2, .int .i64 p3, .int .i64 p4])) rfl (by kernel_rfl) (by kernel_rfl) (by kernel_rfl) (by kernel_rfl) (fun _ _ _ h => h) (fun x9 => absurd x9 (by decide)) (Or.inl ⟨by rfl, fun w' _ => (by go_simp)⟩) ?_
      simp only [Act.put, List.setIfInBounds_toArray, List.set_cons_zero, List.set_cons_succ]
      refine AnyS.rest 12 (by kernel_rfl) rfl (by kernel_rfl) ?_
      change wpList _ _ _ [_] _ _
      have HTF := Lib.hid (((((HT6.out.far (p := ⟨w1.heap.size, 0, none⟩) hle (.int .i64 p1)).far (p := ⟨w1.heap.size, 1, none⟩) hle (.int .i64 p2)).far (p := ⟨w1.heap.size, 2, none⟩) hle (.int .i64 p3)).far (p := ⟨w1.heap.size, 3, none⟩) hle (.int .i64 p4)))
      have HAF := Lib.hid (nw_put hn6.out p1 p2 p3 p4)
      cases vk with
      | false =>
        go_wp2_with fail
        refine (HK.out _).mono ?_
        rintro e w7 ⟨rfl, hb7⟩
        have HT7 := Lib.hid (HTF.out.keep hb7)
        clear hb7 HTF HAF e0 e1 e2 e3 ef
        have q0 := HT7.out.q0
        have q1 := HT7.out.q1
        have q2 := HT7.out.q2
        have q3 := HT7.out.q3
        have fq := HT7.out.fq
        go_wp2
        refine bodyPost_ret (v := .tuple #[.agg #[.int .i64 0, .int .i64 0, .int .i64 0, .int .i64 0], .int .i64 8]) (by simp [results, Try.results30, go_sem, q0, q1, q2, q3, fq]) rfl ⟨rfl, ?_⟩
        have := HT7.out.bel
        exact (by repeat (first | with_reducible exact Below.refl _ _ | (with_reducible refine Below.setCell ?_ (by first | exact Nat.le_refl _ | omega | (simp; done) | (simp; omega)) _) | (with_reducible refine Below.alloc ?_ (by first | exact Nat.le_refl _ | omega | (simp; done) | (simp; omega)) _) | with_reducible refine Below.drew ?_ | with_reducible refine bel_drewN ?_ _ | (with_reducible refine bel_by (by with_reducible assumption) (by first | exact Nat.le_refl _ | omega | (simp; done) | (simp; omega)) ?_)))
      | true =>
        go_wp2_with fail
        refine (HK.out _).mono ?_
        rintro e w7 ⟨rfl, hb7⟩
        have HT7 := Lib.hid (HTF.out.keep hb7)
        have HA7 := Lib.hid (HAF.out.keep hb7)
        clear hb7 HTF HAF e0 e1 e2 e3 ef
        have q0 := HT7.out.q0
        have q1 := HT7.out.q1
        have q2 := HT7.out.q2
        have q3 := HT7.out.q3
        have fq := HT7.out.fq
        have z0 := HA7.out.c0
        have z1 := HA7.out.c1
        have z2 := HA7.out.c2
        have z3 := HA7.out.c3
        simp only at z0 z1 z2 z3
        go_wp2
        refine bodyPost_ret (v := .tuple #[.agg #[.int .i64 p1, .int .i64 p2, .int .i64 p3, .int .i64 p4], .int .i64 0]) (by simp [results, Try.results30, go_sem, q0, q1, q2, q3, fq]) rfl ⟨rfl, ?_⟩
        have := HT7.out.bel
        exact (by repeat (first | with_reducible exact Below.refl _ _ | (with_reducible refine Below.setCell ?_ (by first | exact Nat.le_refl _ | omega | (simp; done) | (simp; omega)) _) | (with_reducible refine Below.alloc ?_ (by first | exact Nat.le_refl _ | omega | (simp; done) | (simp; omega)) _) | with_reducible refine Below.drew ?_ | with_reducible refine bel_drewN ?_ _ | (with_reducible refine bel_by (by with_reducible assumption) (by first | exact Nat.le_refl _ | omega | (simp; done) | (simp; omega)) ?_)))
end Go.Proofs.Ytbjmibaepccbeaa
