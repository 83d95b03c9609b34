/- Intervals: the reference's Of. -/
import Derived.Test.YtbjmibaepccbeaaIvD
set_option linter.unusedSimpArgs false
set_option linter.unusedVariables false
namespace Go.Proofs.Ytbjmibaepccbeaa
open Go.RowKit
open Iv

/-- the span of the first k results -/
def stV (fs : List F) : Nat → V
  | 0 => zV
  | k + 1 => (fs.take (k + 1)).foldl ext (fs.headD zF, fs.headD zF)
theorem st_end {fs : List F} (h : 0 < fs.length) : stV fs fs.length = foldV fs := by
  match fs, h with
  | r :: t, _ => show ((r :: t).take (t.length + 1)).foldl ext (r, r) = (r :: t).foldl ext (r, r); rw [List.take_of_length_le (by simp)]
theorem st_next {fs : List F} {k : Nat} (h : k < fs.length) (v : V) (hv : v = if k = 0 then (fs[k]'h, fs[k]'h) else stV fs k) : stV fs (k + 1) = (les v.1 (fs[k]'h), gre v.2 (fs[k]'h)) := by
  subst hv
  match k, h with
  | 0, h =>
    match fs, h with
    | r :: t, _ => rfl
  | k + 1, h =>
    rw [if_neg (by omega)]
    exact fold_step _ fs (k + 1) h
theorem st_wf {fs : List F} (h : ∀ x ∈ fs, Wf64 x) (k : Nat) (hk : k ≤ fs.length) : WfV (stV fs k) := by
  match k, hk with
  | 0, _ => exact ⟨zz_wf, zz_wf⟩
  | k + 1, hk =>
    match fs, h, hk with
    | r :: t, h, _ => exact fold_wf _ _ ⟨h r (by simp), h r (by simp)⟩ (fun y hy => h y (List.mem_of_mem_take hy))
/-- a block of one's own, with a fraction's two cells -/
structure FrB (w : World) (g : Nat) (x : F) : Prop where
  c0 : w.cell? ⟨g, 0, none⟩ = some (.int .i64 x.1)
  c1 : w.cell? ⟨g, 1, none⟩ = some (.int .i64 x.2)
  lt : g < w.heap.size
  fr : ∀ o, w.frozen? ⟨g, o, none⟩ = false
theorem FrB.keep {w w' : World} {g : Nat} {x : F} (h : FrB w g x) (hB : Below w.heap.size w w') : FrB w' g x :=
  ⟨(hB.cell (p := ⟨g, 0, none⟩) h.lt).trans h.c0, (hB.cell (p := ⟨g, 1, none⟩) h.lt).trans h.c1, Nat.lt_of_lt_of_le h.lt hB.size, fun o => (hB.frozen (p := ⟨g, o, none⟩) h.lt).trans (h.fr o)⟩
theorem frb_new (w : World) (x1 x2 : Int) : FrB (w.alloc (.cells #[.int .i64 x1, .int .i64 x2] 23)) w.heap.size (x1, x2) :=
  ⟨by simp [go_sem], by simp [go_sem], by simp, fun o => by simp [go_sem]⟩
theorem FrB.put {w : World} {g : Nat} {y : F} (h : FrB w g y) (x1 x2 : Int) : FrB ((w.setCell ⟨g, 0, none⟩ (.int .i64 x1)).setCell ⟨g, 1, none⟩ (.int .i64 x2)) g (x1, x2) := by
  have h0 := h.c0
  have h1 := h.c1
  exact ⟨by simp [go_sem, h0, h1], by simp [go_sem, h0, h1], by simpa using h.lt, fun o => by simpa using h.fr o⟩
theorem FrB.far {w : World} {g : Nat} {x : F} (h : FrB w g x) {p : Addr} (hp : p.block ≠ g) (u : Value) : FrB (w.setCell p u) g x := by
  obtain ⟨b, o, s⟩ := p
  have hne : ∀ t, (⟨b, o, s⟩ : Addr) ≠ ⟨g, t, none⟩ := fun t e => hp (Addr.mk.inj e).1
  exact ⟨(World.cell?_setCell_other _ _ _ _ (hne _)).trans h.c0, (World.cell?_setCell_other _ _ _ _ (hne _)).trans h.c1, by simpa using h.lt, fun o => by simpa using h.fr o⟩
theorem AlB.far {w : World} {g : Nat} {v : V} (h : AlB w g v) {p : Addr} (hp : p.block ≠ g) (u : Value) : AlB (w.setCell p u) g v := by
  obtain ⟨b, o, s⟩ := p
  have hne : ∀ t, (⟨b, o, s⟩ : Addr) ≠ ⟨g, t, none⟩ := fun t e => hp (Addr.mk.inj e).1
  exact ⟨(World.cell?_setCell_other _ _ _ _ (hne _)).trans h.c0, (World.cell?_setCell_other _ _ _ _ (hne _)).trans h.c1, (World.cell?_setCell_other _ _ _ _ (hne _)).trans h.c2, (World.cell?_setCell_other _ _ _ _ (hne _)).trans h.c3, by simpa using h.la, fun o => by simpa using h.fr o⟩
theorem bset {B : Nat} {w w' : World} (h : Below B w w') {p : Addr} (hp : B ≤ p.block) (u : Value) : Below B w (w'.setCell p u) := h.setCell hp u
theorem ofV_bad {op : Nat} {a b : V} (h : okV a = false ∨ okV b = false ∨ op = 5 ∧ b.1.1 = 0) : ofV op a b = (zV, 1) := by
  unfold ofV
  rcases h with h | h | ⟨h, h'⟩
  · rw [h]; simp
  · rw [h]; simp
  · subst h; rw [h']; simp
theorem ofV_good {op : Nat} {a b : V} (h : okV a = true) (h' : okV b = true) (h5 : ¬ (op = 5 ∧ b.1.1 = 0)) : ofV op a b = if errs (res op a b) = 0 then (foldV ((res op a b).map Prod.fst), 0) else (zV, 5) := by
  unfold ofV
  rw [h, h', if_neg]
  simp only [Bool.not_true, Bool.false_or, Bool.and_eq_true, beq_iff_eq]
  exact h5
theorem ends_len (op : Nat) (a b : V) : 0 < (ends op a b).length ∧ (ends op a b).length ≤ 4 := by unfold ends; split <;> simp
set_option maxHeartbeats 8000000 in
set_option maxRecDepth 100000 in
theorem rof_bad (op : Nat) (hop : op < 6) (a b : V) (ha : WfV a) (hb : WfV b) (h : okV a = false ∨ okV b = false ∨ op = 5 ∧ b.1.1 = 0) (w : World) :
    Calls Try.prog 19 #[.int .i64 (op : Int), (.agg #[.int .i64 (a).1.1, .int .i64 (a).1.2, .int .i64 (a).2.1, .int .i64 (a).2.2]), (.agg #[.int .i64 (b).1.1, .int .i64 (b).1.2, .int .i64 (b).2.1, .int .i64 (b).2.2])] w fun e w' => e = .returned (.tuple #[(.agg #[.int .i64 (zV).1.1, .int .i64 (zV).1.2, .int .i64 (zV).2.1, .int .i64 (zV).2.2]), .int .i64 1]) ∧ Below w.heap.size w w' := by
  have V1 := Lib.hid (rok_any a ha)
  have V2 := Lib.hid (rok_any b hb)
  clear ha hb
  cases va : okV a
  · rw [va] at V1
    clear va h V2
    obtain ⟨⟨a1, a2⟩, ⟨a3, a4⟩⟩ := a
    obtain ⟨⟨b1, b2⟩, ⟨b3, b4⟩⟩ := b
    have HT0 := Lib.hid (two_start w a1 a2 a3 a4 b1 b2 b3 b4)
    go_enter Try.func19, Try.ntmps19
    go_wp2_with fail
    refine (V1.out _).mono ?_
    rintro e w1 ⟨rfl, hb1⟩
    have HT1 := Lib.hid (HT0.out.keep hb1)
    clear hb1 HT0
    have q0 := HT1.out.q0
    have q1 := HT1.out.q1
    have q2 := HT1.out.q2
    have q3 := HT1.out.q3
    have fq := HT1.out.fq
    go_wp2
    refine bodyPost_ret (v := .tuple #[.agg #[.int .i64 0, .int .i64 0, .int .i64 0, .int .i64 0], .int .i64 1]) (by simp [results, Try.results19, go_sem, q0, q1, q2, q3, fq]) rfl ⟨rfl, ?_⟩
    have := HT1.out.bel
    exact (by repeat (first | with_reducible exact Below.refl _ _ | (with_reducible refine Below.setCell ?_ (by first | exact Nat.le_refl _ | omega | (simp; done) | (simp; omega)) _) | (with_reducible refine Below.alloc ?_ (by first | exact Nat.le_refl _ | omega | (simp; done) | (simp; omega)) _) | with_reducible refine Below.drew ?_ | with_reducible refine bel_drewN ?_ _ | (with_reducible refine bel_by (by with_reducible assumption) (by first | exact Nat.le_refl _ | omega | (simp; done) | (simp; omega)) ?_)))
  · cases vb : okV b
    · rw [va] at V1
      rw [vb] at V2
      clear va vb h
      obtain ⟨⟨a1, a2⟩, ⟨a3, a4⟩⟩ := a
      obtain ⟨⟨b1, b2⟩, ⟨b3, b4⟩⟩ := b
      have HT0 := Lib.hid (two_start w a1 a2 a3 a4 b1 b2 b3 b4)
      go_enter Try.func19, Try.ntmps19
      go_wp2_with fail
      refine (V1.out _).mono ?_
      rintro e w1 ⟨rfl, hb1⟩
      have HT1 := Lib.hid (HT0.out.keep hb1)
      clear hb1 HT0
      have c0 := HT1.out.b0
      have c1 := HT1.out.b1
      have c2 := HT1.out.b2
      have c3 := HT1.out.b3
      go_wp2_with fail
      refine (V2.out _).mono ?_
      rintro e w2 ⟨rfl, hb2⟩
      have HT2 := Lib.hid (HT1.out.keep hb2)
      clear hb2 HT1 c0 c1 c2 c3
      have q0 := HT2.out.q0
      have q1 := HT2.out.q1
      have q2 := HT2.out.q2
      have q3 := HT2.out.q3
      have fq := HT2.out.fq
      go_wp2
      refine bodyPost_ret (v := .tuple #[.agg #[.int .i64 0, .int .i64 0, .int .i64 0, .int .i64 0], .int .i64 1]) (by simp [results, Try.results19, go_sem, q0, q1, q2, q3, fq]) rfl ⟨rfl, ?_⟩
      have := HT2.out.bel
      exact (by repeat (first | with_reducible exact Below.refl _ _ | (with_reducible refine Below.setCell ?_ (by first | exact Nat.le_refl _ | omega | (simp; done) | (simp; omega)) _) | (with_reducible refine Below.alloc ?_ (by first | exact Nat.le_refl _ | omega | (simp; done) | (simp; omega)) _) | with_reducible refine Below.drew ?_ | with_reducible refine bel_drewN ?_ _ | (with_reducible refine bel_by (by with_reducible assumption) (by first | exact Nat.le_refl _ | omega | (simp; done) | (simp; omega)) ?_)))
    · rw [va, vb] at h
      obtain ⟨rfl, h0⟩ : op = 5 ∧ b.1.1 = 0 := by simpa using h
      rw [va] at V1
      rw [vb] at V2
      clear va vb h
      obtain ⟨⟨a1, a2⟩, ⟨a3, a4⟩⟩ := a
      obtain ⟨⟨b1, b2⟩, ⟨b3, b4⟩⟩ := b
      have HT0 := Lib.hid (two_start w a1 a2 a3 a4 b1 b2 b3 b4)
      simp only at h0
      subst h0
      go_enter Try.func19, Try.ntmps19
      go_wp2_with fail
      refine (V1.out _).mono ?_
      rintro e w1 ⟨rfl, hb1⟩
      have HT1 := Lib.hid (HT0.out.keep hb1)
      clear hb1 HT0
      have c0 := HT1.out.b0
      have c1 := HT1.out.b1
      have c2 := HT1.out.b2
      have c3 := HT1.out.b3
      go_wp2_with fail
      refine (V2.out _).mono ?_
      rintro e w2 ⟨rfl, hb2⟩
      have HT2 := Lib.hid (HT1.out.keep hb2)
      clear hb2 HT1 c0 c1 c2 c3
      have c0 := HT2.out.b0
      have q0 := HT2.out.q0
      have q1 := HT2.out.q1
      have q2 := HT2.out.q2
      have q3 := HT2.out.q3
      have fq := HT2.out.fq
      go_wp2
      refine bodyPost_ret (v := .tuple #[.agg #[.int .i64 0, .int .i64 0, .int .i64 0, .int .i64 0], .int .i64 1]) (by simp [results, Try.results19, go_sem, q0, q1, q2, q3, fq]) rfl ⟨rfl, ?_⟩
      have := HT2.out.bel
      exact (by repeat (first | with_reducible exact Below.refl _ _ | (with_reducible refine Below.setCell ?_ (by first | exact Nat.le_refl _ | omega | (simp; done) | (simp; omega)) _) | (with_reducible refine Below.alloc ?_ (by first | exact Nat.le_refl _ | omega | (simp; done) | (simp; omega)) _) | with_reducible refine Below.drew ?_ | with_reducible refine bel_drewN ?_ _ | (with_reducible refine bel_by (by with_reducible assumption) (by first | exact Nat.le_refl _ | omega | (simp; done) | (simp; omega)) ?_)))
set_option maxHeartbeats 16000000 in
set_option maxRecDepth 100000 in
theorem rof_good (op : Nat) (hop : op < 6) (a b : V) (ha : WfV a) (hb : WfV b) (va : okV a = true) (vb : okV b = true) (h5 : ¬ (op = 5 ∧ b.1.1 = 0)) (w : World) :
    Calls Try.prog 19 #[.int .i64 (op : Int), (.agg #[.int .i64 (a).1.1, .int .i64 (a).1.2, .int .i64 (a).2.1, .int .i64 (a).2.2]), (.agg #[.int .i64 (b).1.1, .int .i64 (b).1.2, .int .i64 (b).2.1, .int .i64 (b).2.2])] w fun e w' => e = .returned (.tuple #[(.agg #[.int .i64 ((ofV op a b).1).1.1, .int .i64 ((ofV op a b).1).1.2, .int .i64 ((ofV op a b).1).2.1, .int .i64 ((ofV op a b).1).2.2]), .int .i64 (ofV op a b).2]) ∧ Below w.heap.size w w' := by
  have V1 := Lib.hid (rok_any a ha)
  have V2 := Lib.hid (rok_any b hb)
  rw [va] at V1
  rw [vb] at V2
  have HE := Lib.hid (rends_any op hop a b)
  have HWL := Lib.hid (show ∀ p ∈ ends op a b, Wf64 p.1 ∧ Wf64 p.2 from fun p hp => by
    obtain ⟨h1, h2⟩ := ends_mem hp
    exact ⟨by rcases h1 with e | e <;> rw [e]; exact ha.l; exact ha.h, by rcases h2 with e | e <;> rw [e]; exact hb.l; exact hb.h⟩)
  obtain ⟨hl1, hl4⟩ := ends_len op a b
  rw [ofV_good va vb h5]
  have HRE := Lib.hid (show res op a b = (ends op a b).map fun p => opR op p.1 p.2 from rfl)
  obtain ⟨X, hX⟩ : ∃ X, (if errs (res op a b) = 0 then (foldV ((res op a b).map Prod.fst), (0 : Int)) else (zV, 5)) = X := ⟨_, rfl⟩
  rw [hX]
  rw [HRE.out] at hX
  have HX := Lib.hid hX
  have hg : ((op : Int) == 5) = false ∨ ((op : Int) == 5) = true ∧ (b.1.1 == 0) = false := by
    by_cases e : op = 5
    · right
      refine ⟨by simp; omega, ?_⟩
      rw [beq_eq_false_iff_ne]
      exact fun h0 => h5 ⟨e, h0⟩
    · left
      rw [beq_eq_false_iff_ne]
      omega
  clear ha hb va vb h5 hX HRE
  generalize ends op a b = L at *
  obtain ⟨⟨a1, a2⟩, ⟨a3, a4⟩⟩ := a
  obtain ⟨⟨b1, b2⟩, ⟨b3, b4⟩⟩ := b
  obtain ⟨⟨⟨x1, x2⟩, ⟨x3, x4⟩⟩, xe⟩ := X
  have HT0 := Lib.hid (two_start w a1 a2 a3 a4 b1 b2 b3 b4)
  simp only at *
  go_enter Try.func19, Try.ntmps19
  go_wp2_with fail
  refine (V1.out _).mono ?_
  rintro e w1 ⟨rfl, hb1⟩
  have HT1 := Lib.hid (HT0.out.keep hb1)
  clear hb1 HT0
  have c0 := HT1.out.b0
  have c1 := HT1.out.b1
  have c2 := HT1.out.b2
  have c3 := HT1.out.b3
  go_wp2_with fail
  refine (V2.out _).mono ?_
  rintro e w2 ⟨rfl, hb2⟩
  have HT2 := Lib.hid (HT1.out.keep hb2)
  clear hb2 HT1 c0 c1 c2 c3
  have c0 := HT2.out.b0
  have c1 := HT2.out.b1
  have c2 := HT2.out.b2
  have c3 := HT2.out.b3
  have d0 := HT2.out.a0
  have d1 := HT2.out.a1
  have d2 := HT2.out.a2
  have d3 := HT2.out.a3
  rcases hg with hg | ⟨hg, hg'⟩
  all_goals
    go_wp2_with fail
    refine (HE.out _).mono ?_
    rintro e w3 ⟨g, rfl, hvs, hgl, hgw, hb3⟩
    have HT3 := Lib.hid (HT2.out.keep hb3)
    have HVS := Lib.hid hvs
    clear hb3 hvs HT2 c0 c1 c2 c3 d0 d1 d2 d3 HE
    obtain ⟨m, hm⟩ : ∃ m, L.length = m := ⟨_, rfl⟩
    rw [hm] at hl1 hl4 ⊢
    have HM := Lib.hid hm
    clear hm
    go_wp2_with fail
    have HFS := Lib.hid (show ((L.map fun p => opR op p.1 p.2).map Prod.fst).length = m by simp [HM.out])
    have HA0 := Lib.hid (al_new w3 0 0 0 0)
    have HB0 := Lib.hid (show Below w3.heap.size w3 (w3.alloc (.cells #[.int .i64 0, .int .i64 0, .int .i64 0, .int .i64 0] 25)) from (Below.refl _ _).alloc (Nat.le_refl _) _)
    have hs3 := HT3.out.sz
    go_loopw [10] (fun s10 wr => ∃ (k : Nat), k ≤ m ∧ s10 = .int .i64 (k : Int) ∧ Hid (Below w3.heap.size w3 wr) ∧ Hid (AlB wr w3.heap.size (stV ((L.map fun p => opR op p.1 p.2).map Prod.fst) k)) ∧ Hid (∀ j (hj : j < L.length), j < k → (opR op (L[j]'hj).1 (L[j]'hj).2).2 = 0)) (fun s10 _ => (m - (intOf s10)).toNat)
    case atStart => exact ⟨0, Nat.zero_le _, rfl, HB0, HA0, Lib.hid (fun j _ h => absurd h (Nat.not_lt_zero j))⟩
    case round =>
      clear HA0 HB0
      obtain ⟨k, hk, rfl, HB, HA, HZ⟩ := hrel
      by_cases hlt : k < m
      · have l1 : (k : Int) < (m : Int) := by omega
        have hkL : k < L.length := by rw [HM.out]; exact hlt
        obtain ⟨x0, y0, z0, u0⟩ := (HVS.out.keep hgl HB.out) k hkL
        have hwp := HWL.out _ (List.getElem_mem hkL)
        have HDO := Lib.hid (rdo_any op hop (L[k]'hkL).1 (L[k]'hkL).2 hwp.1 hwp.2)
        have hwr := opR_wfa op (L[k]'hkL).1 (L[k]'hkL).2 hwp.1 hwp.2
        have hkF : k < ((L.map fun p => opR op p.1 p.2).map Prod.fst).length := by rw [HFS.out]; exact hlt
        have hfk : ((L.map fun p => opR op p.1 p.2).map Prod.fst)[k]'hkF = (opR op (L[k]'hkL).1 (L[k]'hkL).2).1 := by simp
        have hgb : g < wr.heap.size := Nat.lt_of_lt_of_le hgl HB.out.size
        have HWF := Lib.hid (show WfV (stV ((L.map fun p => opR op p.1 p.2).map Prod.fst) k) from st_wf (fun x hx => by
          obtain ⟨y, hy, rfl⟩ := List.mem_map.1 hx
          obtain ⟨p, hp, rfl⟩ := List.mem_map.1 hy
          have := HWL.out p hp
          exact opR_wfa op _ _ this.1 this.2) k (by omega))
        have HER := Lib.hid (show (opR op (L[k]'hkL).1 (L[k]'hkL).2).2 ≠ 0 → ((zV : V), (5 : Int)) = (((x1, x2), (x3, x4)), xe) from fun hn => by
          rw [← HX.out, if_neg]
          intro h0
          have := errs_zero.1 h0 (opR op (L[k]'hkL).1 (L[k]'hkL).2) (List.mem_map.2 ⟨_, List.getElem_mem hkL, rfl⟩)
          exact hn this)
        have HZN := Lib.hid (fun (h0 : (opR op (L[k]'hkL).1 (L[k]'hkL).2).2 = 0) => (fun (j : Nat) (hj : j < L.length) (hjk : j < k + 1) => by
          by_cases e : j = k
          · subst e; exact h0
          · exact HZ.out j hj (by omega) : ∀ (j : Nat) (hj : j < L.length), j < k + 1 → (opR op (L[j]'hj).1 (L[j]'hj).2).2 = 0))
        have HST := Lib.hid (fun v hv => st_next hkF v hv)
        rw [hfk] at HST
        obtain ⟨p, hp⟩ : ∃ p, L[k]'hkL = p := ⟨_, rfl⟩
        rw [hp] at x0 y0 z0 u0 HDO hwr HER HZN HST
        obtain ⟨r, hr⟩ : ∃ r, opR op p.1 p.2 = r := ⟨_, rfl⟩
        rw [hr] at HDO hwr HER HZN HST
        clear hp hr hwp hfk HZ
        have HWR := Lib.hid hwr
        clear hwr
        obtain ⟨⟨p1, p2⟩, ⟨p3, p4⟩⟩ := p
        obtain ⟨⟨t1, t2⟩, te⟩ := r
        simp only at x0 y0 z0 u0 HDO HER HZN HST HWR
        simp only [Nat.zero_add] at x0 y0 z0 u0
        have hob : w3.heap.size < wr.heap.size := HA.out.la
        have hgo : g < w3.heap.size := hgl
        go_wp2_with fail
        go_cut [11, 12] (fun s11 s12 wx => ∃ fb, s11 = .pointer (some ⟨fb, 0, none⟩) ∧ s12 = .int .i64 te ∧ w3.heap.size < fb ∧ Hid (FrB wx fb (t1, t2)) ∧ Hid (AlB wx w3.heap.size (stV ((L.map fun p => opR op p.1 p.2).map Prod.fst) k)) ∧ Hid (Below w3.heap.size w3 wx))
        case first =>
          refine wp_region_s (fun w' => w'.cell? ⟨g, k * 4, none⟩ = some (.int .i64 p1) ∧ w'.cell? ⟨g, k * 4 + 1, none⟩ = some (.int .i64 p2) ∧ w'.cell? ⟨g, k * 4 + 2, none⟩ = some (.int .i64 p3) ∧ w'.cell? ⟨g, k * 4 + 3, none⟩ = some (.int .i64 p4)) 11 (by kernel_rfl) ?_
          refine AnyS.take0 (i := 0) (v := (.int .i64 (op : Int))) rfl (by kernel_rfl) (by kernel_rfl) (by kernel_rfl) (by kernel_rfl) (fun _ _ _ h => h) (fun _ => ⟨x0, y0, z0, u0⟩) (Or.inl ⟨by rfl, fun w' _ => (by go_simp)⟩) ?_
          simp only [Act.put, List.setIfInBounds_toArray, List.set_cons_zero, List.set_cons_succ]
          refine AnyS.take0 (i := 1) (v := (.slice (some ⟨g, 0, none⟩) m m)) rfl (by kernel_rfl) (by kernel_rfl) (by kernel_rfl) (by kernel_rfl) (fun _ _ _ h => h) (fun _ => ⟨x0, y0, z0, u0⟩) (Or.inl ⟨by rfl, fun w' _ => (by go_simp)⟩) ?_
          simp only [Act.put, List.setIfInBounds_toArray, List.set_cons_zero, List.set_cons_succ]
          refine AnyS.take0 (i := 2) (v := (.int .i64 (k : Int))) rfl (by kernel_rfl) (by kernel_rfl) (by kernel_rfl) (by kernel_rfl) (fun _ _ _ h => h) (fun _ => ⟨x0, y0, z0, u0⟩) (Or.inl ⟨by rfl, fun w' _ => (by go_simp)⟩) ?_
          simp only [Act.put, List.setIfInBounds_toArray, List.set_cons_zero, List.set_cons_succ]
          refine AnyS.take0 (i := 3) (v := (.pointer (some ⟨g, k * 4, none⟩))) rfl (by kernel_rfl) (by kernel_rfl) (by kernel_rfl) (by kernel_rfl) (fun _ _ _ h => h) (fun _ => ⟨x0, y0, z0, u0⟩) (Or.inl ⟨by rfl, fun w' _ => (by go_simp)⟩) ?_
          simp only [Act.put, List.setIfInBounds_toArray, List.set_cons_zero, List.set_cons_succ]
          refine AnyS.take0 (i := 4) (v := (.pointer (some ⟨g, k * 4, none⟩))) rfl (by kernel_rfl) (by kernel_rfl) (by kernel_rfl) (by kernel_rfl) (fun _ _ _ h => h) (fun _ => ⟨x0, y0, z0, u0⟩) (Or.inl ⟨by rfl, fun w' _ => (by go_simp)⟩) ?_
          simp only [Act.put, List.setIfInBounds_toArray, List.set_cons_zero, List.set_cons_succ]
          refine AnyS.take (i := 5) (v := (.agg #[.int .i64 p1, .int .i64 p2])) [11] rfl (by kernel_rfl) (by kernel_rfl) (by kernel_rfl) (by kernel_rfl) (fun _ _ _ h => h) ⟨x0, y0, z0, u0⟩ (Or.inl ⟨by rfl, fun w' hw' => (by obtain ⟨t0, t1, t2, t3⟩ := hw'; go_simp)⟩) ?_
          simp only [Act.put, List.setIfInBounds_toArray, List.set_cons_zero, List.set_cons_succ]
          refine AnyS.take0 (i := 6) (v := (.slice (some ⟨g, 0, none⟩) m m)) rfl (by kernel_rfl) (by kernel_rfl) (by kernel_rfl) (by kernel_rfl) (fun _ _ _ h => h) (fun _ => ⟨x0, y0, z0, u0⟩) (Or.inl ⟨by rfl, fun w' _ => (by go_simp)⟩) ?_
          simp only [Act.put, List.setIfInBounds_toArray, List.set_cons_zero, List.set_cons_succ]
          refine AnyS.take0 (i := 7) (v := (.int .i64 (k : Int))) rfl (by kernel_rfl) (by kernel_rfl) (by kernel_rfl) (by kernel_rfl) (fun _ _ _ h => h) (fun _ => ⟨x0, y0, z0, u0⟩) (Or.inl ⟨by rfl, fun w' _ => (by go_simp)⟩) ?_
          simp only [Act.put, List.setIfInBounds_toArray, List.set_cons_zero, List.set_cons_succ]
          refine AnyS.take0 (i := 8) (v := (.pointer (some ⟨g, k * 4, none⟩))) rfl (by kernel_rfl) (by kernel_rfl) (by kernel_rfl) (by kernel_rfl) (fun _ _ _ h => h) (fun _ => ⟨x0, y0, z0, u0⟩) (Or.inl ⟨by rfl, fun w' _ => (by go_simp)⟩) ?_
          simp only [Act.put, List.setIfInBounds_toArray, List.set_cons_zero, List.set_cons_succ]
          refine AnyS.take0 (i := 9) (v := (.pointer (some ⟨g, k * 4 + 2, none⟩))) rfl (by kernel_rfl) (by kernel_rfl) (by kernel_rfl) (by kernel_rfl) (fun _ _ _ h => h) (fun _ => ⟨x0, y0, z0, u0⟩) (Or.inl ⟨by rfl, fun w' _ => (by go_simp)⟩) ?_
          simp only [Act.put, List.setIfInBounds_toArray, List.set_cons_zero, List.set_cons_succ]
          refine AnyS.take (i := 10) (v := (.agg #[.int .i64 p3, .int .i64 p4])) [11] rfl (by kernel_rfl) (by kernel_rfl) (by kernel_rfl) (by kernel_rfl) (fun _ _ _ h => h) ⟨x0, y0, z0, u0⟩ (Or.inl ⟨by rfl, fun w' hw' => (by obtain ⟨t0, t1, t2, t3⟩ := hw'; go_simp)⟩) ?_
          simp only [Act.put, List.setIfInBounds_toArray, List.set_cons_zero, List.set_cons_succ]
          refine AnyS.step2 (i := 11) (j := 15) rfl rfl (by kernel_rfl) (fun K hK => ?_) (fun K hK => ?_)
          · go_simp
            refine (HDO.out _).mono ?_
            rintro e w5 ⟨rfl, hb5⟩
            replace hb5 := undrew hb5
            replace HB := Lib.hid (HB.out.trans (hb5.mono HB.out.size))
            replace HA := Lib.hid (HA.out.keep hb5)
            have hs5 := hb5.size
            clear hb5 x0 y0 z0 u0
            go_wp2_with fail
            refine hK.out _ _ (fun e => absurd e (by decide)) ?_
            clear hK
            refine AnyS.take0 (i := 12) (v := (.tuple #[.agg #[.int .i64 t1, .int .i64 t2], .int .i64 te])) rfl (by kernel_rfl) (by kernel_rfl) (by kernel_rfl) (by kernel_rfl) (fun _ _ _ h => h) (fun x9 => absurd x9 (by decide)) (Or.inl ⟨by rfl, fun w' _ => (by go_simp)⟩) ?_
            simp only [Act.put, List.setIfInBounds_toArray, List.set_cons_zero, List.set_cons_succ]
            refine AnyS.take0 (i := 13) (v := (.agg #[.int .i64 t1, .int .i64 t2])) rfl (by kernel_rfl) (by kernel_rfl) (by kernel_rfl) (by kernel_rfl) (fun _ _ _ h => h) (fun x9 => absurd x9 (by decide)) (Or.inl ⟨by rfl, fun w' _ => (by go_simp)⟩) ?_
            simp only [Act.put, List.setIfInBounds_toArray, List.set_cons_zero, List.set_cons_succ]
            refine AnyS.take0 (i := 14) (v := (.int .i64 te)) rfl (by kernel_rfl) (by kernel_rfl) (by kernel_rfl) (by kernel_rfl) (fun _ _ _ h => h) (fun x9 => absurd x9 (by decide)) (Or.inl ⟨by rfl, fun w' _ => (by go_simp)⟩) ?_
            simp only [Act.put, List.setIfInBounds_toArray, List.set_cons_zero, List.set_cons_succ]
            refine AnyS.rest 15 (by kernel_rfl) rfl (by kernel_rfl) ?_
            change wpList _ _ _ [_, _, _] _ _
            go_wp2_with fail
            go_meet
            exact ⟨w5.heap.size, rfl, rfl, by omega, Lib.hid (frb_new w5 t1 t2), Lib.hid (HA.out.keep ((Below.refl _ _).alloc (Nat.le_refl _) _)), Lib.hid (HB.out.alloc HB.out.size _)⟩
          · go_simp
            have HF := Lib.hid (frb_new wr 0 0)
            have hal : Below wr.heap.size wr (wr.alloc (.cells #[.int .i64 0, .int .i64 0] 23)) := (Below.refl _ _).alloc (Nat.le_refl _) _
            replace HB := Lib.hid (HB.out.trans (hal.mono HB.out.size))
            replace HA := Lib.hid (HA.out.keep hal)
            have x0' := (hal.cell (p := ⟨g, k * 4, none⟩) hgb).trans x0
            have y0' := (hal.cell (p := ⟨g, k * 4 + 1, none⟩) hgb).trans y0
            have z0' := (hal.cell (p := ⟨g, k * 4 + 2, none⟩) hgb).trans z0
            have u0' := (hal.cell (p := ⟨g, k * 4 + 3, none⟩) hgb).trans u0
            clear hal x0 y0 z0 u0
            refine hK.out _ _ (fun _ => ⟨x0', y0', z0', u0'⟩) ?_
            clear hK x0' y0' z0' u0'
            refine AnyS.step (j := 11) rfl (by kernel_rfl) (fun K hK => ?_)
            go_simp
            refine (HDO.out _).mono ?_
            rintro e w5 ⟨rfl, hb5⟩
            replace hb5 := undrew hb5
            replace HB := Lib.hid (HB.out.trans (hb5.mono HB.out.size))
            replace HA := Lib.hid (HA.out.keep hb5)
            replace HF := Lib.hid (HF.out.keep hb5)
            clear hb5
            go_wp2_with fail
            refine hK.out _ _ (fun e => absurd e (by decide)) ?_
            clear hK
            refine AnyS.take0 (i := 12) (v := (.tuple #[.agg #[.int .i64 t1, .int .i64 t2], .int .i64 te])) rfl (by kernel_rfl) (by kernel_rfl) (by kernel_rfl) (by kernel_rfl) (fun _ _ _ h => h) (fun x9 => absurd x9 (by decide)) (Or.inl ⟨by rfl, fun w' _ => (by go_simp)⟩) ?_
            simp only [Act.put, List.setIfInBounds_toArray, List.set_cons_zero, List.set_cons_succ]
            refine AnyS.take0 (i := 13) (v := (.agg #[.int .i64 t1, .int .i64 t2])) rfl (by kernel_rfl) (by kernel_rfl) (by kernel_rfl) (by kernel_rfl) (fun _ _ _ h => h) (fun x9 => absurd x9 (by decide)) (Or.inl ⟨by rfl, fun w' _ => (by go_simp)⟩) ?_
            simp only [Act.put, List.setIfInBounds_toArray, List.set_cons_zero, List.set_cons_succ]
            have e0 := HF.out.c0
            have e1 := HF.out.c1
            have ef := HF.out.fr
            simp only at e0 e1
            refine AnyS.take0 (i := 14) (v := (.int .i64 te)) rfl (by kernel_rfl) (by kernel_rfl) (by kernel_rfl) (by kernel_rfl) (fun _ _ _ h => h) (fun x9 => absurd x9 (by decide)) (Or.inl ⟨by rfl, fun w' _ => (by go_simp)⟩) ?_
            simp only [Act.put, List.setIfInBounds_toArray, List.set_cons_zero, List.set_cons_succ]
            refine AnyS.rest 16 (by kernel_rfl) rfl (by kernel_rfl) ?_
            change wpList _ _ _ [_, _] _ _
            go_wp2_with fail
            go_meet
            exact ⟨wr.heap.size, rfl, rfl, by omega, Lib.hid (HF.out.put t1 t2), Lib.hid ((HA.out.far (p := ⟨wr.heap.size, 0, none⟩) (by show wr.heap.size ≠ _; omega) _).far (p := ⟨wr.heap.size, 1, none⟩) (by show wr.heap.size ≠ _; omega) _), Lib.hid (bset (bset HB.out (p := ⟨wr.heap.size, 0, none⟩) (by show w3.heap.size ≤ wr.heap.size; omega) _) (p := ⟨wr.heap.size, 1, none⟩) (by show w3.heap.size ≤ wr.heap.size; omega) _)⟩
        case rest =>
          clear x0 y0 z0 u0 HB HA HDO hob hgb
          obtain ⟨fb, rfl, rfl, hfb, HF, HA, HB⟩ := hcut
          have HT := Lib.hid (HT3.out.keep HB.out)
          generalize wc = W at *
          by_cases h0 : te = 0
          · subst h0
            have HZ2 := Lib.hid (HZN.out rfl)
            clear HZN HER
            have E0 := HF.out.c0
            have E1 := HF.out.c1
            have hlt2 : w3.heap.size < W.heap.size := HA.out.la
            have hfl := HF.out.lt
            simp only at E0 E1
            by_cases hk0 : k = 0
            · subst hk0
              have HST2 := Lib.hid (HST.out ((t1, t2), (t1, t2)) (by simp))
              clear HST
              have A0 := HA.out.c0
              have A1 := HA.out.c1
              have A2 := HA.out.c2
              have A3 := HA.out.c3
              have Af := HA.out.fr
              simp only [stV, zV, zF] at A0 A1 A2 A3
              have HA2 := Lib.hid (AlB.put4 HA.out t1 t2 t1 t2)
              have HF2 := Lib.hid ((((HF.out.far (p := ⟨w3.heap.size, 0, none⟩) (by show w3.heap.size ≠ _; omega) (.int .i64 t1)).far (p := ⟨w3.heap.size, 1, none⟩) (by show w3.heap.size ≠ _; omega) (.int .i64 t2)).far (p := ⟨w3.heap.size, 2, none⟩) (by show w3.heap.size ≠ _; omega) (.int .i64 t1)).far (p := ⟨w3.heap.size, 3, none⟩) (by show w3.heap.size ≠ _; omega) (.int .i64 t2))
              have HB2 := Lib.hid (bset (bset (bset (bset HB.out (p := ⟨w3.heap.size, 0, none⟩) (Nat.le_refl _) (.int .i64 t1)) (p := ⟨w3.heap.size, 1, none⟩) (Nat.le_refl _) (.int .i64 t2)) (p := ⟨w3.heap.size, 2, none⟩) (Nat.le_refl _) (.int .i64 t1)) (p := ⟨w3.heap.size, 3, none⟩) (Nat.le_refl _) (.int .i64 t2))
              have HL := Lib.hid (rlesser_any (t1, t2) (t1, t2) HWR.out HWR.out)
              have HG := Lib.hid (rgreater_any (t1, t2) (t1, t2) HWR.out HWR.out)
              go_wp2_with fail
              generalize ((((W.setCell ⟨w3.heap.size, 0, none⟩ (.int .i64 t1)).setCell ⟨w3.heap.size, 1, none⟩ (.int .i64 t2)).setCell ⟨w3.heap.size, 2, none⟩ (.int .i64 t1)).setCell ⟨w3.heap.size, 3, none⟩ (.int .i64 t2)) = W2 at *
              clear A0 A1 A2 A3 Af HA HF HB HT E0 E1 hlt2 hfl
              have B0 := HA2.out.c0
              have B1 := HA2.out.c1
              have B2 := HA2.out.c2
              have B3 := HA2.out.c3
              have B4 := HF2.out.c0
              have B5 := HF2.out.c1
              simp only at B0 B1 B2 B3 B4 B5
              have hl3 : w3.heap.size < W2.heap.size := HA2.out.la
              have hl4 := HF2.out.lt
              refine wp_region_s (fun w' => w'.cell? ⟨w3.heap.size, 0, none⟩ = some (.int .i64 t1) ∧ w'.cell? ⟨w3.heap.size, 1, none⟩ = some (.int .i64 t2) ∧ w'.cell? ⟨w3.heap.size, 2, none⟩ = some (.int .i64 t1) ∧ w'.cell? ⟨w3.heap.size, 3, none⟩ = some (.int .i64 t2) ∧ w'.cell? ⟨fb, 0, none⟩ = some (.int .i64 t1) ∧ w'.cell? ⟨fb, 1, none⟩ = some (.int .i64 t2)) 7 (by kernel_rfl) ?_
              refine AnyS.take0 (i := 0) (v := (.pointer (some ⟨w3.heap.size, 0, none⟩))) rfl (by kernel_rfl) (by kernel_rfl) (by kernel_rfl) (by kernel_rfl) (fun _ _ _ h => h) (fun _ => ⟨B0, B1, B2, B3, B4, B5⟩) (Or.inl ⟨by rfl, fun w' _ => (by go_simp)⟩) ?_
              simp only [Act.put, List.setIfInBounds_toArray, List.set_cons_zero, List.set_cons_succ]
              refine AnyS.take (i := 1) (v := (.agg #[.int .i64 t1, .int .i64 t2])) [7, 3] rfl (by kernel_rfl) (by kernel_rfl) (by kernel_rfl) (by kernel_rfl) (fun _ _ _ h => h) ⟨B0, B1, B2, B3, B4, B5⟩ (Or.inl ⟨by rfl, fun w' hw' => (by obtain ⟨t0, t1, t2, t3, t4, t5⟩ := hw'; go_simp)⟩) ?_
              simp only [Act.put, List.setIfInBounds_toArray, List.set_cons_zero, List.set_cons_succ]
              refine AnyS.take (i := 2) (v := (.agg #[.int .i64 t1, .int .i64 t2])) [7, 3] rfl (by kernel_rfl) (by kernel_rfl) (by kernel_rfl) (by kernel_rfl) (fun _ _ _ h => h) ⟨B0, B1, B2, B3, B4, B5⟩ (Or.inl ⟨by rfl, fun w' hw' => (by obtain ⟨t0, t1, t2, t3, t4, t5⟩ := hw'; go_simp)⟩) ?_
              simp only [Act.put, List.setIfInBounds_toArray, List.set_cons_zero, List.set_cons_succ]
              refine AnyS.take0 (i := 4) (v := (.pointer (some ⟨w3.heap.size, 2, none⟩))) rfl (by kernel_rfl) (by kernel_rfl) (by kernel_rfl) (by kernel_rfl) (fun _ _ _ h => h) (fun _ => ⟨B0, B1, B2, B3, B4, B5⟩) (Or.inl ⟨by rfl, fun w' _ => (by go_simp)⟩) ?_
              simp only [Act.put, List.setIfInBounds_toArray, List.set_cons_zero, List.set_cons_succ]
              refine AnyS.take (i := 5) (v := (.agg #[.int .i64 t1, .int .i64 t2])) [7] rfl (by kernel_rfl) (by kernel_rfl) (by kernel_rfl) (by kernel_rfl) (fun _ _ _ h => h) ⟨B0, B1, B2, B3, B4, B5⟩ (Or.inl ⟨by rfl, fun w' hw' => (by obtain ⟨t0, t1, t2, t3, t4, t5⟩ := hw'; go_simp)⟩) ?_
              simp only [Act.put, List.setIfInBounds_toArray, List.set_cons_zero, List.set_cons_succ]
              refine AnyS.take (i := 6) (v := (.agg #[.int .i64 t1, .int .i64 t2])) [7] rfl (by kernel_rfl) (by kernel_rfl) (by kernel_rfl) (by kernel_rfl) (fun _ _ _ h => h) ⟨B0, B1, B2, B3, B4, B5⟩ (Or.inl ⟨by rfl, fun w' hw' => (by obtain ⟨t0, t1, t2, t3, t4, t5⟩ := hw'; go_simp)⟩) ?_
              simp only [Act.put, List.setIfInBounds_toArray, List.set_cons_zero, List.set_cons_succ]
              obtain ⟨p, hp⟩ : ∃ p, les (t1, t2) (t1, t2) = p := ⟨_, rfl⟩
              obtain ⟨q, hq⟩ : ∃ q, gre (t1, t2) (t1, t2) = q := ⟨_, rfl⟩
              (try simp only at HST2)
              rw [hp] at HL HST2
              rw [hq] at HG HST2
              clear hp hq
              obtain ⟨r1, r2⟩ := p
              obtain ⟨r3, r4⟩ := q
              (try simp only at HL HG)
              refine AnyS.step (j := 3) rfl (by kernel_rfl) (fun K hK => ?_)
              go_simp
              refine (HL.out _).mono ?_
              rintro e w5 ⟨rfl, hb5⟩
              replace hb5 := undrew hb5
              have C0 := (hb5.cell (p := ⟨w3.heap.size, 0, none⟩) hl3).trans B0
              have C1 := (hb5.cell (p := ⟨w3.heap.size, 1, none⟩) hl3).trans B1
              have C2 := (hb5.cell (p := ⟨w3.heap.size, 2, none⟩) hl3).trans B2
              have C3 := (hb5.cell (p := ⟨w3.heap.size, 3, none⟩) hl3).trans B3
              have C4 := (hb5.cell (p := ⟨fb, 0, none⟩) hl4).trans B4
              have C5 := (hb5.cell (p := ⟨fb, 1, none⟩) hl4).trans B5
              have HA5 := Lib.hid (HA2.out.keep hb5)
              have HB5 := Lib.hid (HB2.out.trans (hb5.mono HB2.out.size))
              clear hb5 B0 B1 B2 B3 B4 B5 hl3 hl4 HA2 HB2 HF2
              go_wp2_with fail
              refine hK.out _ _ (fun _ => ⟨C0, C1, C2, C3, C4, C5⟩) ?_
              clear hK C0 C1 C2 C3 C4 C5
              refine AnyS.step (j := 7) rfl (by kernel_rfl) (fun K hK => ?_)
              go_simp
              refine (HG.out _).mono ?_
              rintro e w6 ⟨rfl, hb6⟩
              have HA6 := Lib.hid (HA5.out.keep hb6)
              have HB6 := Lib.hid (HB5.out.trans (hb6.mono HB5.out.size))
              clear hb6 HA5 HB5
              go_wp2_with fail
              refine hK.out _ _ (fun e => absurd e (by decide)) ?_
              clear hK
              refine AnyS.rest 8 (by kernel_rfl) rfl (by kernel_rfl) ?_
              change wpList _ _ _ [_, _] _ _
              have B0 := HA6.out.c0
              have B1 := HA6.out.c1
              have B2 := HA6.out.c2
              have B3 := HA6.out.c3
              have Bf := HA6.out.fr
              simp only at B0 B1 B2 B3
              have HA7 := Lib.hid (AlB.put4 HA6.out r1 r2 r3 r4)
              have HB7 := Lib.hid (bset (bset (bset (bset HB6.out (p := ⟨w3.heap.size, 0, none⟩) (Nat.le_refl _) (.int .i64 r1)) (p := ⟨w3.heap.size, 1, none⟩) (Nat.le_refl _) (.int .i64 r2)) (p := ⟨w3.heap.size, 2, none⟩) (Nat.le_refl _) (.int .i64 r3)) (p := ⟨w3.heap.size, 3, none⟩) (Nat.le_refl _) (.int .i64 r4))
              clear HA6 HB6
              go_wp2_with fail
              go_roundw
              case rel => exact ⟨0 + 1, by omega, by go_num, HB7, by rw [HST2.out]; exact HA7, HZ2⟩
              case measure => simp [intOf] <;> omega
            · have k0 : ((k : Int) == 0) = false := by rw [beq_eq_false_iff_ne]; omega
              obtain ⟨v, hv⟩ : ∃ v, stV ((L.map fun p => opR op p.1 p.2).map Prod.fst) k = v := ⟨_, rfl⟩
              have HST2 := Lib.hid (HST.out v (by rw [if_neg hk0]; exact hv.symm))
              rw [hv] at HA HWF
              clear HST hv
              obtain ⟨⟨s1, s2⟩, ⟨s3, s4⟩⟩ := v
              have HL := Lib.hid (rlesser_any (s1, s2) (t1, t2) HWF.out.l HWR.out)
              have HG := Lib.hid (rgreater_any (s3, s4) (t1, t2) HWF.out.h HWR.out)
              go_wp2_with fail
              have HA2 := HA
              have HF2 := HF
              have HB2 := HB
              generalize hWW : W = W2 at *
              clear HA HF HB HT E0 E1 hlt2 hfl hWW
              have B0 := HA2.out.c0
              have B1 := HA2.out.c1
              have B2 := HA2.out.c2
              have B3 := HA2.out.c3
              have B4 := HF2.out.c0
              have B5 := HF2.out.c1
              simp only at B0 B1 B2 B3 B4 B5
              have hl3 : w3.heap.size < W2.heap.size := HA2.out.la
              have hl4 := HF2.out.lt
              refine wp_region_s (fun w' => w'.cell? ⟨w3.heap.size, 0, none⟩ = some (.int .i64 s1) ∧ w'.cell? ⟨w3.heap.size, 1, none⟩ = some (.int .i64 s2) ∧ w'.cell? ⟨w3.heap.size, 2, none⟩ = some (.int .i64 s3) ∧ w'.cell? ⟨w3.heap.size, 3, none⟩ = some (.int .i64 s4) ∧ w'.cell? ⟨fb, 0, none⟩ = some (.int .i64 t1) ∧ w'.cell? ⟨fb, 1, none⟩ = some (.int .i64 t2)) 7 (by kernel_rfl) ?_
              refine AnyS.take0 (i := 0) (v := (.pointer (some ⟨w3.heap.size, 0, none⟩))) rfl (by kernel_rfl) (by kernel_rfl) (by kernel_rfl) (by kernel_rfl) (fun _ _ _ h => h) (fun _ => ⟨B0, B1, B2, B3, B4, B5⟩) (Or.inl ⟨by rfl, fun w' _ => (by go_simp)⟩) ?_
              simp only [Act.put, List.setIfInBounds_toArray, List.set_cons_zero, List.set_cons_succ]
              refine AnyS.take (i := 1) (v := (.agg #[.int .i64 s1, .int .i64 s2])) [7, 3] rfl (by kernel_rfl) (by kernel_rfl) (by kernel_rfl) (by kernel_rfl) (fun _ _ _ h => h) ⟨B0, B1, B2, B3, B4, B5⟩ (Or.inl ⟨by rfl, fun w' hw' => (by obtain ⟨t0, t1, t2, t3, t4, t5⟩ := hw'; go_simp)⟩) ?_
              simp only [Act.put, List.setIfInBounds_toArray, List.set_cons_zero, List.set_cons_succ]
              refine AnyS.take (i := 2) (v := (.agg #[.int .i64 t1, .int .i64 t2])) [7, 3] rfl (by kernel_rfl) (by kernel_rfl) (by kernel_rfl) (by kernel_rfl) (fun _ _ _ h => h) ⟨B0, B1, B2, B3, B4, B5⟩ (Or.inl ⟨by rfl, fun w' hw' => (by obtain ⟨t0, t1, t2, t3, t4, t5⟩ := hw'; go_simp)⟩) ?_
              simp only [Act.put, List.setIfInBounds_toArray, List.set_cons_zero, List.set_cons_succ]
              refine AnyS.take0 (i := 4) (v := (.pointer (some ⟨w3.heap.size, 2, none⟩))) rfl (by kernel_rfl) (by kernel_rfl) (by kernel_rfl) (by kernel_rfl) (fun _ _ _ h => h) (fun _ => ⟨B0, B1, B2, B3, B4, B5⟩) (Or.inl ⟨by rfl, fun w' _ => (by go_simp)⟩) ?_
              simp only [Act.put, List.setIfInBounds_toArray, List.set_cons_zero, List.set_cons_succ]
              refine AnyS.take (i := 5) (v := (.agg #[.int .i64 s3, .int .i64 s4])) [7] rfl (by kernel_rfl) (by kernel_rfl) (by kernel_rfl) (by kernel_rfl) (fun _ _ _ h => h) ⟨B0, B1, B2, B3, B4, B5⟩ (Or.inl ⟨by rfl, fun w' hw' => (by obtain ⟨t0, t1, t2, t3, t4, t5⟩ := hw'; go_simp)⟩) ?_
              simp only [Act.put, List.setIfInBounds_toArray, List.set_cons_zero, List.set_cons_succ]
              refine AnyS.take (i := 6) (v := (.agg #[.int .i64 t1, .int .i64 t2])) [7] rfl (by kernel_rfl) (by kernel_rfl) (by kernel_rfl) (by kernel_rfl) (fun _ _ _ h => h) ⟨B0, B1, B2, B3, B4, B5⟩ (Or.inl ⟨by rfl, fun w' hw' => (by obtain ⟨t0, t1, t2, t3, t4, t5⟩ := hw'; go_simp)⟩) ?_
              simp only [Act.put, List.setIfInBounds_toArray, List.set_cons_zero, List.set_cons_succ]
              obtain ⟨p, hp⟩ : ∃ p, les (s1, s2) (t1, t2) = p := ⟨_, rfl⟩
              obtain ⟨q, hq⟩ : ∃ q, gre (s3, s4) (t1, t2) = q := ⟨_, rfl⟩
              (try simp only at HST2)
              rw [hp] at HL HST2
              rw [hq] at HG HST2
              clear hp hq
              obtain ⟨r1, r2⟩ := p
              obtain ⟨r3, r4⟩ := q
              (try simp only at HL HG)
              refine AnyS.step (j := 3) rfl (by kernel_rfl) (fun K hK => ?_)
              go_simp
              refine (HL.out _).mono ?_
              rintro e w5 ⟨rfl, hb5⟩
              replace hb5 := undrew hb5
              have C0 := (hb5.cell (p := ⟨w3.heap.size, 0, none⟩) hl3).trans B0
              have C1 := (hb5.cell (p := ⟨w3.heap.size, 1, none⟩) hl3).trans B1
              have C2 := (hb5.cell (p := ⟨w3.heap.size, 2, none⟩) hl3).trans B2
              have C3 := (hb5.cell (p := ⟨w3.heap.size, 3, none⟩) hl3).trans B3
              have C4 := (hb5.cell (p := ⟨fb, 0, none⟩) hl4).trans B4
              have C5 := (hb5.cell (p := ⟨fb, 1, none⟩) hl4).trans B5
              have HA5 := Lib.hid (HA2.out.keep hb5)
              have HB5 := Lib.hid (HB2.out.trans (hb5.mono HB2.out.size))
              clear hb5 B0 B1 B2 B3 B4 B5 hl3 hl4 HA2 HB2 HF2
              go_wp2_with fail
              refine hK.out _ _ (fun _ => ⟨C0, C1, C2, C3, C4, C5⟩) ?_
              clear hK C0 C1 C2 C3 C4 C5
              refine AnyS.step (j := 7) rfl (by kernel_rfl) (fun K hK => ?_)
              go_simp
              refine (HG.out _).mono ?_
              rintro e w6 ⟨rfl, hb6⟩
              have HA6 := Lib.hid (HA5.out.keep hb6)
              have HB6 := Lib.hid (HB5.out.trans (hb6.mono HB5.out.size))
              clear hb6 HA5 HB5
              go_wp2_with fail
              refine hK.out _ _ (fun e => absurd e (by decide)) ?_
              clear hK
              refine AnyS.rest 8 (by kernel_rfl) rfl (by kernel_rfl) ?_
              change wpList _ _ _ [_, _] _ _
              have B0 := HA6.out.c0
              have B1 := HA6.out.c1
              have B2 := HA6.out.c2
              have B3 := HA6.out.c3
              have Bf := HA6.out.fr
              simp only at B0 B1 B2 B3
              have HA7 := Lib.hid (AlB.put4 HA6.out r1 r2 r3 r4)
              have HB7 := Lib.hid (bset (bset (bset (bset HB6.out (p := ⟨w3.heap.size, 0, none⟩) (Nat.le_refl _) (.int .i64 r1)) (p := ⟨w3.heap.size, 1, none⟩) (Nat.le_refl _) (.int .i64 r2)) (p := ⟨w3.heap.size, 2, none⟩) (Nat.le_refl _) (.int .i64 r3)) (p := ⟨w3.heap.size, 3, none⟩) (Nat.le_refl _) (.int .i64 r4))
              clear HA6 HB6
              go_wp2_with fail
              go_roundw
              case rel => exact ⟨k + 1, by omega, by go_num, HB7, by rw [HST2.out]; exact HA7, HZ2⟩
              case measure => simp [intOf] <;> omega
          · have k0 : (te != 0) = true := by simpa using h0
            have HE2 := Lib.hid (HER.out h0)
            clear HZN HER h0
            have q0 := HT.out.q0
            have q1 := HT.out.q1
            have q2 := HT.out.q2
            have q3 := HT.out.q3
            have fq := HT.out.fq
            go_wp2
            refine bodyPost_ret (v := .tuple #[.agg #[.int .i64 0, .int .i64 0, .int .i64 0, .int .i64 0], .int .i64 5]) (by simp [results, Try.results19, go_sem, q0, q1, q2, q3, fq]) rfl ⟨?_, ?_⟩
            · have := HE2.out
              simp only [Prod.mk.injEq, zV, zF] at this
              obtain ⟨⟨⟨rfl, rfl⟩, rfl, rfl⟩, rfl⟩ := this
              rfl
            · have := HT.out.bel
              exact (by repeat (first | with_reducible exact Below.refl _ _ | (with_reducible refine Below.setCell ?_ (by first | exact Nat.le_refl _ | omega | (simp; done) | (simp; omega)) _) | (with_reducible refine Below.alloc ?_ (by first | exact Nat.le_refl _ | omega | (simp; done) | (simp; omega)) _) | with_reducible refine Below.drew ?_ | with_reducible refine bel_drewN ?_ _ | (with_reducible refine bel_by (by with_reducible assumption) (by first | exact Nat.le_refl _ | omega | (simp; done) | (simp; omega)) ?_)))
      · obtain rfl : k = m := by omega
        have l1 : ¬ (k : Int) < (k : Int) := by omega
        have hfp : 0 < ((L.map fun p => opR op p.1 p.2).map Prod.fst).length := by rw [HFS.out]; omega
        have hse := st_end hfp
        rw [HFS.out] at hse
        rw [hse] at HA
        have HX2 := Lib.hid (show (foldV ((L.map fun p => opR op p.1 p.2).map Prod.fst), (0 : Int)) = (((x1, x2), (x3, x4)), xe) by
          rw [← HX.out, if_pos]
          refine errs_zero.2 (fun y hy => ?_)
          obtain ⟨p, hp, rfl⟩ := List.mem_map.1 hy
          obtain ⟨j, hj, rfl⟩ := List.mem_iff_getElem.1 hp
          exact HZ.out j hj (by rw [← HM.out]; exact hj))
        obtain ⟨v, hv⟩ : ∃ v, foldV ((L.map fun p => opR op p.1 p.2).map Prod.fst) = v := ⟨_, rfl⟩
        rw [hv] at HX2 HA
        obtain ⟨⟨v1, v2⟩, ⟨v3, v4⟩⟩ := v
        clear hv hse hfp HZ
        have A0 := HA.out.c0
        have A1 := HA.out.c1
        have A2 := HA.out.c2
        have A3 := HA.out.c3
        simp only at A0 A1 A2 A3
        have HT := Lib.hid (HT3.out.keep HB.out)
        clear HA HB
        have q0 := HT.out.q0
        have q1 := HT.out.q1
        have q2 := HT.out.q2
        have q3 := HT.out.q3
        have fq := HT.out.fq
        go_wp2
        refine bodyPost_ret (v := .tuple #[.agg #[.int .i64 v1, .int .i64 v2, .int .i64 v3, .int .i64 v4], .int .i64 0]) (by simp [results, Try.results19, go_sem, q0, q1, q2, q3, fq]) rfl ⟨?_, ?_⟩
        · have := HX2.out
          simp only [Prod.mk.injEq] at this
          obtain ⟨⟨⟨rfl, rfl⟩, rfl, rfl⟩, rfl⟩ := this
          rfl
        · have := HT.out.bel
          exact (by repeat (first | with_reducible exact Below.refl _ _ | (with_reducible refine Below.setCell ?_ (by first | exact Nat.le_refl _ | omega | (simp; done) | (simp; omega)) _) | (with_reducible refine Below.alloc ?_ (by first | exact Nat.le_refl _ | omega | (simp; done) | (simp; omega)) _) | with_reducible refine Below.drew ?_ | with_reducible refine bel_drewN ?_ _ | (with_reducible refine bel_by (by with_reducible assumption) (by first | exact Nat.le_refl _ | omega | (simp; done) | (simp; omega)) ?_)))
theorem rof_any (op : Nat) (hop : op < 6) (a b : V) (ha : WfV a) (hb : WfV b) (w : World) :
    Calls Try.prog 19 #[.int .i64 (op : Int), (.agg #[.int .i64 (a).1.1, .int .i64 (a).1.2, .int .i64 (a).2.1, .int .i64 (a).2.2]), (.agg #[.int .i64 (b).1.1, .int .i64 (b).1.2, .int .i64 (b).2.1, .int .i64 (b).2.2])] w fun e w' => e = .returned (.tuple #[(.agg #[.int .i64 ((ofV op a b).1).1.1, .int .i64 ((ofV op a b).1).1.2, .int .i64 ((ofV op a b).1).2.1, .int .i64 ((ofV op a b).1).2.2]), .int .i64 (ofV op a b).2]) ∧ Below w.heap.size w w' := by
  by_cases h : okV a = false ∨ okV b = false ∨ op = 5 ∧ b.1.1 = 0
  · rw [ofV_bad h]
    exact rof_bad op hop a b ha hb h w
  · simp only [not_or, Bool.not_eq_false] at h
    exact rof_good op hop a b ha hb h.1 h.2.1 h.2.2 w
end Go.Proofs.Ytbjmibaepccbeaa
