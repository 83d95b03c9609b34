/- Intervals: the program's span. -/
import Derived.Test.YtbjmibaepccbeaaIvS
import Derived.Deep.RegionHeld3
set_option linter.unusedSimpArgs false
set_option linter.unusedVariables false
namespace Go.Proofs.Ytbjmibaepccbeaa
open Go.RowKit
open Iv

/-- what a function value over two fractions gives -/
def FrFn (g : Nat) (r : F → F → R) : Prop := ∀ (x y : F), Wf64 x → Wf64 y → ∀ W : World, Calls Try.prog g #[(.agg #[.int .i64 (x).1, .int .i64 (x).2]), (.agg #[.int .i64 (y).1, .int .i64 (y).2])] W fun e w' => e = .returned (.tuple #[(.agg #[.int .i64 ((r x y).1).1, .int .i64 ((r x y).1).2]), .int .i64 (r x y).2]) ∧ Below W.heap.size W w'
/-- the array of results -/
structure RsB (w : World) (rb : Nat) (Z : List F) : Prop where
  lt : rb < w.heap.size
  cell : ∀ (k : Nat) (h : k < Z.length), w.cell? ⟨rb, k * 2, none⟩ = some (.int .i64 (Z[k]'h).1) ∧ w.cell? ⟨rb, k * 2 + 1, none⟩ = some (.int .i64 (Z[k]'h).2)
  fr : ∀ o, w.frozen? ⟨rb, o, none⟩ = false
theorem RsB.keep {w w' : World} {rb : Nat} {Z : List F} (h : RsB w rb Z) (hB : Below w.heap.size w w') : RsB w' rb Z :=
  ⟨Nat.lt_of_lt_of_le h.lt hB.size, fun k hk => ⟨(hB.cell (p := ⟨rb, k * 2, none⟩) h.lt).trans (h.cell k hk).1, (hB.cell (p := ⟨rb, k * 2 + 1, none⟩) h.lt).trans (h.cell k hk).2⟩, fun o => (hB.frozen (p := ⟨rb, o, none⟩) h.lt).trans (h.fr o)⟩
theorem ne_off {b o p : Nat} (h : o ≠ p) : (⟨b, o, none⟩ : Addr) ≠ ⟨b, p, none⟩ := fun e => h (Addr.mk.inj e).2.1
theorem ne_blk {b c o p : Nat} (h : b ≠ c) : (⟨b, o, none⟩ : Addr) ≠ ⟨c, p, none⟩ := fun e => h (Addr.mk.inj e).1
theorem RsB.put {w : World} {rb : Nat} {Z : List F} (h : RsB w rb Z) {k : Nat} (hk : k < Z.length) (x : F) : RsB ((w.setCell ⟨rb, k * 2, none⟩ (.int .i64 x.1)).setCell ⟨rb, k * 2 + 1, none⟩ (.int .i64 x.2)) rb (Z.set k x) := by
  refine ⟨by simpa using h.lt, fun j hj => ?_, fun o => by simpa using h.fr o⟩
  have hj' : j < Z.length := by simpa using hj
  obtain ⟨c1, c2⟩ := h.cell j hj'
  obtain ⟨d1, d2⟩ := h.cell k hk
  by_cases e : k = j
  · subst e
    rw [List.getElem_set_self]
    refine ⟨?_, ?_⟩
    · rw [World.cell?_setCell_other _ _ _ _ (ne_off (by omega)), World.cell?_setCell_same _ _ _ d1]
    · exact World.cell?_setCell_same _ _ _ ((World.cell?_setCell_other _ _ _ _ (ne_off (by omega))).trans d2)
  · rw [List.getElem_set_ne e]
    refine ⟨?_, ?_⟩
    · rw [World.cell?_setCell_other _ _ _ _ (ne_off (by omega)), World.cell?_setCell_other _ _ _ _ (ne_off (by omega)), c1]
    · rw [World.cell?_setCell_other _ _ _ _ (ne_off (by omega)), World.cell?_setCell_other _ _ _ _ (ne_off (by omega)), c2]
theorem RsB.far {w : World} {rb : Nat} {Z : List F} (h : RsB w rb Z) {p : Addr} (hp : p.block ≠ rb) (u : Value) : RsB (w.setCell p u) rb Z := by
  obtain ⟨b, o, s⟩ := p
  have hne : ∀ t, (⟨b, o, s⟩ : Addr) ≠ ⟨rb, t, none⟩ := fun t e => hp (Addr.mk.inj e).1
  exact ⟨by simpa using h.lt, fun k hk => ⟨(World.cell?_setCell_other _ _ _ _ (hne _)).trans (h.cell k hk).1, (World.cell?_setCell_other _ _ _ _ (hne _)).trans (h.cell k hk).2⟩, fun o => by simpa using h.fr o⟩
/-- the state of span: the result's cells, the array -/
structure SpA (w wr : World) (Z : List F) : Prop where
  rs : RsB wr (w.heap.size + 1) Z
  q0 : wr.cell? ⟨w.heap.size, 0, none⟩ = some (.int .i64 0)
  q1 : wr.cell? ⟨w.heap.size, 1, none⟩ = some (.int .i64 0)
  q2 : wr.cell? ⟨w.heap.size, 2, none⟩ = some (.int .i64 0)
  q3 : wr.cell? ⟨w.heap.size, 3, none⟩ = some (.int .i64 0)
  f : ∀ o, wr.frozen? ⟨w.heap.size, o, none⟩ = false
  bel : Below w.heap.size w wr
theorem SpA.sz {w wr : World} {Z : List F} (h : SpA w wr Z) : w.heap.size + 2 ≤ wr.heap.size := h.rs.lt
theorem SpA.keep {w wr w' : World} {Z : List F} (h : SpA w wr Z) (hB : Below wr.heap.size wr w') : SpA w w' Z := by
  have hs := h.sz
  exact ⟨h.rs.keep hB, (hB.cell (p := ⟨w.heap.size, 0, none⟩) (by show w.heap.size < _; omega)).trans h.q0, (hB.cell (p := ⟨w.heap.size, 1, none⟩) (by show w.heap.size < _; omega)).trans h.q1, (hB.cell (p := ⟨w.heap.size, 2, none⟩) (by show w.heap.size < _; omega)).trans h.q2, (hB.cell (p := ⟨w.heap.size, 3, none⟩) (by show w.heap.size < _; omega)).trans h.q3,
    fun o => (hB.frozen (p := ⟨w.heap.size, o, none⟩) (by show w.heap.size < _; omega)).trans (h.f o), h.bel.trans (hB.mono h.bel.size)⟩
theorem SpA.put {w wr : World} {Z : List F} (h : SpA w wr Z) {k : Nat} (hk : k < Z.length) (x : F) : SpA w ((wr.setCell ⟨w.heap.size + 1, k * 2, none⟩ (.int .i64 x.1)).setCell ⟨w.heap.size + 1, k * 2 + 1, none⟩ (.int .i64 x.2)) (Z.set k x) := by
  have e : ∀ o, ((wr.setCell ⟨w.heap.size + 1, k * 2, none⟩ (.int .i64 x.1)).setCell ⟨w.heap.size + 1, k * 2 + 1, none⟩ (.int .i64 x.2)).cell? ⟨w.heap.size, o, none⟩ = wr.cell? ⟨w.heap.size, o, none⟩ := fun o => by
    rw [World.cell?_setCell_other _ _ _ _ (ne_blk (by omega)), World.cell?_setCell_other _ _ _ _ (ne_blk (by omega))]
  exact ⟨h.rs.put hk x, (e 0).trans h.q0, (e 1).trans h.q1, (e 2).trans h.q2, (e 3).trans h.q3, fun o => by simpa using h.f o, (h.bel.setCell (p := ⟨w.heap.size + 1, k * 2, none⟩) (by show w.heap.size ≤ w.heap.size + 1; omega) _).setCell (p := ⟨w.heap.size + 1, k * 2 + 1, none⟩) (by show w.heap.size ≤ w.heap.size + 1; omega) _⟩
theorem SpA.far {w wr : World} {Z : List F} (h : SpA w wr Z) {p : Addr} (hp : w.heap.size + 2 ≤ p.block) (u : Value) : SpA w (wr.setCell p u) Z := by
  obtain ⟨b, o, s⟩ := p
  have hp' : w.heap.size + 2 ≤ b := hp
  have hne : ∀ t, (⟨b, o, s⟩ : Addr) ≠ ⟨w.heap.size, t, none⟩ := fun t e => by have := (Addr.mk.inj e).1; omega
  have e : ∀ t, (wr.setCell ⟨b, o, s⟩ u).cell? ⟨w.heap.size, t, none⟩ = wr.cell? ⟨w.heap.size, t, none⟩ := fun t => World.cell?_setCell_other _ _ _ _ (hne t)
  exact ⟨h.rs.far (by show b ≠ _; omega) u, (e 0).trans h.q0, (e 1).trans h.q1, (e 2).trans h.q2, (e 3).trans h.q3, fun o => by simpa using h.f o, h.bel.setCell (p := ⟨b, o, s⟩) (by show w.heap.size ≤ b; omega) _⟩
theorem errs_pre : ∀ {L : List R} {k : Nat} (h : k < L.length), (∀ j (hj : j < L.length), j < k → (L[j]'hj).2 = 0) → (L[k]'h).2 ≠ 0 → errs L = (L[k]'h).2
  | r :: t, 0, _, _, hn => by
    have hn' : r.2 ≠ 0 := hn
    show (if r.2 = 0 then errs t else r.2) = r.2
    rw [if_neg hn']
  | r :: t, k + 1, h, hz, hn => by
    have h0 : r.2 = 0 := hz 0 (by simp) (by omega)
    show (if r.2 = 0 then errs t else r.2) = _
    rw [if_pos h0]
    exact errs_pre (by simpa using h) (fun j hj hjk => by have := hz (j + 1) (by simpa using hj) (by omega); simpa using this) (by simpa using hn)
theorem errs_all {L : List R} (h : ∀ j (hj : j < L.length), (L[j]'hj).2 = 0) : errs L = 0 := errs_zero.2 fun r hr => by
  obtain ⟨j, hj, rfl⟩ := List.mem_iff_getElem.1 hr
  exact h j hj
theorem fold_step (r0 : F) (L : List F) (k : Nat) (h : k < L.length) : (L.take (k + 1)).foldl ext (r0, r0) = (les ((L.take k).foldl ext (r0, r0)).1 (L[k]'h), gre ((L.take k).foldl ext (r0, r0)).2 (L[k]'h)) := by
  rw [List.take_succ_eq_append_getElem h, List.foldl_append]
  rfl
theorem fold_wf : ∀ (L : List F) (v : V), WfV v → (∀ x ∈ L, Wf64 x) → WfV (L.foldl ext v)
  | [], v, h, _ => h
  | x :: t, v, h, hx => fold_wf t _ ⟨les_wf h.l (hx x (by simp)), gre_wf h.h (hx x (by simp))⟩ (fun y hy => hx y (by simp [hy]))
/-- the state of span's second loop: an interval, and the result that is looked at -/
structure HdV (w : World) (ab eb : Nat) (v : V) (x : F) : Prop where
  c0 : w.cell? ⟨ab, 0, none⟩ = some (.int .i64 v.1.1)
  c1 : w.cell? ⟨ab, 1, none⟩ = some (.int .i64 v.1.2)
  c2 : w.cell? ⟨ab, 2, none⟩ = some (.int .i64 v.2.1)
  c3 : w.cell? ⟨ab, 3, none⟩ = some (.int .i64 v.2.2)
  e0 : w.cell? ⟨eb, 0, none⟩ = some (.int .i64 x.1)
  e1 : w.cell? ⟨eb, 1, none⟩ = some (.int .i64 x.2)
  la : ab < w.heap.size
  le : eb < w.heap.size
  fr : ∀ o, w.frozen? ⟨ab, o, none⟩ = false
theorem HdV.keep {w w' : World} {ab eb : Nat} {v : V} {x : F} (h : HdV w ab eb v x) (hB : Below w.heap.size w w') : HdV w' ab eb v x :=
  ⟨(hB.cell (p := ⟨ab, 0, none⟩) h.la).trans h.c0, (hB.cell (p := ⟨ab, 1, none⟩) h.la).trans h.c1, (hB.cell (p := ⟨ab, 2, none⟩) h.la).trans h.c2, (hB.cell (p := ⟨ab, 3, none⟩) h.la).trans h.c3, (hB.cell (p := ⟨eb, 0, none⟩) h.le).trans h.e0, (hB.cell (p := ⟨eb, 1, none⟩) h.le).trans h.e1,
    Nat.lt_of_lt_of_le h.la hB.size, Nat.lt_of_lt_of_le h.le hB.size, fun o => (hB.frozen (p := ⟨ab, o, none⟩) h.la).trans (h.fr o)⟩
/-- an interval of the call's own -/
structure AlB (w : World) (ab : Nat) (v : V) : Prop where
  c0 : w.cell? ⟨ab, 0, none⟩ = some (.int .i64 v.1.1)
  c1 : w.cell? ⟨ab, 1, none⟩ = some (.int .i64 v.1.2)
  c2 : w.cell? ⟨ab, 2, none⟩ = some (.int .i64 v.2.1)
  c3 : w.cell? ⟨ab, 3, none⟩ = some (.int .i64 v.2.2)
  la : ab < w.heap.size
  fr : ∀ o, w.frozen? ⟨ab, o, none⟩ = false
theorem AlB.keep {w w' : World} {ab : Nat} {v : V} (h : AlB w ab v) (hB : Below w.heap.size w w') : AlB w' ab v :=
  ⟨(hB.cell (p := ⟨ab, 0, none⟩) h.la).trans h.c0, (hB.cell (p := ⟨ab, 1, none⟩) h.la).trans h.c1, (hB.cell (p := ⟨ab, 2, none⟩) h.la).trans h.c2, (hB.cell (p := ⟨ab, 3, none⟩) h.la).trans h.c3,
    Nat.lt_of_lt_of_le h.la hB.size, fun o => (hB.frozen (p := ⟨ab, o, none⟩) h.la).trans (h.fr o)⟩
theorem AlB.put4 {w : World} {ab : Nat} {v : V} (h : AlB w ab v) (p1 p2 q1 q2 : Int) :
    AlB ((((w.setCell ⟨ab, 0, none⟩ (.int .i64 p1)).setCell ⟨ab, 1, none⟩ (.int .i64 p2)).setCell ⟨ab, 2, none⟩ (.int .i64 q1)).setCell ⟨ab, 3, none⟩ (.int .i64 q2)) ab ((p1, p2), (q1, q2)) := by
  have h0 := h.c0
  have h1 := h.c1
  have h2 := h.c2
  have h3 := h.c3
  exact ⟨by simp [go_sem, h0, h1, h2, h3], by simp [go_sem, h0, h1, h2, h3], by simp [go_sem, h0, h1, h2, h3], by simp [go_sem, h0, h1, h2, h3], by simpa using h.la, fun o => by simpa using h.fr o⟩
end Go.Proofs.Ytbjmibaepccbeaa
