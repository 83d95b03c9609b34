/- Contracts of package encode: a Writer, a chain of pieces: add, Open, Close, Depth. -/
import Derived.Test.YtljeialaefmbmaaDoorReadC
set_option linter.unusedSimpArgs false
set_option linter.unusedVariables false
namespace Go.Proofs.YtljeialaefmbmaaDoor
open Go.RowKit

/-- the pieces, the last one first -/
def Chain (w : World) (b : Nat) : Value → List ByteArray → Prop
  | v, [] => v = .pointer none
  | v, t :: l => ∃ (g : Nat) (pre : Value), v = .pointer (some ⟨g, 0, none⟩) ∧ b < g ∧ g < w.heap.size ∧ w.cell? ⟨g, 0, none⟩ = some pre ∧ w.cell? ⟨g, 1, none⟩ = some (.string t) ∧ Chain w b pre l
theorem But.cell {b : Nat} {w w' : World} (h : But b w w') {g o : Nat} (hg : g < w.heap.size) (hb : g ≠ b) : w'.cell? ⟨g, o, none⟩ = w.cell? ⟨g, o, none⟩ := World.cell?_of_block (h.block g hg hb)
theorem Chain.keep {w w' : World} {b : Nat} (h : But b w w') : ∀ {v : Value} {l : List ByteArray}, Chain w b v l → Chain w' b v l
  | _, [], hc => hc
  | _, _ :: _, ⟨g, pre, e, hb, hg, h0, h1, hr⟩ => ⟨g, pre, e, hb, Nat.lt_of_lt_of_le hg h.size, (h.cell hg (by omega)).trans h0, (h.cell hg (by omega)).trans h1, Chain.keep h hr⟩
/-- what turns a block ahead of the Writer's leaves the pieces as they are -/
theorem Chain.far {w w' : World} {b r : Nat} (h : But r w w') (hr : r ≤ b) : ∀ {v : Value} {l : List ByteArray}, Chain w b v l → Chain w' b v l
  | _, [], hc => hc
  | _, _ :: _, ⟨g, pre, e, hb, hg, h0, h1, hrest⟩ => ⟨g, pre, e, hb, Nat.lt_of_lt_of_le hg h.size, (h.cell hg (by omega)).trans h0, (h.cell hg (by omega)).trans h1, Chain.far h hr hrest⟩
theorem Chain.ptr {w : World} {b : Nat} : ∀ {v : Value} {l : List ByteArray}, Chain w b v l → ∃ p, v = .pointer p
  | _, [], h => ⟨none, h⟩
  | _, _ :: _, ⟨g, _, e, _⟩ => ⟨some ⟨g, 0, none⟩, e⟩
theorem But.alloc {b : Nat} {a w : World} (h : But b a w) (o : Obj) : But b a (w.alloc o) :=
  ⟨h.os, h.tape, h.output, by have := h.size; simp; omega, fun k hk hb => by rw [Below.heap_alloc _ _ _ (Nat.lt_of_lt_of_le hk h.size)]; exact h.block k hk hb⟩
def sumLen (l : List ByteArray) : Nat := (l.map ByteArray.size).sum
/-- a Writer in its block -/
structure WAt (w : World) (b : Nat) (l : List ByteArray) (o : Nat) : Prop where
  c0 : ∃ v, w.cell? ⟨b, 0, none⟩ = some v ∧ Chain w b v l
  c1 : w.cell? ⟨b, 1, none⟩ = some (.int .i64 (sumLen l : Int))
  c2 : w.cell? ⟨b, 2, none⟩ = some (.int .i64 (o : Int))
  f : ∀ o, w.frozen? ⟨b, o, none⟩ = false
  lt : b < w.heap.size

set_option maxHeartbeats 1000000 in
set_option maxRecDepth 100000 in
theorem add_any (b : Nat) (l : List ByteArray) (o : Nat) (t : ByteArray) (w : World) (hW : WAt w b l o) (hs : sumLen l + t.size ≤ 4611686018427387904) :
    Calls Tryd.prog 28 #[.pointer (some ⟨b, 0, none⟩), .string t] w fun e w' => e = .returned (.tuple #[]) ∧ WAt w' b (t :: l) o ∧ But b w w' := by
  obtain ⟨⟨v, c0, hc⟩, c1, c2, ff, lt⟩ := hW
  obtain ⟨p, rfl⟩ := hc.ptr
  have HC := Lib.hid hc
  have hsum : sumLen (t :: l) = t.size + sumLen l := by simp [sumLen]
  have HSUM := Lib.hid hsum
  have m0 : ¬ b = w.heap.size := by omega
  have m1 : ¬ w.heap.size = b := by omega
  clear hc hsum
  generalize sumLen l = sl at *
  go_enter Tryd.func28, Tryd.ntmps28
  go_wp2
  simp [bodyPost, results, Tryd.results28]
  have hbut0 : But b w w := But.of (Below.refl _ _)
  refine ⟨⟨⟨.pointer (some ⟨w.heap.size, 0, none⟩), ?_, ⟨w.heap.size, .pointer p, rfl, lt, ?_, ?_, ?_, ?_⟩⟩, ?_, ?_, fun o => ?_, ?_⟩, ((hbut0.set _ _).set _ _).alloc _⟩
  · simp (maxDischargeDepth := 6) [go_sem, c0, c1, c2, ff, lt, m0, m1]
  · simp
  · simp (maxDischargeDepth := 6) [go_sem, c0, c1, c2, ff, lt, m0, m1]
  · simp (maxDischargeDepth := 6) [go_sem, c0, c1, c2, ff, lt, m0, m1]
  · exact HC.out.keep (((hbut0.set _ _).set _ _).alloc _)
  · rw [HSUM.out]
    simp (maxDischargeDepth := 6) [go_sem, c0, c1, c2, ff, lt, m0, m1]
    omega
  · simp (maxDischargeDepth := 6) [go_sem, c0, c1, c2, ff, lt, m0, m1]
  · simp (maxDischargeDepth := 6) [go_sem, c0, c1, c2, ff, lt, m0, m1]
  · simp; omega
end Go.Proofs.YtljeialaefmbmaaDoor
