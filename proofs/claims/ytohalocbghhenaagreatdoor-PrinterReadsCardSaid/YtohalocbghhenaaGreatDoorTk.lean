/- Tokens and faults in blocks of the call's own. -/
import Derived.Test.YtohalocbghhenaaGreatDoorTit
set_option linter.unusedSimpArgs false
set_option linter.unusedVariables false
namespace Go.Proofs.YtohalocbghhenaaGreatDoor
open Go.RowKit

/-- a token in a block -/
structure TkAt (w : World) (b : Nat) (t : Tk) : Prop where
  c0 : w.cell? ⟨b, 0, none⟩ = some (.int .i64 t.k)
  c1 : w.cell? ⟨b, 1, none⟩ = some (.string t.t)
  c2 : w.cell? ⟨b, 2, none⟩ = some (.int .i64 t.n)
  c3 : w.cell? ⟨b, 3, none⟩ = some (.int .i64 t.a)
  f : ∀ k, w.frozen? ⟨b, k, none⟩ = false
  lt : b < w.heap.size
theorem TkAt.low {B : Nat} {W w1 : World} {b : Nat} {t : Tk} (h : TkAt W b t) (hb : Below B W w1) (hB : b < B) : TkAt w1 b t :=
  ⟨(hb.cell (p := ⟨b, 0, none⟩) hB).trans h.c0, (hb.cell (p := ⟨b, 1, none⟩) hB).trans h.c1, (hb.cell (p := ⟨b, 2, none⟩) hB).trans h.c2, (hb.cell (p := ⟨b, 3, none⟩) hB).trans h.c3, fun k => (hb.frozen (p := ⟨b, k, none⟩) hB).trans (h.f k), Nat.lt_of_lt_of_le h.lt hb.size⟩
theorem TkAt.keep {W w1 : World} {b : Nat} {t : Tk} (h : TkAt W b t) (hb : Below W.heap.size W w1) : TkAt w1 b t := h.low hb h.lt
theorem TkAt.other {w : World} {b : Nat} {t : Tk} (h : TkAt w b t) (a : Addr) (ha : a.block ≠ b) (v : Value) : TkAt (w.setCell a v) b t := by
  have o : ∀ k, (w.setCell a v).cell? ⟨b, k, none⟩ = w.cell? ⟨b, k, none⟩ := fun k => World.cell?_setCell_other w a ⟨b, k, none⟩ v (by intro e; apply ha; rw [e])
  exact ⟨(o 0).trans h.c0, (o 1).trans h.c1, (o 2).trans h.c2, (o 3).trans h.c3, fun k => by rw [World.frozen?_setCell]; exact h.f k, by simp; exact h.lt⟩
theorem tk_new (w : World) (t : Tk) (T : TypeId) : TkAt (w.alloc (.cells #[.int .i64 t.k, .string t.t, .int .i64 t.n, .int .i64 t.a] T)) w.heap.size t := by
  refine ⟨?_, ?_, ?_, ?_, fun k => ?_, ?_⟩
  all_goals simp [go_sem]
/-- a fault in a block -/
structure FtAt (w : World) (b : Nat) (c a : Int) : Prop where
  c0 : w.cell? ⟨b, 0, none⟩ = some (.int .i64 c)
  c1 : w.cell? ⟨b, 1, none⟩ = some (.int .i64 a)
  f : ∀ k, w.frozen? ⟨b, k, none⟩ = false
  lt : b < w.heap.size
theorem FtAt.low {B : Nat} {W w1 : World} {b : Nat} {c a : Int} (h : FtAt W b c a) (hb : Below B W w1) (hB : b < B) : FtAt w1 b c a :=
  ⟨(hb.cell (p := ⟨b, 0, none⟩) hB).trans h.c0, (hb.cell (p := ⟨b, 1, none⟩) hB).trans h.c1, fun k => (hb.frozen (p := ⟨b, k, none⟩) hB).trans (h.f k), Nat.lt_of_lt_of_le h.lt hb.size⟩
theorem FtAt.keep {W w1 : World} {b : Nat} {c a : Int} (h : FtAt W b c a) (hb : Below W.heap.size W w1) : FtAt w1 b c a := h.low hb h.lt
theorem FtAt.other {w : World} {b : Nat} {c a : Int} (h : FtAt w b c a) (p : Addr) (ha : p.block ≠ b) (v : Value) : FtAt (w.setCell p v) b c a := by
  have o : ∀ k, (w.setCell p v).cell? ⟨b, k, none⟩ = w.cell? ⟨b, k, none⟩ := fun k => World.cell?_setCell_other w p ⟨b, k, none⟩ v (by intro e; apply ha; rw [e])
  exact ⟨(o 0).trans h.c0, (o 1).trans h.c1, fun k => by rw [World.frozen?_setCell]; exact h.f k, by simp; exact h.lt⟩
theorem ft_new (w : World) (c a : Int) (T : TypeId) : FtAt (w.alloc (.cells #[.int .i64 c, .int .i64 a] T)) w.heap.size c a := by
  refine ⟨?_, ?_, fun k => ?_, ?_⟩
  all_goals simp [go_sem]
def fV (c a : Int) : Value := .agg #[.int .i64 c, .int .i64 a]
end Go.Proofs.YtohalocbghhenaaGreatDoor
