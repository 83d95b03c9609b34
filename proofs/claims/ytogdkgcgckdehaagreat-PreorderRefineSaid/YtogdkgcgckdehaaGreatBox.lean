/- Boxes of variables: new blocks of one cell. -/
import Derived.Test.YtogdkgcgckdehaaGreatSli
set_option linter.unusedSimpArgs false
set_option linter.unusedVariables false
namespace Go.Proofs.YtogdkgcgckdehaaGreat
open Go.RowKit Go.Sort

def box1 (w : World) (v : Value) (t : TypeId) : World := w.alloc (.cells #[v] t)
theorem box1_grw (w : World) (v : Value) (t : TypeId) : Grw w (box1 w v t) := (Grw.refl w).alloc _
theorem box1_size (w : World) (v : Value) (t : TypeId) : (box1 w v t).heap.size = w.heap.size + 1 := by simp [box1]
theorem box1_cell (w : World) (v : Value) (t : TypeId) : (box1 w v t).cell? ⟨w.heap.size, 0, none⟩ = some v := by
  unfold box1 World.cell?
  rw [heap_alloc_new]
  rfl
def box2 (w : World) (v : Value) (t : TypeId) (u : Value) (s : TypeId) : World := (w.alloc (.cells #[v] t)).alloc (.cells #[u] s)
theorem box2_grw (w : World) (v : Value) (t : TypeId) (u : Value) (s : TypeId) : Grw w (box2 w v t u s) := ((Grw.refl w).alloc _).alloc _
theorem box2_size (w : World) (v : Value) (t : TypeId) (u : Value) (s : TypeId) : (box2 w v t u s).heap.size = w.heap.size + 2 := by simp [box2]
theorem box2_fst (w : World) (v : Value) (t : TypeId) (u : Value) (s : TypeId) : (box2 w v t u s).cell? ⟨w.heap.size, 0, none⟩ = some v := by
  have h := (Grw.refl (box1 w v t)).alloc (.cells #[u] s)
  exact (h.cell (by rw [box1_size]; omega)).trans (box1_cell w v t)
theorem box2_snd (w : World) (v : Value) (t : TypeId) (u : Value) (s : TypeId) : (box2 w v t u s).cell? ⟨w.heap.size + 1, 0, none⟩ = some u := by
  have := box1_cell (box1 w v t) u s
  rw [box1_size] at this
  exact this
theorem grw_blk {w w' : World} (h : Grw w w') {b : Nat} (hb : b < w.heap.size) : b < w'.heap.size := Nat.lt_of_lt_of_le hb h.size
end Go.Proofs.YtogdkgcgckdehaaGreat
