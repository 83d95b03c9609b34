/- Literals: new blocks of numbers, of slices. -/
import Derived.Test.YtogdkgcgckdehaaGreatEgs
set_option linter.unusedSimpArgs false
set_option linter.unusedVariables false
namespace Go.Proofs.YtogdkgcgckdehaaGreat
open Go.RowKit Go.Sort

theorem new_sl {α : Type} {enc : α → Value} (w : World) (L : List α) (t : TypeId) (n : Nat) (hn : L.length = n) (hm : n ≤ maxLen) (cs : Array Value) (hc : cs = (L.map enc).toArray) : SlG enc (w.alloc (.cells cs t)) (some ⟨w.heap.size, 0, none⟩) w.heap.size 0 n n L := by
  subst hc
  refine ⟨hn, fun _ => rfl, fun _ => by simp, Nat.le_refl _, hm, fun k hk => ?_⟩
  unfold World.cell?
  rw [heap_alloc_new]
  simp [hk]
theorem new_bel (w : World) (o : Obj) : Below w.heap.size w (w.alloc o) := (Below.refl _ _).alloc (Nat.le_refl _) _
/-- a row of the law, as it lies -/
theorem row_ok {w : World} {base g cap : Nat} {x y : Int} (h : w.ownsRow base 37 2 (.slice (some ⟨g, 0, none⟩) 2 cap) 2 (flatP [(x, 1), (y, 1)])) (hx : -1000000 ≤ x ∧ x ≤ 1000000) (hy : -1000000 ≤ y ∧ y ≤ 1000000) :
    Rw.ok w ⟨some ⟨g, 0, none⟩, g, 0, cap, [(x, 1), (y, 1)]⟩ := by
  have hg := (h.lt g rfl).2
  have hcap : 2 ≤ cap ∧ cap ≤ maxLen := by
    rcases h.2 with ⟨h', _⟩ | ⟨g', cap', cur, h', _, _, h1, h2, _⟩
    · cases h'
    · cases h'; exact ⟨h1, h2⟩
  refine ⟨⟨rfl, fun _ => rfl, fun _ => hg, hcap.1, hcap.2, fun k hk => ?_, fun p hp => ?_⟩, fun h => by cases h⟩
  · match k, hk with
    | 0, _ => exact ⟨by rw [h.cellAt 0 (by omega)]; rfl, by rw [h.cellAt 1 (by omega)]; rfl⟩
    | 1, _ => exact ⟨by rw [h.cellAt 2 (by omega)]; rfl, by rw [h.cellAt 3 (by omega)]; rfl⟩
  · simp only [List.mem_cons, List.not_mem_nil, or_false] at hp
    rcases hp with rfl | rfl <;> (unfold Wf64; simp only; omega)
theorem three {G : List Gr} {a b c : List Nat} (h : G.map Gr.L = [a, b, c]) : ∃ x y z, G = [x, y, z] ∧ x.L = a ∧ y.L = b ∧ z.L = c := by
  match G, h with
  | [x, y, z], h => simp only [List.map_cons, List.map_nil, List.cons.injEq, and_true] at h; exact ⟨x, y, z, rfl, h.1, h.2.1, h.2.2⟩
/-- a group of the call's own, read -/
theorem gr_sl {B : Nat} {w : World} {v : Value} {G : List Gr} (h : GrOk B w v G) {x : Gr} (hx : x ∈ G) : SlI w (some ⟨x.g, 0, none⟩) x.g 0 x.L.length x.cap (natL x.L) := by
  obtain ⟨a, b, cap, e, hs, _, _⟩ := own_sl (enc := Value.int .i64) (natL_len x.L) (h.each x hx)
  unfold Gr.val at e
  simp only [Value.slice.injEq, true_and] at e
  obtain ⟨e1, e2⟩ := e
  subst e1 e2
  by_cases h0 : 0 < x.L.length
  · have := hs.ha h0
    simp only [Option.some.injEq, Addr.mk.injEq, and_true] at this
    subst this
    exact hs
  · have e0 : x.L.length = 0 := by omega
    exact ⟨natL_len _, fun _ => rfl, fun h1 => by omega, hs.hcap, hs.hmax, fun k hk => by rw [natL_len] at hk; omega⟩
end Go.Proofs.YtogdkgcgckdehaaGreat
