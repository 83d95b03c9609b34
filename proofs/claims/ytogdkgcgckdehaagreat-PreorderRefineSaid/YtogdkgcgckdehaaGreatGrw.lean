/- A world that has only gone on: new blocks behind those that were there, and draws. -/
import Derived.Below
import Derived.Lib.QuietBelow
import Derived.Shelf.SlSortCmp.QuietGrown
set_option linter.unusedSimpArgs false
set_option linter.unusedVariables false
namespace Go.Proofs.YtogdkgcgckdehaaGreat
open Go.RowKit Go.Sort

structure Grw (w w' : World) : Prop where
  below : Below w.heap.size w w'
  drawn : w.drawn ≤ w'.drawn
theorem Grw.refl (w : World) : Grw w w := ⟨Below.refl _ _, Nat.le_refl _⟩
theorem Grw.trans {a b c : World} (h : Grw a b) (k : Grw b c) : Grw a c := ⟨h.below.trans (k.below.mono h.below.size), Nat.le_trans h.drawn k.drawn⟩
theorem Grw.alloc {a w : World} (h : Grw a w) (o : Obj) : Grw a (w.alloc o) := ⟨h.below.alloc h.below.size o, h.drawn⟩
theorem Grw.setCell {a w : World} (h : Grw a w) {p : Addr} (hp : a.heap.size ≤ p.block) (u : Value) : Grw a (w.setCell p u) := ⟨h.below.setCell hp u, h.drawn⟩
theorem Grw.drew {a w : World} (h : Grw a w) : Grw a w.drew := ⟨h.below.drew, Nat.le_succ_of_le h.drawn⟩
theorem Grw.drewN {a w : World} (h : Grw a w) (n : Nat) : Grw a (w.drewN n) := ⟨⟨h.below.os, h.below.tape, h.below.output, h.below.size, h.below.block⟩, Nat.le_trans h.drawn (Nat.le_add_right _ _)⟩
theorem Grw.grow {a w : World} (h : Grw a w) (os : Array Obj) : Grw a (grow w os) := by
  refine ⟨⟨h.below.os, h.below.tape, h.below.output, ?_, fun k hk => ?_⟩, h.drawn⟩
  · rw [size_grow]; exact Nat.le_trans h.below.size (Nat.le_add_right _ _)
  · rw [heap_grow_old _ _ (Nat.lt_of_lt_of_le hk h.below.size)]; exact h.below.block k hk
theorem Grw.size {a w : World} (h : Grw a w) : a.heap.size ≤ w.heap.size := h.below.size
theorem Grw.form {w w' : World} (h : Grw w w') : ∃ q os, w' = Sort.grow (w.drewN q) os := by
  obtain ⟨⟨d, os⟩, hp⟩ := regrown_of_below h.below
  have hd : w'.drawn = d := by rw [hp]; rfl
  refine ⟨d - w.drawn, os, ?_⟩
  rw [hp]
  have h2 := h.drawn
  rw [hd] at h2
  unfold redrawn World.drewN
  rw [Nat.add_sub_cancel' h2]
theorem grw_form (w : World) (q : Nat) (os : Array Obj) : Grw w (Sort.grow (w.drewN q) os) := ((Grw.refl w).drewN q).grow os
/-- a callee that has only gone on, in a region that draws its order -/
theorem quietG {P : Program} {f : FuncId} {args : Array Value} {w : World} {n : Nat} {os : Array Obj} {v : Value}
    (h : Calls P f args (Sort.grow (w.drewN n) os) fun e w' => e = .returned v ∧ Grw (Sort.grow (w.drewN n) os) w') : Calls P f args (Sort.grow (w.drewN n) os) fun e w'' => e = .returned v ∧ ∃ p : GrownBy, w'' = Sort.grow (w.drewN p.n) p.os :=
  Calls.grown_of (h.mono fun _ _ ⟨he, hg⟩ => ⟨he, hg.form⟩)
theorem grw_draws {P : Program} {f : FuncId} {args : Array Value} {w : World} {v : Value} (h : Calls P f args w fun e w' => e = .returned v ∧ ∃ n, w' = w.drewN n) : Calls P f args w fun e w' => e = .returned v ∧ Grw w w' :=
  h.mono fun _ _ ⟨he, n, hn⟩ => ⟨he, by rw [hn]; exact (Grw.refl w).drewN n⟩
theorem grw_same {P : Program} {f : FuncId} {args : Array Value} {w : World} {v : Value} (h : Calls P f args w fun e w' => e = .returned v ∧ w = w') : Calls P f args w fun e w' => e = .returned v ∧ Grw w w' :=
  h.mono fun _ _ ⟨he, hn⟩ => ⟨he, by rw [← hn]; exact Grw.refl w⟩
/-- an old cell, where the world has only gone on -/
theorem Grw.cell {w w' : World} (h : Grw w w') {b o : Nat} (hb : b < w.heap.size) : w'.cell? ⟨b, o, none⟩ = w.cell? ⟨b, o, none⟩ := h.below.cell (p := ⟨b, o, none⟩) hb
end Go.Proofs.YtogdkgcgckdehaaGreat
