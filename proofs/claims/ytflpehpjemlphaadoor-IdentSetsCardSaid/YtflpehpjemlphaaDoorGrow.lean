/- slices.Grow of strings: the shelf's contract, laid by hand. -/
import Derived.Test.YtflpehpjemlphaaDoorSetQ
import Derived.Test.YtflpehpjemlphaaDoorAbb
import Derived.Shelf.Spec.SlicesGrow
set_option linter.unusedSimpArgs false
set_option linter.unusedVariables false
namespace Go.Proofs.YtflpehpjemlphaaDoor
open Go.RowKit

def growRen : Go.Shelf.Ren := ⟨fun | 4 => 45 | n => n, fun | 0 => 0 | 3 => 3 | 4 => 4 | 9 => 9 | 20 => 20 | 22 => 22 | 25 => 9 | n => n, fun | n => n⟩
theorem laysGrow : Go.Proofs.Lays8.n4 Tryd.prog growRen := {
  mixed := by kernel_rfl
  f4 := ⟨Tryd.f45.name, by decide, Tryd.func45.trans (congrArg some (by kernel_rfl))⟩
  t0 := Tryd.underlying0
  a0 := Tryd.isAgg0
  z0 := Tryd.sizeOf0
  v0 := Tryd.zeroValue0
  t3 := Tryd.underlying3
  a3 := Tryd.isAgg3
  z3 := Tryd.sizeOf3
  v3 := Tryd.zeroValue3
  t4 := Tryd.underlying4
  a4 := Tryd.isAgg4
  z4 := Tryd.sizeOf4
  v4 := Tryd.zeroValue4
  t9 := Tryd.underlying9
  a9 := Tryd.isAgg9
  z9 := Tryd.sizeOf9
  v9 := Tryd.zeroValue9
  t20 := Tryd.underlying20
  a20 := Tryd.isAgg20
  z20 := Tryd.sizeOf20
  v20 := Tryd.zeroValue20
  t22 := Tryd.underlying22
  a22 := Tryd.isAgg22
  z22 := Tryd.sizeOf22
  v22 := Tryd.zeroValue22 }
/-- of the nil slice, for n more -/
theorem grow_none (n : Nat) (w : World) (h0 : 0 < n) (hn : n ≤ 2000000) :
    Calls Tryd.prog 45 #[.slice none 0 0, .int .i64 n] w fun e w' => ∃ G, n ≤ G ∧ G ≤ maxLen ∧
      e = .returned (.slice (some ⟨w.heap.size, 0, none⟩) 0 G) ∧ w' = w.drew.alloc (.cells (List.replicate G (Value.string ⟨#[]⟩)).toArray 9) := by
  have hi5 := infoS
  cases hi : Tryd.prog.info? 9 with
  | none => rw [hi] at hi5; simp at hi5
  | some i =>
  rw [hi] at hi5
  simp only [Option.map_some, Option.some.injEq, Prod.mk.injEq] at hi5
  obtain ⟨hz, hs, hb⟩ := hi5
  refine (Any8.slices_Grow_grow laysGrow i (.string ⟨#[]⟩) hi hz (by omega) none 0 0 n [] w (Nat.le_refl 0) (by omega) (by rw [hb]; omega) (by omega) (by simp) (fun _ => rfl) (fun a h => by cases h)).mono ?_
  rintro e w1 ⟨rfl, rfl⟩
  have hg := grownCap_ge w (0 + n) 0 (growRen.t 25)
  refine ⟨grownCap w (0 + n) 0 (growRen.t 25), by omega, grownCap_le_maxLen w (0 + n) 0 (growRen.t 25) (by unfold maxLen; omega), rfl, ?_⟩
  have e1 : (Value.string ⟨#[]⟩ : Value).cells = #[Value.string ⟨#[]⟩] := rfl
  have e2 : ∀ (k : Nat), Builtin.zeroCells (Value.string ⟨#[]⟩ : Value).cells k = (List.replicate k (Value.string ⟨#[]⟩)).toArray := by
    intro k
    apply Array.ext
    · simp [Builtin.zeroCells, e1]
    · intro j h1 h2
      simp [Builtin.zeroCells, e1, Nat.mod_one]
  rw [e2, e2]
  have e3 : ∀ (u v x : Nat), u + v = x → ([] : List Value).toArray ++ (List.replicate u (Value.string ⟨#[]⟩)).toArray ++ (List.replicate v (Value.string ⟨#[]⟩)).toArray = (List.replicate x (Value.string ⟨#[]⟩)).toArray := by
    intro u v x h
    subst h
    simp
  rw [e3 _ _ (grownCap w (0 + n) 0 (growRen.t 25)) (by omega)]
  rfl
theorem grow_zero (w : World) :
    Calls Tryd.prog 45 #[.slice none 0 0, .int .i64 0] w fun e w' => e = .returned (.slice none 0 0) ∧ w' = w :=
  Any8.slices_Grow_room laysGrow none 0 0 0 w (Nat.le_refl 0) (by omega) (by omega) (by omega)
end Go.Proofs.YtflpehpjemlphaaDoor
