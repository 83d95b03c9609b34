/- What the rows of layer 5 share: slices of integers that are arguments, opened. -/
import Derived.Test.YtogdkgcgckdehaaGreatPost
import Derived.Test.YtogdkgcgckdehaaGreatRows
import Derived.Test.YtogdkgcgckdehaaGreatRnkP
import Derived.ProofKit
import Derived.ChangeMaps5
import Derived.OpenShut
import Derived.Lib.SmallJoins
import Derived.Deep.SlicePairs
import Derived.Carry
import Derived.Deep.Matrix
set_option linter.unusedSimpArgs false
set_option linter.unusedVariables false
namespace Go.Proofs.YtogdkgcgckdehaaGreat
open Go.ChangeShapes Go.WideShapes Go.ChangeAt Go.RowKit Go.Joins Go.Deep

theorem Tryz.own : ownKnob Tryz.prog.godebug = none := by kernel_rfl
theorem bd64 {a : Int} (h : (Lit.int .i64 a).wf = true) : -9223372036854775808 ≤ a ∧ a ≤ 9223372036854775807 := bounds_i64 h
theorem addr_add {b o j : Nat} : (⟨b, o, none⟩ : Addr).add j = ⟨b, o + j, none⟩ := by unfold Addr.add; split <;> simp_all
theorem cellsI : Tryz.prog.cellsOf 3 = 1 := by kernel_rfl
theorem cellsIs : Tryz.prog.cellsOf 28 = 1 := by kernel_rfl
set_option maxRecDepth 100000 in
theorem open_intsA {H : Type} {enc : TypeId × Value → H} {W : World} {base b0 : Nat} {hd : Bool} {v : Value} {d : DataW H} {p : List MemPlace}
    (hk : Value.okWide Tryz.prog W .any base 28 v) (h : DataW.Trod enc Tryz.prog W b0 (fun _ => true) hd 28 v d p) :
    ∃ (a : Option Addr) (b off len cap : Nat) (xs : List Int), v = .slice a len cap ∧ SlI W a b off len cap xs ∧ InI xs := by
  obtain ⟨a, len, cap, rfl⟩ := okWide_slice Tryz.underlying28 hk
  obtain ⟨fuel, hf⟩ := h
  rcases open_ints Tryz.underlying28 Tryz.underlying3 cellsI hf with ⟨hc, _⟩ | ⟨a', len', cap', zs, hc, _, hl, hm, hz, _, hall, hwf⟩
  · have hc' : (Value.slice a len cap) = .slice none 0 0 := by simpa [Value.cells] using hc
    simp only [Value.slice.injEq] at hc'
    obtain ⟨rfl, rfl, rfl⟩ := hc'
    exact ⟨none, 0, 0, 0, 0, [], rfl, slg_nil _ _, fun x hx => absurd hx (by simp)⟩
  · have hc' : (Value.slice a len cap) = .slice (some a') len' cap' := by simpa [Value.cells] using hc
    simp only [Value.slice.injEq] at hc'
    obtain ⟨rfl, rfl, rfl⟩ := hc'
    simp only [if_true] at hz
    have hspot : 0 < len → a' = ⟨a'.block, a'.off, none⟩ := fun h0 => by
      have hs := World.cell?_spot (hall 0 (by omega))
      obtain ⟨b, o, s⟩ := a'
      have hs : s = none := hs
      subst hs
      rfl
    refine ⟨some a', a'.block, a'.off, len, cap, zs.take len, rfl, ⟨by simp; omega, fun h0 => congrArg some (hspot h0), fun h0 => ?_, hl, hm, fun k hk => ?_⟩, fun x hx => bd64 (hwf x (List.mem_of_mem_take hx))⟩
    · have h1 := World.block_lt_of_cell? W _ (hall 0 (by omega))
      rw [hspot h0, addr_add] at h1
      exact h1
    · have hk' : k < len := by simp at hk; omega
      have h1 := hall k (by omega)
      rw [hspot (by omega), addr_add] at h1
      rw [h1]
      simp [List.getD, show k < zs.length by omega]
end Go.Proofs.YtogdkgcgckdehaaGreat
