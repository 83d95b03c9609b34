/- A slice of strings that is an argument: opened. -/
import Derived.Test.YtflpehpjemlphaaDoorRowK
import Derived.Test.YtflpehpjemlphaaDoorSls
import Derived.Deep.Strs
set_option linter.unusedSimpArgs false
set_option linter.unusedVariables false
namespace Go.Proofs.YtflpehpjemlphaaDoor
open Go.ChangeShapes Go.WideShapes Go.ChangeAt Go.RowKit Go.Deep

theorem cellsS : Tryd.prog.cellsOf 9 = 1 := by kernel_rfl
set_option maxRecDepth 100000 in
theorem open_strsA {H : Type} {enc : TypeId × Value → H} {W : World} {base b0 : Nat} {sp : Nat → Bool} {hd : Bool} {v : Value} {d : DataW H} {p : List MemPlace}
    (hk : Value.okWide Tryd.prog W .any base 22 v) (h : DataW.Trod enc Tryd.prog W b0 sp hd 22 v d p) :
    ∃ (a : Option Addr) (b off len cap : Nat) (xs : List ByteArray), v = .slice a len cap ∧ SlS W a b off len cap xs := by
  obtain ⟨a, len, cap, rfl⟩ := okWide_slice Tryd.underlying22 hk
  obtain ⟨fuel, hf⟩ := h
  rcases open_strs Tryd.underlying22 Tryd.underlying9 cellsS hf with ⟨hc, _⟩ | ⟨a', len', cap', m, Sx, hc, _, hl, hm, hmm, _, hall⟩
  · have hc' : (Value.slice a len cap) = .slice none 0 0 := by simpa [Value.cells] using hc
    simp only [Value.slice.injEq] at hc'
    obtain ⟨rfl, rfl, rfl⟩ := hc'
    exact ⟨none, 0, 0, 0, 0, [], rfl, rfl, fun h => absurd h (by omega), fun h => absurd h (by omega), Nat.le_refl _, Nat.zero_le _, fun k hk => absurd hk (by simp)⟩
  · have hc' : (Value.slice a len cap) = .slice (some a') len' cap' := by simpa [Value.cells] using hc
    simp only [Value.slice.injEq] at hc'
    obtain ⟨rfl, rfl, rfl⟩ := hc'
    have hlm : len ≤ m := by rw [hmm]; split <;> omega
    have hspot : 0 < len → a' = ⟨a'.block, a'.off, none⟩ := fun h0 => by
      have hs := World.cell?_spot (hall 0 (by omega)).1
      obtain ⟨b, o, s⟩ := a'
      have hs : s = none := hs
      subst hs
      rfl
    refine ⟨some a', a'.block, a'.off, len, cap, (List.range len).map Sx, rfl, by simp, fun h0 => congrArg some (hspot h0), fun h0 => ?_, hl, hm, fun k hk => ?_⟩
    · have h1 := World.block_lt_of_cell? W _ (hall 0 (by omega)).1
      rw [hspot h0, addr_add] at h1
      exact h1
    · have hk' : k < len := by simpa using hk
      have h1 := (hall k (by omega)).1
      rw [hspot (by omega), addr_add] at h1
      rw [h1]
      simp
end Go.Proofs.YtflpehpjemlphaaDoor
