/- A slice of strings that is an argument: opened; a nil one has no capacity. -/
import Derived.Test.YtflpehpjemlphaaDoorRowL
set_option linter.unusedSimpArgs false
set_option linter.unusedVariables false
namespace Go.Proofs.YtflpehpjemlphaaDoor
open Go.ChangeShapes Go.WideShapes Go.ChangeAt Go.RowKit Go.Deep

set_option maxRecDepth 100000 in
theorem open_strsN {H : Type} {enc : TypeId × Value → H} {W : World} {base b0 : Nat} {sp : Nat → Bool} {hd : Bool} {v : Value} {d : DataW H} {p : List MemPlace}
    (hk : Value.okWide Tryd.prog W .any base 22 v) (h : DataW.Trod enc Tryd.prog W b0 sp hd 22 v d p) :
    ∃ (a : Option Addr) (b off len cap : Nat) (xs : List ByteArray), v = .slice a len cap ∧ SlS W a b off len cap xs ∧ (a = none → cap = 0) := by
  obtain ⟨a, b, off, len, cap, xs, rfl, hs⟩ := open_strsA hk h
  refine ⟨a, b, off, len, cap, xs, rfl, hs, ?_⟩
  intro ha
  obtain ⟨fuel, hf⟩ := h
  rcases open_strs Tryd.underlying22 Tryd.underlying9 cellsS hf with ⟨hc, _⟩ | ⟨a', len', cap', m, Sx, hc, _⟩
  · have hc' : (Value.slice a len cap) = .slice none 0 0 := by simpa [Value.cells] using hc
    simp only [Value.slice.injEq] at hc'
    exact hc'.2.2
  · have hc' : (Value.slice a len cap) = .slice (some a') len' cap' := by simpa [Value.cells] using hc
    simp only [Value.slice.injEq] at hc'
    rw [hc'.1] at ha
    cases ha
end Go.Proofs.YtflpehpjemlphaaDoor
