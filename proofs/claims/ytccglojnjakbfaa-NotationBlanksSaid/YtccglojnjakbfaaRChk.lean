/- Contracts of layer 4: the reference's checks. -/
import Derived.Test.YtccglojnjakbfaaChk
set_option linter.unusedSimpArgs false
set_option linter.unusedVariables false
namespace Go.Proofs.Ytccglojnjakbfaa
open Go.RowKit

theorem within_is3 (c : UInt8) (lo hi : Int) (w : World) (b : Bool) (h : inB lo hi c = b) : Calls Try.prog 51 #[.int .u8 (c.toNat : Int), .int .u8 lo, .int .u8 hi] w fun e w' => e = .returned (.bool b) ∧ w = w' := within_is c lo hi w b h
theorem all3 {p : UInt8 → Bool} {s : ByteArray} (h : s.size = 3) : allB p s = (p (s[0]'(by omega)) && (p (s[1]'(by omega)) && p (s[2]'(by omega)))) := by
  rw [Bool.eq_iff_iff, allB_iff]
  simp only [Bool.and_eq_true]
  constructor
  · intro hp
    exact ⟨hp 0 (by omega), hp 1 (by omega), hp 2 (by omega)⟩
  · rintro ⟨h0, h1, h2⟩ k hk
    obtain rfl | rfl | rfl : k = 0 ∨ k = 1 ∨ k = 2 := by omega
    · exact h0
    · exact h1
    · exact h2
end Go.Proofs.Ytccglojnjakbfaa
