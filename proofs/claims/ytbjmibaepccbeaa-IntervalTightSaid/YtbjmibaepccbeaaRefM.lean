/- Plain arithmetic of a long division, bit by bit. -/
import Derived.Test.YtbjmibaepccbeaaRef
set_option linter.unusedSimpArgs false
set_option linter.unusedVariables false
namespace Go.Proofs.Ytbjmibaepccbeaa
namespace Ld

/-- a round of the long division -/
theorem step (P bit b : Int) (hb : 0 < b) (h0 : 0 ≤ bit) (h1 : bit ≤ 1) :
    (P % b * 2 + bit < b → (P * 2 + bit) / b = P / b * 2 ∧ (P * 2 + bit) % b = P % b * 2 + bit) ∧
    (¬ P % b * 2 + bit < b → (P * 2 + bit) / b = P / b * 2 + 1 ∧ (P * 2 + bit) % b = P % b * 2 + bit - b) := by
  have e := Int.emod_add_mul_ediv P b
  have m0 := Int.emod_nonneg P (show b ≠ 0 by omega)
  have m1 := Int.emod_lt_of_pos P hb
  have key : ∀ q r : Int, P * 2 + bit = r + b * q → 0 ≤ r → r < b → (P * 2 + bit) / b = q ∧ (P * 2 + bit) % b = r := by
    intro q r h hr hr'
    rw [h]
    exact ⟨by rw [Int.add_mul_ediv_left _ _ (by omega), Int.ediv_eq_zero_of_lt hr hr']; omega, by rw [Int.add_mul_emod_self_left, Int.emod_eq_of_lt hr hr']⟩
  constructor
  · intro h
    exact key _ _ (by rw [← Int.mul_assoc]; omega) (by omega) h
  · intro h
    exact key _ _ (by rw [Int.mul_add, ← Int.mul_assoc]; omega) (by omega) (by omega)

/-- the bit number i of a number of two words -/
theorem bit_lo (ah al : Int) (i : Nat) (hi : i < 64) : (ah * 18446744073709551616 + al) / 2 ^ i = (ah * 18446744073709551616 + al) / 2 ^ (i + 1) * 2 + al / 2 ^ i % 2 := by
  have hp : (0 : Int) < 2 ^ i := Int.pow_pos (by decide)
  have e1 : (ah * 18446744073709551616 + al) / 2 ^ i = ah * 2 ^ (64 - i) + al / 2 ^ i := by
    rw [show (18446744073709551616 : Int) = 2 ^ (64 - i) * 2 ^ i from by rw [← Int.pow_add, show 64 - i + i = 64 from by omega]; rfl, ← Int.mul_assoc, Int.add_comm, Int.add_mul_ediv_right _ _ (by omega), Int.add_comm]
  have e2 : (2 : Int) ^ (64 - i) = 2 ^ (63 - i) * 2 := by rw [show 64 - i = (63 - i) + 1 from by omega, Int.pow_succ]
  rw [Int.pow_succ, ← Int.ediv_ediv_of_nonneg (by omega), e1, e2, ← Int.mul_assoc]
  omega
theorem bit_hi (ah al : Int) (i : Nat) (h0 : 0 ≤ al) (h1 : al ≤ 18446744073709551615) (hi : 64 ≤ i) : (ah * 18446744073709551616 + al) / 2 ^ i = (ah * 18446744073709551616 + al) / 2 ^ (i + 1) * 2 + ah / 2 ^ (i - 64) % 2 := by
  have e : ∀ j : Nat, 64 ≤ j → (ah * 18446744073709551616 + al) / 2 ^ j = ah / 2 ^ (j - 64) := by
    intro j hj
    rw [show (2 : Int) ^ j = 18446744073709551616 * 2 ^ (j - 64) from by rw [show (18446744073709551616 : Int) = 2 ^ 64 from rfl, ← Int.pow_add, show 64 + (j - 64) = j from by omega], ← Int.ediv_ediv_of_nonneg (by omega)]
    congr 1
    omega
  rw [e i hi, e (i + 1) (by omega), show i + 1 - 64 = i - 64 + 1 from by omega, Int.pow_succ, ← Int.ediv_ediv_of_nonneg (by have : (0 : Int) < 2 ^ (i - 64) := Int.pow_pos (by decide); omega)]
  omega
end Ld
end Go.Proofs.Ytbjmibaepccbeaa
