/- Plain arithmetic of the division of a number of two words by one word, digit by digit. -/
set_option linter.unusedSimpArgs false
set_option linter.unusedVariables false
namespace Go.Proofs.Ytbjmibaepccbeaa
namespace Dv

/-- one digit: what holds at each round's head -/
structure Dig (u v y yn1 yn0 q r : Int) : Prop where
  hy : y = yn1 * 4294967296 + yn0
  a0 : 2147483648 ≤ yn1
  a1 : yn1 ≤ 4294967295
  b0 : 0 ≤ yn0
  b1 : yn0 ≤ 4294967295
  u0 : 0 ≤ u
  u1 : u < y
  v0 : 0 ≤ v
  v1 : v ≤ 4294967295
  q0 : 0 ≤ q
  r0 : 0 ≤ r
  e : q * yn1 + r = u
  ge : (u * 4294967296 + v) / y ≤ q

theorem Dig.ypos {u v y yn1 yn0 q r : Int} (h : Dig u v y yn1 yn0 q r) : 0 < y := by
  have := h.hy; have := h.a0; have := h.b0; omega

theorem Dig.q33 {u v y yn1 yn0 q r : Int} (h : Dig u v y yn1 yn0 q r) : q ≤ 8589934592 := by
  have h1 : q * 2147483648 ≤ q * yn1 := Int.mul_le_mul_of_nonneg_left h.a0 h.q0
  have := h.e; have := h.r0; have := h.u1; have := h.hy; have := h.a1; have := h.b1
  omega

/-- q * y in terms of the digits -/
theorem Dig.qy {u v y yn1 yn0 q r : Int} (h : Dig u v y yn1 yn0 q r) : q * y = (u - r) * 4294967296 + q * yn0 := by
  rw [h.hy, Int.mul_add, ← Int.mul_assoc, show q * yn1 = u - r from by have := h.e; omega]

theorem Dig.qyn0 {u v y yn1 yn0 q r : Int} (h : Dig u v y yn1 yn0 q r) (hq : q < 4294967296) : 0 ≤ q * yn0 ∧ q * yn0 ≤ 18446744065119617025 := by
  have h1 : q * yn0 ≤ q * 4294967295 := Int.mul_le_mul_of_nonneg_left h.b1 h.q0
  exact ⟨Int.mul_nonneg h.q0 h.b0, by omega⟩

/-- the digit is right where the test fails -/
theorem Dig.done {u v y yn1 yn0 q r : Int} (h : Dig u v y yn1 yn0 q r) (hc : q * yn0 ≤ 4294967296 * r + v) : (u * 4294967296 + v) / y = q := by
  have h1 : q * y ≤ u * 4294967296 + v := by rw [h.qy]; omega
  have h2 : q ≤ (u * 4294967296 + v) / y := (Int.le_ediv_iff_mul_le h.ypos).2 h1
  have := h.ge
  omega

theorem Dig.lt32 {u v y yn1 yn0 q r : Int} (h : Dig u v y yn1 yn0 q r) : (u * 4294967296 + v) / y < 4294967296 := by
  apply Int.ediv_lt_of_lt_mul h.ypos
  have := h.u1; have := h.v1; have := h.ypos
  omega

/-- the round lowers the digit -/
theorem Dig.step {u v y yn1 yn0 q r : Int} (h : Dig u v y yn1 yn0 q r) (hc : 4294967296 ≤ q ∨ 4294967296 * r + v < q * yn0) : Dig u v y yn1 yn0 (q - 1) (r + yn1) := by
  have hg : (u * 4294967296 + v) / y ≤ q - 1 := by
    rcases hc with hc | hc
    · have := h.lt32; omega
    · have h1 : u * 4294967296 + v < q * y := by rw [h.qy]; omega
      have := Int.ediv_lt_of_lt_mul h.ypos h1
      omega
  have h0 : 0 ≤ (u * 4294967296 + v) / y := Int.ediv_nonneg (by have := h.u0; have := h.v0; omega) (Int.le_of_lt h.ypos)
  exact { h with q0 := by omega, r0 := by have := h.r0; have := h.a0; omega, e := by rw [Int.sub_mul]; have := h.e; omega, ge := hg }

/-- the digit is right where the rest has outgrown half a word -/
theorem Dig.outgrown {u v y yn1 yn0 q r : Int} (h : Dig u v y yn1 yn0 q r) (hr : 4294967296 ≤ r) : (u * 4294967296 + v) / y = q := by
  have hq : q < 4294967296 := by
    have h1 : q * yn1 < 4294967296 * yn1 := by
      have := h.e; have := h.u1; have := h.hy; have := h.b1
      omega
    exact Int.lt_of_mul_lt_mul_right h1 (by have := h.a0; omega)
  have := h.qyn0 hq
  have := h.v0
  exact h.done (by omega)

/-- the first guess -/
theorem Dig.start {u v y yn1 yn0 : Int} (hy : y = yn1 * 4294967296 + yn0) (a0 : 2147483648 ≤ yn1) (a1 : yn1 ≤ 4294967295) (b0 : 0 ≤ yn0) (b1 : yn0 ≤ 4294967295) (u0 : 0 ≤ u) (u1 : u < y) (v0 : 0 ≤ v) (v1 : v ≤ 4294967295) :
    Dig u v y yn1 yn0 (u / yn1) (u % yn1) where
  hy := hy
  a0 := a0
  a1 := a1
  b0 := b0
  b1 := b1
  u0 := u0
  u1 := u1
  v0 := v0
  v1 := v1
  q0 := Int.ediv_nonneg u0 (by omega)
  r0 := Int.emod_nonneg _ (by omega)
  e := by rw [Int.mul_comm]; have := Int.emod_add_mul_ediv u yn1; omega
  ge := by
    have hp : 0 < y := by omega
    have h1 : u * 4294967296 + v < (u / yn1 + 1) * y := by
      have e := Int.emod_add_mul_ediv u yn1
      have m := Int.emod_lt_of_pos u (show 0 < yn1 by omega)
      have h2 : u + 1 ≤ (u / yn1 + 1) * yn1 := by rw [Int.add_mul, Int.mul_comm]; omega
      have h3 : (u / yn1 + 1) * y = (u / yn1 + 1) * yn1 * 4294967296 + (u / yn1 + 1) * yn0 := by rw [hy, Int.mul_add, ← Int.mul_assoc]
      have h4 : 0 ≤ (u / yn1 + 1) * yn0 := Int.mul_nonneg (by have := Int.ediv_nonneg u0 (show (0:Int) ≤ yn1 by omega); omega) b0
      omega
    have := Int.ediv_lt_of_lt_mul hp h1
    omega

/-- two digits make the quotient -/
theorem two (un v1 v0 y q1 r1 q0 r0 : Int) (hy : 0 < y) (h1 : q1 = (un * 4294967296 + v1) / y) (e1 : r1 = un * 4294967296 + v1 - q1 * y) (h0 : q0 = (r1 * 4294967296 + v0) / y) (e0 : r0 = r1 * 4294967296 + v0 - q0 * y) :
    (un * 18446744073709551616 + (v1 * 4294967296 + v0)) / y = q1 * 4294967296 + q0 ∧ (un * 18446744073709551616 + (v1 * 4294967296 + v0)) % y = r0 := by
  have hr : r0 = (r1 * 4294967296 + v0) % y := by
    rw [e0, h0, Int.emod_def, Int.mul_comm y]
  have e : un * 18446744073709551616 + (v1 * 4294967296 + v0) = r0 + y * (q1 * 4294967296 + q0) := by
    have : y * (q1 * 4294967296 + q0) = q1 * y * 4294967296 + q0 * y := by rw [Int.mul_add, ← Int.mul_assoc, Int.mul_comm y q1, Int.mul_comm y q0]
    rw [this]; omega
  have m0 : 0 ≤ r0 := by rw [hr]; exact Int.emod_nonneg _ (by omega)
  have m1 : r0 < y := by rw [hr]; exact Int.emod_lt_of_pos _ hy
  constructor
  · rw [e, Int.add_mul_ediv_left _ _ (by omega), Int.ediv_eq_zero_of_lt m0 m1]; omega
  · rw [e, Int.add_mul_emod_self_left, Int.emod_eq_of_lt m0 m1]
end Dv
end Go.Proofs.Ytbjmibaepccbeaa
