/- math/bits.Div64: the shift that brings the divisor to the top, and the whole contract. -/
import Derived.Test.YtbjmibaepccbeaaDiv
import Derived.Lib.ItoaNum
set_option linter.unusedSimpArgs false
set_option linter.unusedVariables false
namespace Go.Proofs.Ytbjmibaepccbeaa
open Go.RowKit

/-- what the shift makes of both numbers: plain arithmetic; p and m are the two powers of two -/
theorem shift_math (hi lo y p m : Int) (hp : 0 < p) (hm : 0 < m) (hpm : p * m = 18446744073709551616) (h0 : 0 < hi) (h0' : hi < y) (h1 : 0 ≤ lo) (h1' : lo ≤ 18446744073709551615) (hY : y * p ≤ 18446744073709551615) :
    lo / m < p ∧ 0 ≤ lo / m ∧ hi * p + lo / m < y * p ∧ hi * p ≤ 18446744073709551615 ∧ 0 ≤ hi * p ∧
      (hi * p + lo / m) * 18446744073709551616 + (lo * p) % 18446744073709551616 = valW hi lo * p := by
  have a1 : lo / m < p := Int.ediv_lt_of_lt_mul hm (by rw [hpm]; omega)
  have a0 : 0 ≤ lo / m := Int.ediv_nonneg h1 (by omega)
  have b0 : 0 ≤ hi * p := Int.mul_nonneg (by omega) (by omega)
  have b1 : hi * p ≤ (y - 1) * p := Int.mul_le_mul_of_nonneg_right (by omega) (by omega)
  rw [Int.sub_mul, Int.one_mul] at b1
  refine ⟨a1, a0, by omega, by omega, b0, ?_⟩
  have e := Int.emod_add_mul_ediv lo m
  have e2 : lo * p = (lo % m) * p + (lo / m) * 18446744073709551616 := by
    rw [← hpm]
    conv => lhs; rw [← e]
    rw [Int.add_mul]
    congr 1
    rw [Int.mul_comm m, Int.mul_assoc, Int.mul_comm m p]
  have c0 : 0 ≤ (lo % m) * p := Int.mul_nonneg (Int.emod_nonneg _ (by omega)) (by omega)
  have c1 : (lo % m) * p < 18446744073709551616 := by
    have h := Int.emod_lt_of_pos lo hm
    have h2 : (lo % m) * p ≤ (m - 1) * p := Int.mul_le_mul_of_nonneg_right (by omega) (by omega)
    rw [Int.sub_mul, Int.one_mul, Int.mul_comm m p, hpm] at h2
    omega
  have e3 : (lo * p) % 18446744073709551616 = (lo % m) * p := by rw [e2]; omega
  rw [e3]
  unfold valW
  rw [Int.add_mul, Int.add_mul, e2, Int.mul_right_comm hi 18446744073709551616 p]
  omega

theorem or_low (a b : Int) (k : Nat) (ha : 0 ≤ a) (hb : 0 ≤ b) (hb' : b < 2 ^ k) (h : a * 2 ^ k ≤ 18446744073709551615) (h' : b ≤ 18446744073709551615) (hs : a * 2 ^ k + b ≤ 18446744073709551615) :
    bits .or .u64 (a * 2 ^ k) b = a * 2 ^ k + b := by
  obtain ⟨x, rfl⟩ := Int.eq_ofNat_of_zero_le ha
  obtain ⟨z, rfl⟩ := Int.eq_ofNat_of_zero_le hb
  have e : ((x : Int) * 2 ^ k) = ((x * 2 ^ k : Nat) : Int) := by simp
  rw [e] at h hs ⊢
  rw [u64_or_nat _ _ (by omega) (by omega)]
  have hz : z < 2 ^ k := by
    have : ((2 : Int) ^ k) = ((2 ^ k : Nat) : Int) := by simp
    rw [this] at hb'
    omega
  rw [← Nat.shiftLeft_eq, ← Nat.shiftLeft_add_eq_or_of_lt hz]
  simp

theorem and_low (a : Int) (ha : 0 ≤ a) (ha' : a ≤ 18446744073709551615) : bits .and .u64 a 4294967295 = a % 4294967296 := by
  obtain ⟨x, rfl⟩ := Int.eq_ofNat_of_zero_le ha
  rw [show (4294967295 : Int) = ((4294967295 : Nat) : Int) from rfl, u64_and_nat _ _ (by omega) (by omega)]
  have : x &&& 4294967295 = x % 4294967296 := Nat.and_two_pow_sub_one_eq_mod x 32
  rw [this]; omega

theorem emod_sub (x y : Int) : x % y = x - x / y * y := by rw [Int.emod_def, Int.mul_comm]

theorem div64_pos (hi lo y : Int) (h0 : 0 < hi) (h0' : hi < y) (h1 : 0 ≤ lo) (h1' : lo ≤ 18446744073709551615) (h2' : y ≤ 18446744073709551615) (w : World) :
    Calls Try.prog 85 #[.int .u64 hi, .int .u64 lo, .int .u64 y] w fun e w' => e = .returned (.tuple #[.int .u64 (valW hi lo / y), .int .u64 (valW hi lo % y)]) ∧ ∃ n, w' = w.drewN n := by
  obtain ⟨n, rfl⟩ := Int.eq_ofNat_of_zero_le (show 0 ≤ y by omega)
  have HL : Hid (∀ W : World, Calls Try.prog 86 #[.int .u64 (n : Int)] W fun e w' => e = .returned (.int .i64 (64 - (Lib.bitLen n : Int))) ∧ W = w') := fun W => (Try.bits_LeadingZeros64 n W (by omega) h2').mono fun _ _ ⟨he, hw⟩ => ⟨he, hw.symm⟩
  obtain ⟨s0, s2, s1⟩ := Lib.bitLenAux_bounds 64 n (by omega) (by omega)
  have s3 : Lib.bitLen n ≤ 64 := Lib.bitLen_le n 64 (by omega) (by omega)
  rw [show Lib.bitLenAux 64 n = Lib.bitLen n from rfl] at s0 s1 s2
  generalize Lib.bitLen n = L at *
  have kt : (64 - (L : Int)).toNat = 64 - L := by omega
  have mt : (64 - (64 - (L : Int))).toNat = L := by omega
  have hpm : (2 : Int) ^ (64 - L) * 2 ^ L = 18446744073709551616 := by
    rw [← Int.pow_add, show 64 - L + L = 64 from by omega]; rfl
  have hp63 : (2 : Int) ^ (64 - L) * 2 ^ (L - 1) = 9223372036854775808 := by
    rw [← Int.pow_add, show 64 - L + (L - 1) = 63 from by omega]; rfl
  have hp : (0 : Int) < 2 ^ (64 - L) := Int.pow_pos (by decide)
  have hm : (0 : Int) < 2 ^ L := Int.pow_pos (by decide)
  have s1' : (n : Int) < 2 ^ L := by
    have : ((2 : Int) ^ L) = ((2 ^ L : Nat) : Int) := by simp
    rw [this]; omega
  have s2' : (2 : Int) ^ (L - 1) ≤ n := by
    have : ((2 : Int) ^ (L - 1)) = ((2 ^ (L - 1) : Nat) : Int) := by simp
    rw [this]; omega
  obtain ⟨p, hpe⟩ : ∃ p : Int, p = 2 ^ (64 - L) := ⟨_, rfl⟩
  obtain ⟨m, hme⟩ : ∃ m : Int, m = 2 ^ L := ⟨_, rfl⟩
  have Y1 : (n : Int) * p ≤ 18446744073709551615 := by
    have h : ((n : Int) + 1) * p ≤ m * p := Int.mul_le_mul_of_nonneg_right (by rw [hme]; omega) (by rw [hpe]; omega)
    rw [Int.add_mul, Int.one_mul, Int.mul_comm m p, hpe, hme, hpm] at h
    rw [hpe]
    omega
  have Y0 : 9223372036854775808 ≤ (n : Int) * p := by
    have h : 2 ^ (L - 1) * p ≤ (n : Int) * p := Int.mul_le_mul_of_nonneg_right s2' (by rw [hpe]; omega)
    rw [Int.mul_comm ((2 : Int) ^ (L - 1)) p] at h
    rw [hpe] at h ⊢
    rw [hp63] at h
    exact h
  obtain ⟨m1, m0, m2, m3, m4, m5⟩ := shift_math hi lo n p m (by rw [hpe]; exact hp) (by rw [hme]; exact hm) (by rw [hpe, hme]; exact hpm) h0 h0' h1 h1' Y1
  have hor := or_low hi (lo / m) (64 - L) (by omega) m0 (by rw [← hpe]; exact m1) (by rw [← hpe]; exact m3) (by omega) (by rw [← hpe]; omega)
  rw [← hpe] at hor
  have hV0 : 0 ≤ (lo * p) % 18446744073709551616 := by omega
  have hV1 : (lo * p) % 18446744073709551616 ≤ 18446744073709551615 := by omega
  have hD := Dv.Dig.start (u := hi * p + lo / m) (y := (n : Int) * p) (yn1 := (n : Int) * p / 4294967296) (yn0 := (n : Int) * p % 4294967296) (v := (lo * p) % 18446744073709551616 / 4294967296) (by omega) (by omega) (by omega) (by omega) (by omega) (by omega) m2 (by omega) (by omega)
  have c := div64_core hi lo n (64 - (L : Int)) ((n : Int) * p) (hi * p + lo / m) ((lo * p) % 18446744073709551616) ((n : Int) * p / 4294967296) ((n : Int) * p % 4294967296) ((lo * p) % 18446744073709551616 / 4294967296) ((lo * p) % 18446744073709551616 % 4294967296)
    ((hi * p + lo / m) / ((n : Int) * p / 4294967296)) ((hi * p + lo / m) % ((n : Int) * p / 4294967296)) h0 h0' h1 h1' h2' (by omega) (by omega)
    (by rw [kt, ← hpe]; exact IntWalk.u64_in _ (by omega)) rfl (and_low _ (by omega) Y1)
    (by rw [kt, mt, ← hpe, ← hme, show IntKind.u64.wrap (hi * p) = hi * p from IntWalk.u64_in _ (by omega)]; exact hor)
    (by rw [kt, ← hpe]; exact IntKind.wrap_u64 _) rfl (and_low _ hV0 hV1) rfl (emod_sub _ _).symm Y1 (by omega) (by omega) (by omega) hD
    (by have := Int.emod_lt_of_pos (hi * p + lo / m) (show 0 < (n : Int) * p / 4294967296 by omega); omega) w HL
  clear hD hor hme hp hm hpm hp63
  generalize hU : hi * p + lo / m = U at *
  generalize hV : (lo * p) % 18446744073709551616 = V at *
  have t := Dv.two U (V / 4294967296) (V % 4294967296) ((n : Int) * p) ((U * 4294967296 + V / 4294967296) / ((n : Int) * p)) ((U * 4294967296 + V / 4294967296) % ((n : Int) * p))
    (((U * 4294967296 + V / 4294967296) % ((n : Int) * p) * 4294967296 + V % 4294967296) / ((n : Int) * p)) (((U * 4294967296 + V / 4294967296) % ((n : Int) * p) * 4294967296 + V % 4294967296) % ((n : Int) * p))
    (by omega) rfl (emod_sub _ _) rfl (emod_sub _ _)
  rw [show V / 4294967296 * 4294967296 + V % 4294967296 = V from by omega, m5] at t
  obtain ⟨t1, t2⟩ := t
  have pp : 0 < p := by rw [hpe]; exact Int.pow_pos (by decide)
  rw [Int.mul_ediv_mul_of_pos_left _ _ pp] at t1
  rw [Int.mul_comm (valW hi lo) p, Int.mul_comm (n : Int) p, Int.mul_emod_mul_of_pos _ _ pp] at t2
  rw [Int.mul_comm (n : Int) p] at t1 c
  refine c.mono ?_
  rintro e w' ⟨rfl, hw⟩
  refine ⟨?_, hw⟩
  rw [kt, ← hpe, t1, ← t2, Int.mul_ediv_cancel_left _ (by omega)]
end Go.Proofs.Ytbjmibaepccbeaa
