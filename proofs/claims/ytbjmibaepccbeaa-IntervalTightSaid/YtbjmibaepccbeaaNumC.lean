/- Contracts of package fraction, third part: reduced, Make, Milli, Valid, Neg. -/
import Derived.Test.YtbjmibaepccbeaaNumB
set_option linter.unusedSimpArgs false
set_option linter.unusedVariables false
namespace Go.Proofs.Ytbjmibaepccbeaa
open Go.RowKit

/-- the fraction of num / den, negated or not -/
def bndI (neg : Bool) (n d : Int) : Int × Int × Int := Fr.bnd (sg neg n) d.natAbs
theorem bndI_nrm (neg : Bool) (n d : Int) (hn : 0 ≤ n) (hd : 0 < d) : nrm neg (n / gcdI n d) (d / gcdI n d) = bndI neg n d := by
  obtain ⟨a, rfl⟩ := Int.eq_ofNat_of_zero_le hn
  obtain ⟨b, rfl⟩ := Int.eq_ofNat_of_zero_le (Int.le_of_lt hd)
  unfold bndI nrm Fr.bnd gcdI
  have e : (sg neg (a : Int)).natAbs = a := by unfold sg; split <;> simp
  simp only [e, Int.natAbs_natCast, ← Int.natCast_ediv]
  unfold Fr.lim
  have e2 : (((a / a.gcd b : Nat) : Int) ≤ 1000000000000000000 ∧ ((b / a.gcd b : Nat) : Int) ≤ 1000000000000000000) = (a / a.gcd b ≤ 1000000000000000000 ∧ b / a.gcd b ≤ 1000000000000000000) := by
    simp only [eq_iff_iff]; omega
  simp only [e2]
  split
  · congr 1
    unfold sg
    split
    · rw [Int.neg_ediv_of_dvd (Int.natCast_dvd_natCast.2 (Nat.gcd_dvd_left _ _))]; simp
    · simp
  · rfl

theorem gcdI_pos (a b : Int) (hb : 0 < b) : 1 ≤ gcdI a b := by
  unfold gcdI
  have := Nat.gcd_pos_of_pos_right a.natAbs (n := b.natAbs) (by omega)
  omega
theorem gcdI_le (a b : Int) (hb : 0 < b) : gcdI a b ≤ b := by
  unfold gcdI
  have := Nat.gcd_le_right a.natAbs (n := b.natAbs) (by omega)
  omega

/-- fraction.Make -/
def makeS (n d : Int) : Int × Int × Int := if d = 0 then (0, 0, 1) else bndI (decide (n < 0) != decide (d < 0)) (absI n) (absI d)
theorem absI_0 (n : Int) : 0 ≤ absI n := by unfold absI; omega
theorem absI_1 {n : Int} (h1 : -9223372036854775808 ≤ n) (h2 : n ≤ 9223372036854775807) : absI n ≤ 9223372036854775808 := by unfold absI; omega
/-- is n / d a fraction in normalized form within the bounds -/
def vldI (n d : Int) : Bool := decide (1 ≤ d ∧ d ≤ 1000000000000000000 ∧ -1000000000000000000 ≤ n ∧ n ≤ 1000000000000000000 ∧ gcdI n d = 1)
theorem vldI_out {n d : Int} (h : vldI n d = true) : 1 ≤ d ∧ d ≤ 1000000000000000000 ∧ -1000000000000000000 ≤ n ∧ n ≤ 1000000000000000000 ∧ gcdI n d = 1 := by
  unfold vldI at h; simpa using h
theorem gcdI_abs (n d : Int) : gcdI (absI n) d = gcdI n d := by unfold gcdI absI; simp
theorem q_same {P : Program} {f : FuncId} {args : Array Value} {w : World} {v : Value} (h : Calls P f args w fun e w' => e = .returned v ∧ w = w') :
    Calls P f args w fun e w' => e = .returned v ∧ ∃ n, w' = w.drewN n := h.mono fun _ _ ⟨he, hw⟩ => ⟨he, 0, hw.symm⟩
/-- fraction.Valid -/
theorem valid_any (n d : Int) (h1 : -9223372036854775808 ≤ n) (h1' : n ≤ 9223372036854775807) (h2 : -9223372036854775808 ≤ d) (h2' : d ≤ 9223372036854775807) (w : World) :
    Calls Try.prog 40 #[.agg #[.int .i64 n, .int .i64 d]] w fun e w' => e = .returned (.bool (vldI n d)) ∧ Below w.heap.size w w' := by
  by_cases hr : 1 ≤ d ∧ d ≤ 1000000000000000000 ∧ -1000000000000000000 ≤ n ∧ n ≤ 1000000000000000000
  · obtain ⟨d0, d1, n0, n1⟩ := hr
    have hv : vldI n d = (gcdI n d == 1) := by unfold vldI; rw [Bool.eq_iff_iff]; simp; omega
    rw [hv]; clear hv
    have a0 := absI_0 n
    have a1 := absI_1 h1 h1'
    have M1 := fun W => magnitude_any n h1 h1' W
    have G := fun W => divisor_any (absI n) d a0 (by omega) (by omega) (by omega) W
    rw [gcdI_abs] at G
    generalize absI n = x at *
    generalize gcdI n d = g at *
    have HM := Lib.hid M1
    have HG := Lib.hid G
    clear M1 G
    go_enter Try.func40, Try.ntmps40
    go_wp2_with fail
    go_quiet ((first | (go_at_call 59; exact Calls.quiet_of (q_same (HM.out _))) | (go_at_call 60; exact Calls.quiet_of (HG.out _))))
    go_wp2
    go_ret
    exact ⟨rfl, (by repeat (first | with_reducible exact Below.refl _ _ | (with_reducible refine Below.setCell ?_ (by first | exact Nat.le_refl _ | omega | (simp; done) | (simp; omega)) _) | (with_reducible refine Below.alloc ?_ (by first | exact Nat.le_refl _ | omega | (simp; done) | (simp; omega)) _) | with_reducible refine Below.drew ?_ | with_reducible refine bel_drewN ?_ _ | (with_reducible refine bel_by (by with_reducible assumption) (by first | exact Nat.le_refl _ | omega | (simp; done) | (simp; omega)) ?_)))⟩
  · have hv : vldI n d = false := by unfold vldI; simp; omega
    rw [hv]; clear hv
    have hk : (decide (d < 1) || decide (1000000000000000000 < d) || decide (n < -1000000000000000000) || decide (1000000000000000000 < n)) = true := by simp; omega
    clear hr
    go_enter Try.func40, Try.ntmps40
    go_wp2_with fail
    all_goals
      go_ret
      exact ⟨rfl, (by repeat (first | with_reducible exact Below.refl _ _ | (with_reducible refine Below.setCell ?_ (by first | exact Nat.le_refl _ | omega | (simp; done) | (simp; omega)) _) | (with_reducible refine Below.alloc ?_ (by first | exact Nat.le_refl _ | omega | (simp; done) | (simp; omega)) _) | with_reducible refine Below.drew ?_ | with_reducible refine bel_drewN ?_ _ | (with_reducible refine bel_by (by with_reducible assumption) (by first | exact Nat.le_refl _ | omega | (simp; done) | (simp; omega)) ?_)))⟩
end Go.Proofs.Ytbjmibaepccbeaa
