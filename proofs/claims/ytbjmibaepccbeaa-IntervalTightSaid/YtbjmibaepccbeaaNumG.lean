/- Contracts of package fraction, seventh part: Div, and Div64 where the upper half is zero. -/
import Derived.Test.YtbjmibaepccbeaaNumF
set_option linter.unusedSimpArgs false
set_option linter.unusedVariables false
namespace Go.Proofs.Ytbjmibaepccbeaa
open Go.RowKit

/-- fraction.Div -/
def divS (an ad bn bd : Int) : Int × Int × Int :=
  if (vldI an ad && vldI bn bd) = true ∧ bn ≠ 0 then mulS an ad (if bn < 0 then -bd else bd) (absI bn) else (0, 0, 1)

set_option maxHeartbeats 1000000 in
set_option maxRecDepth 100000 in
theorem div_no1 (an ad bn bd : Int) (W1 : Wf64 (an, ad)) (W2 : Wf64 (bn, bd)) (hv : (vldI an ad && vldI bn bd) = false) (w : World) :
    Calls Try.prog 33 #[.agg #[.int .i64 an, .int .i64 ad], .agg #[.int .i64 bn, .int .i64 bd]] w fun e w' => e = .returned (fracE (0, 0, 1)) ∧ Below w.heap.size w w' := by
  have HV := Lib.hid (fun b W h h1 h2 h3 h4 => valid2_any b an ad bn bd W h W1 W2 h1 h2 h3 h4)
  rw [hv] at HV
  clear hv W1 W2
  go_enter Try.func33, Try.ntmps33
  go_wp2_with fail
  refine (HV.out _ _ ?_ ?_ ?_ ?_ ?_).mono ?_
  · simp
  · simp [go_sem]
  · simp [go_sem]
  · simp [go_sem]
  · simp [go_sem]
  rintro e w1 ⟨rfl, hb1⟩
  obtain ⟨hc1, hf1⟩ := bcell hb1
  have hz1 := bsize hb1
  simp at hz1
  have k0 : w.heap.size < w1.heap.size := by omega
  have k1 : w.heap.size + 1 < w1.heap.size := by omega
  have k2 : w.heap.size + 1 + 1 < w1.heap.size := by omega
  go_wp2
  refine bodyPost_ret (v := fracE (0, 0, 1)) (by simp [results, Try.results33, go_sem, hc1, hf1, hz1, k0, k1, k2]) rfl ⟨rfl, (by repeat (first | with_reducible exact Below.refl _ _ | (with_reducible refine Below.setCell ?_ (by first | exact Nat.le_refl _ | omega | (simp; done) | (simp; omega)) _) | (with_reducible refine Below.alloc ?_ (by first | exact Nat.le_refl _ | omega | (simp; done) | (simp; omega)) _) | with_reducible refine Below.drew ?_ | with_reducible refine bel_drewN ?_ _ | (with_reducible refine bel_by (by with_reducible assumption) (by first | exact Nat.le_refl _ | omega | (simp; done) | (simp; omega)) ?_)))⟩

set_option maxHeartbeats 1000000 in
set_option maxRecDepth 100000 in
theorem div_no2 (an ad bd : Int) (W1 : Wf64 (an, ad)) (W2 : Wf64 (0, bd)) (hv : (vldI an ad && vldI 0 bd) = true) (w : World) :
    Calls Try.prog 33 #[.agg #[.int .i64 an, .int .i64 ad], .agg #[.int .i64 0, .int .i64 bd]] w fun e w' => e = .returned (fracE (0, 0, 1)) ∧ Below w.heap.size w w' := by
  have HV := Lib.hid (fun b W h h1 h2 h3 h4 => valid2_any b an ad 0 bd W h W1 W2 h1 h2 h3 h4)
  rw [hv] at HV
  clear hv W1 W2
  go_enter Try.func33, Try.ntmps33
  go_wp2_with fail
  refine (HV.out _ _ ?_ ?_ ?_ ?_ ?_).mono ?_
  · simp
  · simp [go_sem]
  · simp [go_sem]
  · simp [go_sem]
  · simp [go_sem]
  rintro e w1 ⟨rfl, hb1⟩
  obtain ⟨hc1, hf1⟩ := bcell hb1
  have hz1 := bsize hb1
  simp at hz1
  have k0 : w.heap.size < w1.heap.size := by omega
  have k1 : w.heap.size + 1 < w1.heap.size := by omega
  have k2 : w.heap.size + 1 + 1 < w1.heap.size := by omega
  go_wp2
  refine bodyPost_ret (v := fracE (0, 0, 1)) (by simp [results, Try.results33, go_sem, hc1, hf1, hz1, k0, k1, k2]) rfl ⟨rfl, (by repeat (first | with_reducible exact Below.refl _ _ | (with_reducible refine Below.setCell ?_ (by first | exact Nat.le_refl _ | omega | (simp; done) | (simp; omega)) _) | (with_reducible refine Below.alloc ?_ (by first | exact Nat.le_refl _ | omega | (simp; done) | (simp; omega)) _) | with_reducible refine Below.drew ?_ | with_reducible refine bel_drewN ?_ _ | (with_reducible refine bel_by (by with_reducible assumption) (by first | exact Nat.le_refl _ | omega | (simp; done) | (simp; omega)) ?_)))⟩

set_option maxHeartbeats 1000000 in
set_option maxRecDepth 100000 in
theorem div_yes (an ad bn bd : Int) (W1 : Wf64 (an, ad)) (W2 : Wf64 (bn, bd)) (hv : (vldI an ad && vldI bn bd) = true) (hb0 : bn ≠ 0) (w : World) :
    Calls Try.prog 33 #[.agg #[.int .i64 an, .int .i64 ad], .agg #[.int .i64 bn, .int .i64 bd]] w fun e w' =>
      e = .returned (fracE (mulS an ad (if bn < 0 then -bd else bd) (absI bn))) ∧ Below w.heap.size w w' := by
  have HV := Lib.hid (fun b W h h1 h2 h3 h4 => valid2_any b an ad bn bd W h W1 W2 h1 h2 h3 h4)
  rw [hv] at HV
  simp only [Bool.and_eq_true] at hv
  obtain ⟨av, bv⟩ := hv
  obtain ⟨a1, a2, a3, a4, a5⟩ := vldI_out av
  obtain ⟨b1, b2, b3, b4, b5⟩ := vldI_out bv
  clear W1 W2 a5 b5 av bv
  have bz : (bn == 0) = false := by simpa using hb0
  clear hb0
  by_cases hneg : bn < 0
  · rw [if_pos hneg, absI_neg hneg]
    have HM := Lib.hid (fun W => mul_any an ad (-bd) (-bn) ⟨by simp; omega, by simp; omega, by simp; omega, by simp; omega⟩ ⟨by simp; omega, by simp; omega, by simp; omega, by simp; omega⟩ W)
    generalize mulS an ad (-bd) (-bn) = t at *
    go_enter Try.func33, Try.ntmps33
    go_wp2_with fail
    refine (HV.out _ _ ?_ ?_ ?_ ?_ ?_).mono ?_
    · simp
    · simp [go_sem]
    · simp [go_sem]
    · simp [go_sem]
    · simp [go_sem]
    rintro e w1 ⟨rfl, hb1⟩
    obtain ⟨hc1, hf1⟩ := bcell hb1
    have hz1 := bsize hb1
    simp at hz1
    have k0 : w.heap.size < w1.heap.size := by omega
    have k1 : w.heap.size + 1 < w1.heap.size := by omega
    have k2 : w.heap.size + 1 + 1 < w1.heap.size := by omega
    go_wp2_with fail
    refine (HM.out _).mono ?_
    rintro e w2 ⟨rfl, hb2⟩
    obtain ⟨hc2, hf2⟩ := bcell hb2
    have hz2 := bsize hb2
    simp at hz2
    have k3 : w.heap.size + 1 + 1 < w1.heap.size + 1 := by omega
    go_wp2
    refine bodyPost_ret (v := fracE t) (by simp [results, Try.results33, go_sem, hc1, hf1, hc2, hf2, hz2, k0, k1, k2, k3]) rfl ⟨rfl, (by repeat (first | with_reducible exact Below.refl _ _ | (with_reducible refine Below.setCell ?_ (by first | exact Nat.le_refl _ | omega | (simp; done) | (simp; omega)) _) | (with_reducible refine Below.alloc ?_ (by first | exact Nat.le_refl _ | omega | (simp; done) | (simp; omega)) _) | with_reducible refine Below.drew ?_ | with_reducible refine bel_drewN ?_ _ | (with_reducible refine bel_by (by with_reducible assumption) (by first | exact Nat.le_refl _ | omega | (simp; done) | (simp; omega)) ?_)))⟩
  · rw [if_neg hneg, absI_pos (by omega)]
    have HM := Lib.hid (fun W => mul_any an ad bd bn ⟨by simp; omega, by simp; omega, by simp; omega, by simp; omega⟩ ⟨by simp; omega, by simp; omega, by simp; omega, by simp; omega⟩ W)
    generalize mulS an ad bd bn = t at *
    go_enter Try.func33, Try.ntmps33
    go_wp2_with fail
    refine (HV.out _ _ ?_ ?_ ?_ ?_ ?_).mono ?_
    · simp
    · simp [go_sem]
    · simp [go_sem]
    · simp [go_sem]
    · simp [go_sem]
    rintro e w1 ⟨rfl, hb1⟩
    obtain ⟨hc1, hf1⟩ := bcell hb1
    have hz1 := bsize hb1
    simp at hz1
    have k0 : w.heap.size < w1.heap.size := by omega
    have k1 : w.heap.size + 1 < w1.heap.size := by omega
    have k2 : w.heap.size + 1 + 1 < w1.heap.size := by omega
    go_wp2_with fail
    refine (HM.out _).mono ?_
    rintro e w2 ⟨rfl, hb2⟩
    obtain ⟨hc2, hf2⟩ := bcell hb2
    have hz2 := bsize hb2
    simp at hz2
    have k3 : w.heap.size + 1 + 1 < w1.heap.size + 1 := by omega
    go_wp2
    refine bodyPost_ret (v := fracE t) (by simp [results, Try.results33, go_sem, hc1, hf1, hc2, hf2, hz2, k0, k1, k2, k3]) rfl ⟨rfl, (by repeat (first | with_reducible exact Below.refl _ _ | (with_reducible refine Below.setCell ?_ (by first | exact Nat.le_refl _ | omega | (simp; done) | (simp; omega)) _) | (with_reducible refine Below.alloc ?_ (by first | exact Nat.le_refl _ | omega | (simp; done) | (simp; omega)) _) | with_reducible refine Below.drew ?_ | with_reducible refine bel_drewN ?_ _ | (with_reducible refine bel_by (by with_reducible assumption) (by first | exact Nat.le_refl _ | omega | (simp; done) | (simp; omega)) ?_)))⟩

theorem div_any (an ad bn bd : Int) (W1 : Wf64 (an, ad)) (W2 : Wf64 (bn, bd)) (w : World) :
    Calls Try.prog 33 #[.agg #[.int .i64 an, .int .i64 ad], .agg #[.int .i64 bn, .int .i64 bd]] w fun e w' => e = .returned (fracE (divS an ad bn bd)) ∧ Below w.heap.size w w' := by
  unfold divS
  by_cases hv : (vldI an ad && vldI bn bd) = true
  · by_cases hb : bn = 0
    · subst hb
      rw [if_neg (fun h => h.2 rfl)]
      exact div_no2 an ad bd W1 W2 hv w
    · rw [if_pos ⟨hv, hb⟩]; exact div_yes an ad bn bd W1 W2 hv hb w
  · rw [if_neg (fun h => hv h.1)]; exact div_no1 an ad bn bd W1 W2 (by simpa using hv) w

/-- math/bits.Div64: the quotient, and the remainder -/
theorem div64_zero (lo y : Int) (h1 : 0 ≤ lo) (h1' : lo ≤ 18446744073709551615) (h2 : 0 < y) (h2' : y ≤ 18446744073709551615) (w : World) :
    Calls Try.prog 85 #[.int .u64 0, .int .u64 lo, .int .u64 y] w fun e w' => e = .returned (.tuple #[.int .u64 (lo / y), .int .u64 (lo % y)]) ∧ ∃ n, w' = w.drewN n := by
  have yz : ¬ y = 0 := by omega
  have yz' : (y == 0) = false := by simpa using yz
  have yl : ¬ y ≤ 0 := by omega
  have q1 : IntKind.u64.wrap (lo.tdiv y) = lo / y := IntWalk.u64_quo _ _ (by omega)
  have m0 : 0 ≤ lo % y := Int.emod_nonneg _ yz
  have m1 : lo % y < y := Int.emod_lt_of_pos _ h2
  go_enter Try.func85, Try.ntmps85
  go_wp2_with fail
  go_quiet (fail)
  go_wp2
  go_ret2
  exact ⟨rfl, _, rfl⟩
end Go.Proofs.Ytbjmibaepccbeaa
