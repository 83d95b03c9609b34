/- Contracts of package fraction, third part: reduced, Make, Milli, Valid, Neg. -/
import Derived.Test.YtfdalnkdeeminaaDoorNumB
set_option linter.unusedSimpArgs false
set_option linter.unusedVariables false
namespace Go.Proofs.YtfdalnkdeeminaaDoor
open Go.RowKit

/-- the fraction of num / den, negated or not -/
def bndI (neg : Bool) (n d : Int) : Int × Int × Int := Fr.bnd (sg neg n) d.natAbs
theorem bndI_nrm (neg : Bool) (n d : Int) (hn : 0 ≤ n) (hd : 0 < d) : nrm neg (n / gcdI n d) (d / gcdI n d) = bndI neg n d := by
  obtain ⟨a, rfl⟩ := Int.eq_ofNat_of_zero_le hn
  obtain ⟨b, rfl⟩ := Int.eq_ofNat_of_zero_le (Int.le_of_lt hd)
  unfold bndI nrm Fr.bnd gcdI
  have e : (sg neg (a : Int)).natAbs = a := by unfold sg; split <;> simp
  simp only [e, Int.natAbs_natCast, ← Int.natCast_ediv]
  unfold Fr.lim
  have e2 : (((a / a.gcd b : Nat) : Int) ≤ 1000000000000000000 ∧ ((b / a.gcd b : Nat) : Int) ≤ 1000000000000000000) = (a / a.gcd b ≤ 1000000000000000000 ∧ b / a.gcd b ≤ 1000000000000000000) := by
    simp only [eq_iff_iff]; omega
  simp only [e2]
  split
  · congr 1
    unfold sg
    split
    · rw [Int.neg_ediv_of_dvd (Int.natCast_dvd_natCast.2 (Nat.gcd_dvd_left _ _))]; simp
    · simp
  · rfl

theorem gcdI_pos (a b : Int) (hb : 0 < b) : 1 ≤ gcdI a b := by
  unfold gcdI
  have := Nat.gcd_pos_of_pos_right a.natAbs (n := b.natAbs) (by omega)
  omega
theorem gcdI_le (a b : Int) (hb : 0 < b) : gcdI a b ≤ b := by
  unfold gcdI
  have := Nat.gcd_le_right a.natAbs (n := b.natAbs) (by omega)
  omega

set_option maxRecDepth 100000 in
/-- fraction.reduced -/
theorem reduced_any (neg : Bool) (n d : Int) (h1 : 0 ≤ n) (h1' : n ≤ 18446744073709551615) (h2 : 0 < d) (h2' : d ≤ 18446744073709551615) (w : World) :
    Calls Tryd.prog 42 #[.bool neg, .int .u64 n, .int .u64 d] w fun e w' => e = .returned (fracE (bndI neg n d)) ∧ Below w.heap.size w w' := by
  have G := fun W => divisor_any n d h1 h1' (by omega) h2' W
  have g1 := gcdI_pos n d h2
  have g2 := gcdI_le n d h2
  rw [← bndI_nrm neg n d h1 h2]
  generalize gcdI n d = g at *
  have n0 : 0 ≤ n / g := Int.ediv_nonneg h1 (by omega)
  have n1 : n / g ≤ n := Int.ediv_le_self g h1
  have d0 : 0 ≤ d / g := Int.ediv_nonneg (by omega) (by omega)
  have d1 : d / g ≤ d := Int.ediv_le_self g (by omega)
  have N := fun W => normalized_any neg 0 (n / g) 0 (d / g) (by omega) (by omega) n0 (by omega) (by omega) (by omega) d0 (by omega) W
  rw [show valW 0 (n / g) = n / g from by unfold valW; omega, show valW 0 (d / g) = d / g from by unfold valW; omega] at N
  have HG := Lib.hid G
  have HN := Lib.hid N
  clear G N
  have g0 : 0 < g := by omega
  have gne : ¬ g = 0 := by omega
  have q1 : IntKind.u64.wrap (n.tdiv g) = n / g := IntWalk.u64_quo _ _ (by omega)
  have q2 : IntKind.u64.wrap (d.tdiv g) = d / g := IntWalk.u64_quo _ _ (by omega)
  clear g1
  go_enter Tryd.func42, Tryd.ntmps42
  go_wp2_with fail
  refine (HG.out _).mono ?_
  rintro e w1 ⟨rfl, nn, rfl⟩
  go_wp2_with fail
  go_region_held3 (fun _ => True) (trivial) (first | (go_at_call 56; refine (HN.out _).mono ?_; rintro e w2 ⟨rfl, hb2⟩; obtain ⟨hc2, hf2⟩ := bcell hb2; have hz2 := bsize hb2; simp at hz2))
  all_goals
    go_wp2
    refine bodyPost_ret (v := fracE (nrm neg (n / g) (d / g))) (by simp [results, Tryd.results42, go_sem, hc2, hf2, hz2]) rfl ⟨rfl, (by repeat (first | with_reducible exact Below.refl _ _ | (with_reducible refine Below.setCell ?_ (by first | exact Nat.le_refl _ | omega | (simp; done) | (simp; omega)) _) | (with_reducible refine Below.alloc ?_ (by first | exact Nat.le_refl _ | omega | (simp; done) | (simp; omega)) _) | with_reducible refine Below.drew ?_ | with_reducible refine bel_drewN ?_ _ | (with_reducible refine bel_by (by with_reducible assumption) (by first | exact Nat.le_refl _ | omega | (simp; done) | (simp; omega)) ?_)))⟩

/-- fraction.Make -/
def makeS (n d : Int) : Int × Int × Int := if d = 0 then (0, 0, 1) else bndI (decide (n < 0) != decide (d < 0)) (absI n) (absI d)
theorem absI_0 (n : Int) : 0 ≤ absI n := by unfold absI; omega
theorem absI_1 {n : Int} (h1 : -9223372036854775808 ≤ n) (h2 : n ≤ 9223372036854775807) : absI n ≤ 9223372036854775808 := by unfold absI; omega
set_option maxHeartbeats 400000 in
theorem make_any (n d : Int) (h1 : -9223372036854775808 ≤ n) (h1' : n ≤ 9223372036854775807) (h2 : -9223372036854775808 ≤ d) (h2' : d ≤ 9223372036854775807) (w : World) :
    Calls Tryd.prog 12 #[.int .i64 n, .int .i64 d] w fun e w' => e = .returned (fracE (makeS n d)) ∧ Below w.heap.size w w' := by
  by_cases hd : d = 0
  · subst hd
    unfold makeS
    rw [if_pos rfl]
    go_enter Tryd.func12, Tryd.ntmps12
    go_wp2
    refine bodyPost_ret (v := fracE (0, 0, 1)) (by simp [results, Tryd.results12, go_sem]) rfl ⟨rfl, (by repeat (first | with_reducible exact Below.refl _ _ | (with_reducible refine Below.setCell ?_ (by first | exact Nat.le_refl _ | omega | (simp; done) | (simp; omega)) _) | (with_reducible refine Below.alloc ?_ (by first | exact Nat.le_refl _ | omega | (simp; done) | (simp; omega)) _) | with_reducible refine Below.drew ?_ | with_reducible refine bel_drewN ?_ _ | (with_reducible refine bel_by (by with_reducible assumption) (by first | exact Nat.le_refl _ | omega | (simp; done) | (simp; omega)) ?_)))⟩
  · unfold makeS
    rw [if_neg hd]
    have a0 := absI_0 n
    have a1 := absI_1 h1 h1'
    have b0 : 0 < absI d := by unfold absI; omega
    have b1 := absI_1 h2 h2'
    have R := fun W => reduced_any (decide (n < 0) != decide (d < 0)) (absI n) (absI d) a0 (by omega) b0 (by omega) W
    have M1 := fun W => magnitude_any n h1 h1' W
    have M2 := fun W => magnitude_any d h2 h2' W
    generalize absI n = x at *
    generalize absI d = y at *
    generalize bndI (decide (n < 0) != decide (d < 0)) x y = t at *
    have HR := Lib.hid R
    have HM1 := Lib.hid M1
    have HM2 := Lib.hid M2
    clear R M1 M2
    go_enter Tryd.func12, Tryd.ntmps12
    go_wp2_with fail
    refine (HM1.out _).mono ?_
    rintro e w1 ⟨rfl, rfl⟩
    go_wp2_with fail
    refine (HM2.out _).mono ?_
    rintro e w1 ⟨rfl, rfl⟩
    go_wp2_with fail
    refine (HR.out _).mono ?_
    rintro e w2 ⟨rfl, hb2⟩
    obtain ⟨hc2, hf2⟩ := bcell hb2
    have hz2 := bsize hb2
    simp at hz2
    go_wp2
    refine bodyPost_ret (v := fracE t) (by simp [results, Tryd.results12, go_sem, hc2, hf2, hz2]) rfl ⟨rfl, (by repeat (first | with_reducible exact Below.refl _ _ | (with_reducible refine Below.setCell ?_ (by first | exact Nat.le_refl _ | omega | (simp; done) | (simp; omega)) _) | (with_reducible refine Below.alloc ?_ (by first | exact Nat.le_refl _ | omega | (simp; done) | (simp; omega)) _) | with_reducible refine Below.drew ?_ | with_reducible refine bel_drewN ?_ _ | (with_reducible refine bel_by (by with_reducible assumption) (by first | exact Nat.le_refl _ | omega | (simp; done) | (simp; omega)) ?_)))⟩

/-- is n / d a fraction in normalized form within the bounds -/
def vldI (n d : Int) : Bool := decide (1 ≤ d ∧ d ≤ 1000000000000000000 ∧ -1000000000000000000 ≤ n ∧ n ≤ 1000000000000000000 ∧ gcdI n d = 1)
theorem vldI_out {n d : Int} (h : vldI n d = true) : 1 ≤ d ∧ d ≤ 1000000000000000000 ∧ -1000000000000000000 ≤ n ∧ n ≤ 1000000000000000000 ∧ gcdI n d = 1 := by
  unfold vldI at h; simpa using h
theorem gcdI_abs (n d : Int) : gcdI (absI n) d = gcdI n d := by unfold gcdI absI; simp
theorem q_same {P : Program} {f : FuncId} {args : Array Value} {w : World} {v : Value} (h : Calls P f args w fun e w' => e = .returned v ∧ w = w') :
    Calls P f args w fun e w' => e = .returned v ∧ ∃ n, w' = w.drewN n := h.mono fun _ _ ⟨he, hw⟩ => ⟨he, 0, hw.symm⟩
/-- fraction.Valid -/
theorem valid_any (n d : Int) (h1 : -9223372036854775808 ≤ n) (h1' : n ≤ 9223372036854775807) (h2 : -9223372036854775808 ≤ d) (h2' : d ≤ 9223372036854775807) (w : World) :
    Calls Tryd.prog 15 #[.agg #[.int .i64 n, .int .i64 d]] w fun e w' => e = .returned (.bool (vldI n d)) ∧ Below w.heap.size w w' := by
  by_cases hr : 1 ≤ d ∧ d ≤ 1000000000000000000 ∧ -1000000000000000000 ≤ n ∧ n ≤ 1000000000000000000
  · obtain ⟨d0, d1, n0, n1⟩ := hr
    have hv : vldI n d = (gcdI n d == 1) := by unfold vldI; rw [Bool.eq_iff_iff]; simp; omega
    rw [hv]; clear hv
    have a0 := absI_0 n
    have a1 := absI_1 h1 h1'
    have M1 := fun W => magnitude_any n h1 h1' W
    have G := fun W => divisor_any (absI n) d a0 (by omega) (by omega) (by omega) W
    rw [gcdI_abs] at G
    generalize absI n = x at *
    generalize gcdI n d = g at *
    have HM := Lib.hid M1
    have HG := Lib.hid G
    clear M1 G
    go_enter Tryd.func15, Tryd.ntmps15
    go_wp2_with fail
    go_quiet ((first | (go_at_call 43; exact Calls.quiet_of (q_same (HM.out _))) | (go_at_call 47; exact Calls.quiet_of (HG.out _))))
    go_wp2
    go_ret
    exact ⟨rfl, (by repeat (first | with_reducible exact Below.refl _ _ | (with_reducible refine Below.setCell ?_ (by first | exact Nat.le_refl _ | omega | (simp; done) | (simp; omega)) _) | (with_reducible refine Below.alloc ?_ (by first | exact Nat.le_refl _ | omega | (simp; done) | (simp; omega)) _) | with_reducible refine Below.drew ?_ | with_reducible refine bel_drewN ?_ _ | (with_reducible refine bel_by (by with_reducible assumption) (by first | exact Nat.le_refl _ | omega | (simp; done) | (simp; omega)) ?_)))⟩
  · have hv : vldI n d = false := by unfold vldI; simp; omega
    rw [hv]; clear hv
    have hk : (decide (d < 1) || decide (1000000000000000000 < d) || decide (n < -1000000000000000000) || decide (1000000000000000000 < n)) = true := by simp; omega
    clear hr
    go_enter Tryd.func15, Tryd.ntmps15
    go_wp2_with fail
    all_goals
      go_ret
      exact ⟨rfl, (by repeat (first | with_reducible exact Below.refl _ _ | (with_reducible refine Below.setCell ?_ (by first | exact Nat.le_refl _ | omega | (simp; done) | (simp; omega)) _) | (with_reducible refine Below.alloc ?_ (by first | exact Nat.le_refl _ | omega | (simp; done) | (simp; omega)) _) | with_reducible refine Below.drew ?_ | with_reducible refine bel_drewN ?_ _ | (with_reducible refine bel_by (by with_reducible assumption) (by first | exact Nat.le_refl _ | omega | (simp; done) | (simp; omega)) ?_)))⟩
end Go.Proofs.YtfdalnkdeeminaaDoor
