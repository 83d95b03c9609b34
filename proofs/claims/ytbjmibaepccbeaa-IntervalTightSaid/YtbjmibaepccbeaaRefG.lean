/- Contracts of the reference of fractions, seventh part: Mul, Div. -/
import Derived.Test.YtbjmibaepccbeaaRefF
import Derived.Test.YtbjmibaepccbeaaMathB
set_option linter.unusedSimpArgs false
set_option linter.unusedVariables false
namespace Go.Proofs.Ytbjmibaepccbeaa
open Go.RowKit

theorem rmul_eq (an ad bn bd : Int) (av : vldI an ad = true) (bv : vldI bn bd = true) : bndI (decide (an < 0) != decide (bn < 0)) (absI an * absI bn) (ad * bd) = mulR an ad bn bd := by
  rw [mulR_bnd _ _ _ _ av bv]
  unfold bndI
  rw [sg_mul, sg_abs, sg_abs]

theorem inv_vld {n d : Int} (h : vldI n d = true) (h0 : n ≠ 0) : vldI (if n < 0 then -d else d) (absI n) = true := by
  obtain ⟨h1, h2, h3, h4, h5⟩ := vldI_out h
  have a0 := absI_0 n
  have a1 : 1 ≤ absI n := by unfold absI; omega
  have a2 : absI n ≤ 1000000000000000000 := by unfold absI; omega
  have e : gcdI (if n < 0 then -d else d) (absI n) = gcdI n d := by
    unfold gcdI absI
    rw [show (if n < 0 then -d else d).natAbs = d.natAbs from by split <;> simp, Int.natAbs_natCast, Nat.gcd_comm]
  unfold vldI
  rw [e, h5]
  simp only [decide_eq_true_eq]
  refine ⟨a1, a2, ?_, ?_, trivial⟩ <;> split <;> omega

theorem rdiv_eq (an ad bn bd : Int) (av : vldI an ad = true) (bv : vldI bn bd = true) (h0 : bn ≠ 0) :
    bndI (decide (an < 0) != decide (bn < 0)) (absI an * bd) (ad * absI bn) = mulR an ad (if bn < 0 then -bd else bd) (absI bn) := by
  rw [mulR_bnd _ _ _ _ av (inv_vld bv h0)]
  unfold bndI
  rw [sg_mul, sg_abs]
  congr 2
  unfold sg
  by_cases h : bn < 0 <;> simp [h]

set_option maxHeartbeats 2000000 in
set_option maxRecDepth 100000 in
theorem rmul_no1 (an ad bn bd : Int) (W1 : Wf64 (an, ad)) (W2 : Wf64 (bn, bd)) (av : vldI an ad = false) (w : World) :
    Calls Try.prog 56 #[.agg #[.int .i64 an, .int .i64 ad], .agg #[.int .i64 bn, .int .i64 bd]] w fun e w' => e = .returned (fracE (0, 0, 1)) ∧ Below w.heap.size w w' := by
  obtain ⟨A1, A2, A3, A4⟩ := W1
  obtain ⟨B1, B2, B3, B4⟩ := W2
  simp only at A1 A2 A3 A4 B1 B2 B3 B4
  have V1 := fun W => rvalid_any an ad A1 A2 A3 A4 W
  rw [av] at V1
  have HV1 := Lib.hid V1
  clear V1 av A1 A2 A3 A4 B1 B2 B3 B4
  go_enter Try.func56, Try.ntmps56
  go_wp2_with fail
  refine (HV1.out _).mono ?_
  rintro e w1 ⟨rfl, hb1⟩
  obtain ⟨hc1, hf1⟩ := bcell hb1
  have hz1 := bsize hb1
  simp at hz1
  have k0 : w.heap.size < w1.heap.size := by omega
  have k1 : w.heap.size + 1 < w1.heap.size := by omega
  have k2 : w.heap.size + 1 + 1 < w1.heap.size := by omega
  go_wp2
  refine bodyPost_ret (v := fracE (0, 0, 1)) (by simp [results, Try.results56, go_sem, hc1, hf1, k0, k1, k2]) rfl ⟨rfl, (by repeat (first | with_reducible exact Below.refl _ _ | (with_reducible refine Below.setCell ?_ (by first | exact Nat.le_refl _ | omega | (simp; done) | (simp; omega)) _) | (with_reducible refine Below.alloc ?_ (by first | exact Nat.le_refl _ | omega | (simp; done) | (simp; omega)) _) | with_reducible refine Below.drew ?_ | with_reducible refine bel_drewN ?_ _ | (with_reducible refine bel_by (by with_reducible assumption) (by first | exact Nat.le_refl _ | omega | (simp; done) | (simp; omega)) ?_)))⟩

set_option maxHeartbeats 2000000 in
set_option maxRecDepth 100000 in
theorem rmul_no2 (an ad bn bd : Int) (W1 : Wf64 (an, ad)) (W2 : Wf64 (bn, bd)) (av : vldI an ad = true) (bv : vldI bn bd = false) (w : World) :
    Calls Try.prog 56 #[.agg #[.int .i64 an, .int .i64 ad], .agg #[.int .i64 bn, .int .i64 bd]] w fun e w' => e = .returned (fracE (0, 0, 1)) ∧ Below w.heap.size w w' := by
  obtain ⟨A1, A2, A3, A4⟩ := W1
  obtain ⟨B1, B2, B3, B4⟩ := W2
  simp only at A1 A2 A3 A4 B1 B2 B3 B4
  have V1 := fun W => rvalid_any an ad A1 A2 A3 A4 W
  have V2 := fun W => rvalid_any bn bd B1 B2 B3 B4 W
  rw [av] at V1
  rw [bv] at V2
  have HV1 := Lib.hid V1
  have HV2 := Lib.hid V2
  clear V1 V2 av bv A1 A2 A3 A4 B1 B2 B3 B4
  go_enter Try.func56, Try.ntmps56
  go_wp2_with fail
  refine (HV1.out _).mono ?_
  rintro e w1 ⟨rfl, hb1⟩
  obtain ⟨hc1, hf1⟩ := bcell hb1
  have hz1 := bsize hb1
  simp at hz1
  have k0 : w.heap.size < w1.heap.size := by omega
  have k1 : w.heap.size + 1 < w1.heap.size := by omega
  have k2 : w.heap.size + 1 + 1 < w1.heap.size := by omega
  go_wp2_with fail
  refine (HV2.out _).mono ?_
  rintro e w2 ⟨rfl, hb2⟩
  obtain ⟨hc2, hf2⟩ := bcell hb2
  have hz2 := bsize hb2
  have l0 : w.heap.size < w2.heap.size := by omega
  have l1 : w.heap.size + 1 < w2.heap.size := by omega
  have l2 : w.heap.size + 1 + 1 < w2.heap.size := by omega
  go_wp2
  refine bodyPost_ret (v := fracE (0, 0, 1)) (by simp [results, Try.results56, go_sem, hc1, hf1, k0, k1, k2, hc2, hf2, l0, l1, l2]) rfl ⟨rfl, (by repeat (first | with_reducible exact Below.refl _ _ | (with_reducible refine Below.setCell ?_ (by first | exact Nat.le_refl _ | omega | (simp; done) | (simp; omega)) _) | (with_reducible refine Below.alloc ?_ (by first | exact Nat.le_refl _ | omega | (simp; done) | (simp; omega)) _) | with_reducible refine Below.drew ?_ | with_reducible refine bel_drewN ?_ _ | (with_reducible refine bel_by (by with_reducible assumption) (by first | exact Nat.le_refl _ | omega | (simp; done) | (simp; omega)) ?_)))⟩

set_option maxHeartbeats 2000000 in
set_option maxRecDepth 100000 in
theorem rmul_yes (an ad bn bd : Int) (W1 : Wf64 (an, ad)) (W2 : Wf64 (bn, bd)) (av : vldI an ad = true) (bv : vldI bn bd = true) (w : World) :
    Calls Try.prog 56 #[.agg #[.int .i64 an, .int .i64 ad], .agg #[.int .i64 bn, .int .i64 bd]] w fun e w' => e = .returned (fracE (mulR an ad bn bd)) ∧ Below w.heap.size w w' := by
  obtain ⟨A1, A2, A3, A4⟩ := W1
  obtain ⟨B1, B2, B3, B4⟩ := W2
  simp only at A1 A2 A3 A4 B1 B2 B3 B4
  have V1 := fun W => rvalid_any an ad A1 A2 A3 A4 W
  have V2 := fun W => rvalid_any bn bd B1 B2 B3 B4 W
  obtain ⟨a1, a2, a3, a4, _⟩ := vldI_out av
  obtain ⟨b1, b2, b3, b4, _⟩ := vldI_out bv
  have S1 := Lib.hid (fun W => rsize_any an (by omega) (by omega) W)
  have S2 := Lib.hid (fun W => rsize_any bn (by omega) (by omega) W)
  have x0 := absI_0 an
  have x1 : absI an ≤ 1000000000000000000 := by unfold absI; omega
  have y0 := absI_0 bn
  have y1 : absI bn ≤ 1000000000000000000 := by unfold absI; omega
  have n0 : 0 ≤ absI an * absI bn := Int.mul_nonneg (by omega) (by omega)
  have n1 : absI an * absI bn ≤ 1000000000000000000000000000000000000 := mul_small (by omega) (by omega) (by omega) (by omega)
  have d0 : 0 < ad * bd := Int.mul_pos (by omega) (by omega)
  have d1 : ad * bd ≤ 1000000000000000000000000000000000000 := mul_small (by omega) (by omega) (by omega) (by omega)
  have P1 := Lib.hid (fun W => rprod_any (absI an) (absI bn) (by omega) (by omega) (by omega) (by omega) W)
  have P2 := Lib.hid (fun W => rprod_any ad bd (by omega) (by omega) (by omega) (by omega) W)
  have R := fun W => rbuild_any (decide (an < 0) != decide (bn < 0)) (absI an * absI bn) (ad * bd) n0 (by omega) d0 (by omega) W
  rw [rmul_eq an ad bn bd av bv] at R
  rw [av] at V1
  rw [bv] at V2
  have HV1 := Lib.hid V1
  have HV2 := Lib.hid V2
  have HR := Lib.hid R
  clear V1 V2 R av bv A1 A2 A3 A4 B1 B2 B3 B4 n0 n1 d0 d1
  generalize (mulR an ad bn bd) = t at *
  generalize absI an * absI bn = p at *
  generalize ad * bd = q at *
  generalize absI an = x at *
  generalize absI bn = y at *
  have qa : IntKind.u64.wrap ad = ad := IntWalk.u64_in _ (by omega)
  have qb : IntKind.u64.wrap bd = bd := IntWalk.u64_in _ (by omega)
  go_enter Try.func56, Try.ntmps56
  go_wp2_with fail
  refine (HV1.out _).mono ?_
  rintro e w1 ⟨rfl, hb1⟩
  obtain ⟨hc1, hf1⟩ := bcell hb1
  have hz1 := bsize hb1
  simp at hz1
  have k0 : w.heap.size < w1.heap.size := by omega
  have k1 : w.heap.size + 1 < w1.heap.size := by omega
  have k2 : w.heap.size + 1 + 1 < w1.heap.size := by omega
  go_wp2_with fail
  refine (HV2.out _).mono ?_
  rintro e w2 ⟨rfl, hb2⟩
  obtain ⟨hc2, hf2⟩ := bcell hb2
  have hz2 := bsize hb2
  have l0 : w.heap.size < w2.heap.size := by omega
  have l1 : w.heap.size + 1 < w2.heap.size := by omega
  have l2 : w.heap.size + 1 + 1 < w2.heap.size := by omega
  go_wp2_with fail
  have e0 : w2.cell? ⟨w.heap.size, 0, none⟩ = some (.int .i64 an) := by simp [go_sem, hc2, hc1, k0, k1, k2, l0, l1, l2]
  have e1 : w2.cell? ⟨w.heap.size, 1, none⟩ = some (.int .i64 ad) := by simp [go_sem, hc2, hc1, k0, k1, k2, l0, l1, l2]
  have e2 : w2.cell? ⟨w.heap.size + 1, 0, none⟩ = some (.int .i64 bn) := by simp [go_sem, hc2, hc1, k0, k1, k2, l0, l1, l2]
  have e3 : w2.cell? ⟨w.heap.size + 1, 1, none⟩ = some (.int .i64 bd) := by simp [go_sem, hc2, hc1, k0, k1, k2, l0, l1, l2]
  have r0 : w2.cell? ⟨w.heap.size + 1 + 1, 0, none⟩ = some (.int .i64 0) := by simp [go_sem, hc2, hc1, k0, k1, k2, l0, l1, l2]
  have r1 : w2.cell? ⟨w.heap.size + 1 + 1, 1, none⟩ = some (.int .i64 0) := by simp [go_sem, hc2, hc1, k0, k1, k2, l0, l1, l2]
  have f0 : w2.frozen? ⟨w.heap.size + 1 + 1, 0, none⟩ = false := by simp [go_sem, hf2, hf1, k0, k1, k2, l0, l1, l2]
  have f1 : w2.frozen? ⟨w.heap.size + 1 + 1, 1, none⟩ = false := by simp [go_sem, hf2, hf1, k0, k1, k2, l0, l1, l2]
  have hbW : Below w.heap.size w w2 := (by repeat (first | with_reducible exact Below.refl _ _ | (with_reducible refine Below.setCell ?_ (by first | exact Nat.le_refl _ | omega | (simp; done) | (simp; omega)) _) | (with_reducible refine Below.alloc ?_ (by first | exact Nat.le_refl _ | omega | (simp; done) | (simp; omega)) _) | with_reducible refine Below.drew ?_ | with_reducible refine bel_drewN ?_ _ | (with_reducible refine bel_by (by with_reducible assumption) (by first | exact Nat.le_refl _ | omega | (simp; done) | (simp; omega)) ?_)))
  clear hc1 hf1 hb1 hz1 k0 k1 k2 hc2 hf2 hb2 hz2
  go_region_held3 (fun w' => w'.cell? ⟨w.heap.size, 0, none⟩ = some (.int .i64 an) ∧ w'.cell? ⟨w.heap.size, 1, none⟩ = some (.int .i64 ad) ∧ w'.cell? ⟨w.heap.size + 1, 0, none⟩ = some (.int .i64 bn) ∧ w'.cell? ⟨w.heap.size + 1, 1, none⟩ = some (.int .i64 bd))
    ((first | (simp [go_sem, e0, e1, e2, e3]; done) | (simp [go_sem, hc3, e0, e1, e2, e3, l0, l1]; done) | (simp [go_sem, hc4, hc3, e0, e1, e2, e3, l0, l1, ka3, kb3]; done) | (simp [go_sem, hc5, hc4, hc3, e0, e1, e2, e3, l0, l1, ka3, kb3, ka4, kb4]; done)))
    (first
      | (go_at_call_of 64 (Value.int .i64 an); refine (S1.out _).mono ?_; rintro e w3 ⟨rfl, rfl⟩)
      | (go_at_call_of 64 (Value.int .i64 bn); refine (S2.out _).mono ?_; rintro e w3 ⟨rfl, rfl⟩)
      | (go_at_call_of 63 (Value.int .u64 x); refine (P1.out _).mono ?_; rintro e w3 ⟨rfl, hb3⟩; (try (with_reducible replace hb3 := undrew hb3)); obtain ⟨hc3, hf3⟩ := bcell hb3; have hz3 := bsize hb3; (try simp at hz3); have ka3 : w.heap.size < w3.heap.size := (by omega); have kb3 : w.heap.size + 1 < w3.heap.size := (by omega); have kc3 : w.heap.size + 1 + 1 < w3.heap.size := (by omega))
      | (go_at_call_of 63 (Value.int .u64 ad); refine (P2.out _).mono ?_; rintro e w4 ⟨rfl, hb4⟩; (try (with_reducible replace hb4 := undrew hb4)); obtain ⟨hc4, hf4⟩ := bcell hb4; have hz4 := bsize hb4; (try simp at hz4); have ka4 : w.heap.size < w4.heap.size := (by omega); have kb4 : w.heap.size + 1 < w4.heap.size := (by omega); have kc4 : w.heap.size + 1 + 1 < w4.heap.size := (by omega))
      | (go_at_call 69; refine (HR.out _).mono ?_; rintro e w5 ⟨rfl, hb5⟩; (try (with_reducible replace hb5 := undrew hb5)); obtain ⟨hc5, hf5⟩ := bcell hb5; have hz5 := bsize hb5; (try simp at hz5); have ka5 : w.heap.size < w5.heap.size := (by omega); have kb5 : w.heap.size + 1 < w5.heap.size := (by omega); have kc5 : w.heap.size + 1 + 1 < w5.heap.size := (by omega)))
  all_goals
    go_wp2
    refine bodyPost_ret (v := fracE t) (by simp [results, Try.results56, go_sem, hc5, hf5, hc4, hf4, hc3, hf3, kc3, kc4, kc5, l2, r0, r1, f0, f1]) rfl ⟨rfl, (by repeat (first | with_reducible exact Below.refl _ _ | (with_reducible refine Below.setCell ?_ (by first | exact Nat.le_refl _ | omega | (simp; done) | (simp; omega)) _) | (with_reducible refine Below.alloc ?_ (by first | exact Nat.le_refl _ | omega | (simp; done) | (simp; omega)) _) | with_reducible refine Below.drew ?_ | with_reducible refine bel_drewN ?_ _ | (with_reducible refine bel_by (by with_reducible assumption) (by first | exact Nat.le_refl _ | omega | (simp; done) | (simp; omega)) ?_)))⟩

theorem rmul_any (an ad bn bd : Int) (W1 : Wf64 (an, ad)) (W2 : Wf64 (bn, bd)) (w : World) :
    Calls Try.prog 56 #[.agg #[.int .i64 an, .int .i64 ad], .agg #[.int .i64 bn, .int .i64 bd]] w fun e w' => e = .returned (fracE (mulS an ad bn bd)) ∧ Below w.heap.size w w' := by
  unfold mulS
  cases ha : vldI an ad with
  | false => simpa using rmul_no1 an ad bn bd W1 W2 ha w
  | true =>
    cases hb : vldI bn bd with
    | false => simpa using rmul_no2 an ad bn bd W1 W2 ha hb w
    | true => simpa using rmul_yes an ad bn bd W1 W2 ha hb w

set_option maxHeartbeats 2000000 in
set_option maxRecDepth 100000 in
theorem rdiv_no1 (an ad bn bd : Int) (W1 : Wf64 (an, ad)) (W2 : Wf64 (bn, bd)) (av : vldI an ad = false) (w : World) :
    Calls Try.prog 57 #[.agg #[.int .i64 an, .int .i64 ad], .agg #[.int .i64 bn, .int .i64 bd]] w fun e w' => e = .returned (fracE (0, 0, 1)) ∧ Below w.heap.size w w' := by
  obtain ⟨A1, A2, A3, A4⟩ := W1
  obtain ⟨B1, B2, B3, B4⟩ := W2
  simp only at A1 A2 A3 A4 B1 B2 B3 B4
  have V1 := fun W => rvalid_any an ad A1 A2 A3 A4 W
  rw [av] at V1
  have HV1 := Lib.hid V1
  clear V1 av A1 A2 A3 A4 B1 B2 B3 B4
  go_enter Try.func57, Try.ntmps57
  go_wp2_with fail
  refine (HV1.out _).mono ?_
  rintro e w1 ⟨rfl, hb1⟩
  obtain ⟨hc1, hf1⟩ := bcell hb1
  have hz1 := bsize hb1
  simp at hz1
  have k0 : w.heap.size < w1.heap.size := by omega
  have k1 : w.heap.size + 1 < w1.heap.size := by omega
  have k2 : w.heap.size + 1 + 1 < w1.heap.size := by omega
  go_wp2
  refine bodyPost_ret (v := fracE (0, 0, 1)) (by simp [results, Try.results57, go_sem, hc1, hf1, k0, k1, k2]) rfl ⟨rfl, (by repeat (first | with_reducible exact Below.refl _ _ | (with_reducible refine Below.setCell ?_ (by first | exact Nat.le_refl _ | omega | (simp; done) | (simp; omega)) _) | (with_reducible refine Below.alloc ?_ (by first | exact Nat.le_refl _ | omega | (simp; done) | (simp; omega)) _) | with_reducible refine Below.drew ?_ | with_reducible refine bel_drewN ?_ _ | (with_reducible refine bel_by (by with_reducible assumption) (by first | exact Nat.le_refl _ | omega | (simp; done) | (simp; omega)) ?_)))⟩

set_option maxHeartbeats 2000000 in
set_option maxRecDepth 100000 in
theorem rdiv_no2 (an ad bn bd : Int) (W1 : Wf64 (an, ad)) (W2 : Wf64 (bn, bd)) (av : vldI an ad = true) (bv : vldI bn bd = false) (w : World) :
    Calls Try.prog 57 #[.agg #[.int .i64 an, .int .i64 ad], .agg #[.int .i64 bn, .int .i64 bd]] w fun e w' => e = .returned (fracE (0, 0, 1)) ∧ Below w.heap.size w w' := by
  obtain ⟨A1, A2, A3, A4⟩ := W1
  obtain ⟨B1, B2, B3, B4⟩ := W2
  simp only at A1 A2 A3 A4 B1 B2 B3 B4
  have V1 := fun W => rvalid_any an ad A1 A2 A3 A4 W
  have V2 := fun W => rvalid_any bn bd B1 B2 B3 B4 W
  rw [av] at V1
  rw [bv] at V2
  have HV1 := Lib.hid V1
  have HV2 := Lib.hid V2
  clear V1 V2 av bv A1 A2 A3 A4 B1 B2 B3 B4
  go_enter Try.func57, Try.ntmps57
  go_wp2_with fail
  refine (HV1.out _).mono ?_
  rintro e w1 ⟨rfl, hb1⟩
  obtain ⟨hc1, hf1⟩ := bcell hb1
  have hz1 := bsize hb1
  simp at hz1
  have k0 : w.heap.size < w1.heap.size := by omega
  have k1 : w.heap.size + 1 < w1.heap.size := by omega
  have k2 : w.heap.size + 1 + 1 < w1.heap.size := by omega
  go_wp2_with fail
  refine (HV2.out _).mono ?_
  rintro e w2 ⟨rfl, hb2⟩
  obtain ⟨hc2, hf2⟩ := bcell hb2
  have hz2 := bsize hb2
  have l0 : w.heap.size < w2.heap.size := by omega
  have l1 : w.heap.size + 1 < w2.heap.size := by omega
  have l2 : w.heap.size + 1 + 1 < w2.heap.size := by omega
  go_wp2
  refine bodyPost_ret (v := fracE (0, 0, 1)) (by simp [results, Try.results57, go_sem, hc1, hf1, k0, k1, k2, hc2, hf2, l0, l1, l2]) rfl ⟨rfl, (by repeat (first | with_reducible exact Below.refl _ _ | (with_reducible refine Below.setCell ?_ (by first | exact Nat.le_refl _ | omega | (simp; done) | (simp; omega)) _) | (with_reducible refine Below.alloc ?_ (by first | exact Nat.le_refl _ | omega | (simp; done) | (simp; omega)) _) | with_reducible refine Below.drew ?_ | with_reducible refine bel_drewN ?_ _ | (with_reducible refine bel_by (by with_reducible assumption) (by first | exact Nat.le_refl _ | omega | (simp; done) | (simp; omega)) ?_)))⟩

set_option maxHeartbeats 2000000 in
set_option maxRecDepth 100000 in
theorem rdiv_no3 (an ad bn bd : Int) (W1 : Wf64 (an, ad)) (W2 : Wf64 (bn, bd)) (av : vldI an ad = true) (bv : vldI bn bd = true) (hz : bn = 0) (w : World) :
    Calls Try.prog 57 #[.agg #[.int .i64 an, .int .i64 ad], .agg #[.int .i64 bn, .int .i64 bd]] w fun e w' => e = .returned (fracE (0, 0, 1)) ∧ Below w.heap.size w w' := by
  obtain ⟨A1, A2, A3, A4⟩ := W1
  obtain ⟨B1, B2, B3, B4⟩ := W2
  simp only at A1 A2 A3 A4 B1 B2 B3 B4
  have V1 := fun W => rvalid_any an ad A1 A2 A3 A4 W
  have V2 := fun W => rvalid_any bn bd B1 B2 B3 B4 W
  rw [av] at V1
  rw [bv] at V2
  have HV1 := Lib.hid V1
  have HV2 := Lib.hid V2
  clear V1 V2 av bv A1 A2 A3 A4 B1 B2 B3 B4
  subst hz
  go_enter Try.func57, Try.ntmps57
  go_wp2_with fail
  refine (HV1.out _).mono ?_
  rintro e w1 ⟨rfl, hb1⟩
  obtain ⟨hc1, hf1⟩ := bcell hb1
  have hz1 := bsize hb1
  simp at hz1
  have k0 : w.heap.size < w1.heap.size := by omega
  have k1 : w.heap.size + 1 < w1.heap.size := by omega
  have k2 : w.heap.size + 1 + 1 < w1.heap.size := by omega
  go_wp2_with fail
  refine (HV2.out _).mono ?_
  rintro e w2 ⟨rfl, hb2⟩
  obtain ⟨hc2, hf2⟩ := bcell hb2
  have hz2 := bsize hb2
  have l0 : w.heap.size < w2.heap.size := by omega
  have l1 : w.heap.size + 1 < w2.heap.size := by omega
  have l2 : w.heap.size + 1 + 1 < w2.heap.size := by omega
  go_wp2
  refine bodyPost_ret (v := fracE (0, 0, 1)) (by simp [results, Try.results57, go_sem, hc1, hf1, k0, k1, k2, hc2, hf2, l0, l1, l2]) rfl ⟨rfl, (by repeat (first | with_reducible exact Below.refl _ _ | (with_reducible refine Below.setCell ?_ (by first | exact Nat.le_refl _ | omega | (simp; done) | (simp; omega)) _) | (with_reducible refine Below.alloc ?_ (by first | exact Nat.le_refl _ | omega | (simp; done) | (simp; omega)) _) | with_reducible refine Below.drew ?_ | with_reducible refine bel_drewN ?_ _ | (with_reducible refine bel_by (by with_reducible assumption) (by first | exact Nat.le_refl _ | omega | (simp; done) | (simp; omega)) ?_)))⟩

set_option maxHeartbeats 2000000 in
set_option maxRecDepth 100000 in
theorem rdiv_yes (an ad bn bd : Int) (W1 : Wf64 (an, ad)) (W2 : Wf64 (bn, bd)) (av : vldI an ad = true) (bv : vldI bn bd = true) (hz : bn ≠ 0) (w : World) :
    Calls Try.prog 57 #[.agg #[.int .i64 an, .int .i64 ad], .agg #[.int .i64 bn, .int .i64 bd]] w fun e w' => e = .returned (fracE (mulR an ad (if bn < 0 then -bd else bd) (absI bn))) ∧ Below w.heap.size w w' := by
  obtain ⟨A1, A2, A3, A4⟩ := W1
  obtain ⟨B1, B2, B3, B4⟩ := W2
  simp only at A1 A2 A3 A4 B1 B2 B3 B4
  have V1 := fun W => rvalid_any an ad A1 A2 A3 A4 W
  have V2 := fun W => rvalid_any bn bd B1 B2 B3 B4 W
  obtain ⟨a1, a2, a3, a4, _⟩ := vldI_out av
  obtain ⟨b1, b2, b3, b4, _⟩ := vldI_out bv
  have S1 := Lib.hid (fun W => rsize_any an (by omega) (by omega) W)
  have S2 := Lib.hid (fun W => rsize_any bn (by omega) (by omega) W)
  have x0 := absI_0 an
  have x1 : absI an ≤ 1000000000000000000 := by unfold absI; omega
  have y0 := absI_0 bn
  have y1 : absI bn ≤ 1000000000000000000 := by unfold absI; omega
  have y2 : 1 ≤ absI bn := by unfold absI; omega
  have bz : (bn == 0) = false := by simpa using hz
  have n0 : 0 ≤ absI an * bd := Int.mul_nonneg (by omega) (by omega)
  have n1 : absI an * bd ≤ 1000000000000000000000000000000000000 := mul_small (by omega) (by omega) (by omega) (by omega)
  have d0 : 0 < ad * absI bn := Int.mul_pos (by omega) (by omega)
  have d1 : ad * absI bn ≤ 1000000000000000000000000000000000000 := mul_small (by omega) (by omega) (by omega) (by omega)
  have P1 := Lib.hid (fun W => rprod_any (absI an) bd (by omega) (by omega) (by omega) (by omega) W)
  have P2 := Lib.hid (fun W => rprod_any ad (absI bn) (by omega) (by omega) (by omega) (by omega) W)
  have R := fun W => rbuild_any (decide (an < 0) != decide (bn < 0)) (absI an * bd) (ad * absI bn) n0 (by omega) d0 (by omega) W
  rw [rdiv_eq an ad bn bd av bv hz] at R
  rw [av] at V1
  rw [bv] at V2
  have HV1 := Lib.hid V1
  have HV2 := Lib.hid V2
  have HR := Lib.hid R
  clear V1 V2 R av bv A1 A2 A3 A4 B1 B2 B3 B4 n0 n1 d0 d1
  generalize (mulR an ad (if bn < 0 then -bd else bd) (absI bn)) = t at *
  generalize absI an * bd = p at *
  generalize ad * absI bn = q at *
  generalize absI an = x at *
  generalize absI bn = y at *
  have qa : IntKind.u64.wrap ad = ad := IntWalk.u64_in _ (by omega)
  have qb : IntKind.u64.wrap bd = bd := IntWalk.u64_in _ (by omega)
  go_enter Try.func57, Try.ntmps57
  go_wp2_with fail
  refine (HV1.out _).mono ?_
  rintro e w1 ⟨rfl, hb1⟩
  obtain ⟨hc1, hf1⟩ := bcell hb1
  have hz1 := bsize hb1
  simp at hz1
  have k0 : w.heap.size < w1.heap.size := by omega
  have k1 : w.heap.size + 1 < w1.heap.size := by omega
  have k2 : w.heap.size + 1 + 1 < w1.heap.size := by omega
  go_wp2_with fail
  refine (HV2.out _).mono ?_
  rintro e w2 ⟨rfl, hb2⟩
  obtain ⟨hc2, hf2⟩ := bcell hb2
  have hz2 := bsize hb2
  have l0 : w.heap.size < w2.heap.size := by omega
  have l1 : w.heap.size + 1 < w2.heap.size := by omega
  have l2 : w.heap.size + 1 + 1 < w2.heap.size := by omega
  go_wp2_with fail
  have e0 : w2.cell? ⟨w.heap.size, 0, none⟩ = some (.int .i64 an) := by simp [go_sem, hc2, hc1, k0, k1, k2, l0, l1, l2]
  have e1 : w2.cell? ⟨w.heap.size, 1, none⟩ = some (.int .i64 ad) := by simp [go_sem, hc2, hc1, k0, k1, k2, l0, l1, l2]
  have e2 : w2.cell? ⟨w.heap.size + 1, 0, none⟩ = some (.int .i64 bn) := by simp [go_sem, hc2, hc1, k0, k1, k2, l0, l1, l2]
  have e3 : w2.cell? ⟨w.heap.size + 1, 1, none⟩ = some (.int .i64 bd) := by simp [go_sem, hc2, hc1, k0, k1, k2, l0, l1, l2]
  have r0 : w2.cell? ⟨w.heap.size + 1 + 1, 0, none⟩ = some (.int .i64 0) := by simp [go_sem, hc2, hc1, k0, k1, k2, l0, l1, l2]
  have r1 : w2.cell? ⟨w.heap.size + 1 + 1, 1, none⟩ = some (.int .i64 0) := by simp [go_sem, hc2, hc1, k0, k1, k2, l0, l1, l2]
  have f0 : w2.frozen? ⟨w.heap.size + 1 + 1, 0, none⟩ = false := by simp [go_sem, hf2, hf1, k0, k1, k2, l0, l1, l2]
  have f1 : w2.frozen? ⟨w.heap.size + 1 + 1, 1, none⟩ = false := by simp [go_sem, hf2, hf1, k0, k1, k2, l0, l1, l2]
  have hbW : Below w.heap.size w w2 := (by repeat (first | with_reducible exact Below.refl _ _ | (with_reducible refine Below.setCell ?_ (by first | exact Nat.le_refl _ | omega | (simp; done) | (simp; omega)) _) | (with_reducible refine Below.alloc ?_ (by first | exact Nat.le_refl _ | omega | (simp; done) | (simp; omega)) _) | with_reducible refine Below.drew ?_ | with_reducible refine bel_drewN ?_ _ | (with_reducible refine bel_by (by with_reducible assumption) (by first | exact Nat.le_refl _ | omega | (simp; done) | (simp; omega)) ?_)))
  clear hc1 hf1 hb1 hz1 k0 k1 k2 hc2 hf2 hb2 hz2
  go_region_held3 (fun w' => w'.cell? ⟨w.heap.size, 0, none⟩ = some (.int .i64 an) ∧ w'.cell? ⟨w.heap.size, 1, none⟩ = some (.int .i64 ad) ∧ w'.cell? ⟨w.heap.size + 1, 0, none⟩ = some (.int .i64 bn) ∧ w'.cell? ⟨w.heap.size + 1, 1, none⟩ = some (.int .i64 bd))
    ((first | (simp [go_sem, e0, e1, e2, e3]; done) | (simp [go_sem, hc3, e0, e1, e2, e3, l0, l1]; done) | (simp [go_sem, hc4, hc3, e0, e1, e2, e3, l0, l1, ka3, kb3]; done) | (simp [go_sem, hc5, hc4, hc3, e0, e1, e2, e3, l0, l1, ka3, kb3, ka4, kb4]; done)))
    (first
      | (go_at_call_of 64 (Value.int .i64 an); refine (S1.out _).mono ?_; rintro e w3 ⟨rfl, rfl⟩)
      | (go_at_call_of 64 (Value.int .i64 bn); refine (S2.out _).mono ?_; rintro e w3 ⟨rfl, rfl⟩)
      | (go_at_call_of 63 (Value.int .u64 x); refine (P1.out _).mono ?_; rintro e w3 ⟨rfl, hb3⟩; (try (with_reducible replace hb3 := undrew hb3)); obtain ⟨hc3, hf3⟩ := bcell hb3; have hz3 := bsize hb3; (try simp at hz3); have ka3 : w.heap.size < w3.heap.size := (by omega); have kb3 : w.heap.size + 1 < w3.heap.size := (by omega); have kc3 : w.heap.size + 1 + 1 < w3.heap.size := (by omega))
      | (go_at_call_of 63 (Value.int .u64 ad); refine (P2.out _).mono ?_; rintro e w4 ⟨rfl, hb4⟩; (try (with_reducible replace hb4 := undrew hb4)); obtain ⟨hc4, hf4⟩ := bcell hb4; have hz4 := bsize hb4; (try simp at hz4); have ka4 : w.heap.size < w4.heap.size := (by omega); have kb4 : w.heap.size + 1 < w4.heap.size := (by omega); have kc4 : w.heap.size + 1 + 1 < w4.heap.size := (by omega))
      | (go_at_call 69; refine (HR.out _).mono ?_; rintro e w5 ⟨rfl, hb5⟩; (try (with_reducible replace hb5 := undrew hb5)); obtain ⟨hc5, hf5⟩ := bcell hb5; have hz5 := bsize hb5; (try simp at hz5); have ka5 : w.heap.size < w5.heap.size := (by omega); have kb5 : w.heap.size + 1 < w5.heap.size := (by omega); have kc5 : w.heap.size + 1 + 1 < w5.heap.size := (by omega)))
  all_goals
    go_wp2
    refine bodyPost_ret (v := fracE t) (by simp [results, Try.results57, go_sem, hc5, hf5, hc4, hf4, hc3, hf3, kc3, kc4, kc5, l2, r0, r1, f0, f1]) rfl ⟨rfl, (by repeat (first | with_reducible exact Below.refl _ _ | (with_reducible refine Below.setCell ?_ (by first | exact Nat.le_refl _ | omega | (simp; done) | (simp; omega)) _) | (with_reducible refine Below.alloc ?_ (by first | exact Nat.le_refl _ | omega | (simp; done) | (simp; omega)) _) | with_reducible refine Below.drew ?_ | with_reducible refine bel_drewN ?_ _ | (with_reducible refine bel_by (by with_reducible assumption) (by first | exact Nat.le_refl _ | omega | (simp; done) | (simp; omega)) ?_)))⟩

theorem rdiv_any (an ad bn bd : Int) (W1 : Wf64 (an, ad)) (W2 : Wf64 (bn, bd)) (w : World) :
    Calls Try.prog 57 #[.agg #[.int .i64 an, .int .i64 ad], .agg #[.int .i64 bn, .int .i64 bd]] w fun e w' => e = .returned (fracE (divS an ad bn bd)) ∧ Below w.heap.size w w' := by
  unfold divS
  cases ha : vldI an ad with
  | false => simpa using rdiv_no1 an ad bn bd W1 W2 ha w
  | true =>
    cases hb : vldI bn bd with
    | false => simpa using rdiv_no2 an ad bn bd W1 W2 ha hb w
    | true =>
      by_cases hz : bn = 0
      · rw [if_neg (fun h => h.2 hz)]
        exact rdiv_no3 an ad bn bd W1 W2 ha hb hz w
      · rw [if_pos ⟨rfl, hz⟩]
        unfold mulS
        rw [ha, inv_vld hb hz]
        simpa using rdiv_yes an ad bn bd W1 W2 ha hb hz w
end Go.Proofs.Ytbjmibaepccbeaa
