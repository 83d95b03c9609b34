/- Contracts of package fraction, ninth part: sum, Add, Sub. -/
import Derived.Test.YtbjmibaepccbeaaNumH
set_option linter.unusedSimpArgs false
set_option linter.unusedVariables false
namespace Go.Proofs.Ytbjmibaepccbeaa
open Go.RowKit

/-- what sum computes -/
def sumR (an ad bn bd : Int) : Bool × Int := ssN (decide (an < 0)) (absI an * (bd / gcdI ad bd)) (decide (bn < 0)) (absI bn * (ad / gcdI ad bd))
def sumC (an ad bn bd : Int) : Int := gcdI ((sumR an ad bn bd).2 % gcdI ad bd) (gcdI ad bd)
def sumS (an ad bn bd : Int) : Int × Int × Int :=
  nrm (sumR an ad bn bd).1 ((sumR an ad bn bd).2 / sumC an ad bn bd) (ad / gcdI ad bd * (bd / sumC an ad bn bd))

theorem ssN_0 (na nb : Bool) {A B : Int} (ha : 0 ≤ A) (hb : 0 ≤ B) : 0 ≤ (ssN na A nb B).2 := by
  unfold ssN; split
  · simp; omega
  · split <;> simp <;> omega
theorem ssN_1 (na nb : Bool) {A B : Int} (ha : 0 ≤ A) (hb : 0 ≤ B) : (ssN na A nb B).2 ≤ A + B := by
  unfold ssN; split
  · simp
  · split <;> simp <;> omega
theorem mul_small {a b : Int} (ha : 0 ≤ a) (ha' : a ≤ 1000000000000000000) (hb : 0 ≤ b) (hb' : b ≤ 1000000000000000000) : a * b ≤ 1000000000000000000000000000000000000 := by
  have h1 : a * b ≤ a * 1000000000000000000 := Int.mul_le_mul_of_nonneg_left hb' ha
  omega

theorem undrew {W w1 : World} (hb : Below W.drew.heap.size W.drew w1) : Below W.heap.size W w1 := ⟨hb.os, hb.tape, hb.output, hb.size, hb.block⟩

set_option maxHeartbeats 2000000 in
set_option maxRecDepth 100000 in
/-- fraction.sum, of two fractions -/
theorem sum_any (an ad bn bd : Int) (av : vldI an ad = true) (bv : vldI bn bd = true) (w : World) :
    Calls Try.prog 76 #[.agg #[.int .i64 an, .int .i64 ad], .agg #[.int .i64 bn, .int .i64 bd]] w fun e w' => e = .returned (fracE (sumS an ad bn bd)) ∧ Below w.heap.size w w' := by
  obtain ⟨a1, a2, a3, a4, a5⟩ := vldI_out av
  obtain ⟨b1, b2, b3, b4, b5⟩ := vldI_out bv
  clear a5 b5 av bv
  have M1 := Lib.hid (fun W => magnitude_any an (by omega) (by omega) W)
  have M2 := Lib.hid (fun W => magnitude_any bn (by omega) (by omega) W)
  have x0 := absI_0 an
  have x1 : absI an ≤ 1000000000000000000 := by unfold absI; omega
  have y0 := absI_0 bn
  have y1 : absI bn ≤ 1000000000000000000 := by unfold absI; omega
  have G1 := Lib.hid (fun W => divisor_any ad bd (by omega) (by omega) (by omega) (by omega) W)
  have d0 := gcdI_pos ad bd (by omega)
  have d1 := gcdI_le ad bd (by omega)
  unfold sumS sumC sumR
  generalize absI an = x at *
  generalize absI bn = y at *
  generalize gcdI ad bd = d at *
  have p2 : 0 ≤ ad / d ∧ ad / d ≤ 1000000000000000000 := ⟨Int.ediv_nonneg (by omega) (by omega), Int.le_trans (Int.ediv_le_self d (by omega)) a2⟩
  have p3 : 0 ≤ bd / d ∧ bd / d ≤ 1000000000000000000 := ⟨Int.ediv_nonneg (by omega) (by omega), Int.le_trans (Int.ediv_le_self d (by omega)) b2⟩
  have q3 : IntKind.u64.wrap (ad.tdiv d) = ad / d := IntWalk.u64_quo _ _ (by omega)
  have q4 : IntKind.u64.wrap (bd.tdiv d) = bd / d := IntWalk.u64_quo _ _ (by omega)
  have P1 := Lib.hid (fun W => multiply_any x (bd / d) (by omega) (by omega) (by omega) (by omega) W)
  have P2 := Lib.hid (fun W => multiply_any y (ad / d) (by omega) (by omega) (by omega) (by omega) W)
  generalize ad / d = rA at *
  generalize bd / d = rB at *
  have A0 : 0 ≤ x * rB := Int.mul_nonneg x0 p3.1
  have A1 : x * rB ≤ 1000000000000000000000000000000000000 := mul_small x0 x1 p3.1 p3.2
  have B0 : 0 ≤ y * rA := Int.mul_nonneg y0 p2.1
  have B1 : y * rA ≤ 1000000000000000000000000000000000000 := mul_small y0 y1 p2.1 p2.2
  generalize x * rB = A at *
  generalize y * rA = B at *
  have SS := fun W => ssum_any (decide (an < 0)) (decide (bn < 0)) (hiW A) (loW A) (hiW B) (loW B) (hiW_0 A0) (hiW_1 (by unfold B128; omega)) (loW_0 A) (loW_1 A) (hiW_0 B0) (hiW_1 (by unfold B128; omega)) (loW_0 B) (loW_1 B) (by rw [valW_words, valW_words]; unfold B128; omega) W
  rw [valW_words, valW_words] at SS
  have S0 := ssN_0 (decide (an < 0)) (decide (bn < 0)) A0 B0
  have S1 := Int.le_trans (ssN_1 (decide (an < 0)) (decide (bn < 0)) A0 B0) (show A + B ≤ 2000000000000000000000000000000000000 by omega)
  clear A0 A1 B0 B1
  generalize (ssN (decide (an < 0)) A (decide (bn < 0)) B).1 = sb at *
  generalize (ssN (decide (an < 0)) A (decide (bn < 0)) B).2 = S at *
  have HSS := Lib.hid SS
  clear SS
  have r0 : 0 ≤ S % d := Int.emod_nonneg _ (by omega)
  have r1 : S % d < d := Int.emod_lt_of_pos _ (by omega)
  have SP := fun W => split_any (hiW S) (loW S) d (hiW_0 S0) (hiW_1 (by unfold B128; omega)) (loW_0 S) (loW_1 S) (by omega) (by omega) W
  rw [valW_words] at SP
  have G2 := Lib.hid (fun W => divisor_any (S % d) d r0 (by omega) (by omega) (by omega) W)
  have c0 := gcdI_pos (S % d) d (by omega)
  have c1 := gcdI_le (S % d) d (by omega)
  generalize gcdI (S % d) d = c at *
  have SQ := fun W => split_any (hiW S) (loW S) c (hiW_0 S0) (hiW_1 (by unfold B128; omega)) (loW_0 S) (loW_1 S) (by omega) (by omega) W
  rw [valW_words] at SQ
  have HSP := Lib.hid SP
  have HSQ := Lib.hid SQ
  clear SP SQ
  have t0 : 0 ≤ S / c := Int.ediv_nonneg S0 (by omega)
  have t1 : S / c ≤ 2000000000000000000000000000000000000 := Int.le_trans (Int.ediv_le_self c S0) S1
  have p4 : 0 ≤ bd / c ∧ bd / c ≤ 1000000000000000000 := ⟨Int.ediv_nonneg (by omega) (by omega), Int.le_trans (Int.ediv_le_self c (by omega)) b2⟩
  have q5 : IntKind.u64.wrap (bd.tdiv c) = bd / c := IntWalk.u64_quo _ _ (by omega)
  have P3 := Lib.hid (fun W => multiply_any rA (bd / c) (by omega) (by omega) (by omega) (by omega) W)
  have D0 : 0 ≤ rA * (bd / c) := Int.mul_nonneg p2.1 p4.1
  have D1 : rA * (bd / c) ≤ 1000000000000000000000000000000000000 := mul_small p2.1 p2.2 p4.1 p4.2
  generalize rA * (bd / c) = D at *
  have NN := fun W => normalized_any sb (hiW (S / c)) (loW (S / c)) (hiW D) (loW D) (hiW_0 t0) (hiW_1 (by unfold B128; omega)) (loW_0 _) (loW_1 _) (hiW_0 D0) (hiW_1 (by unfold B128; omega)) (loW_0 D) (loW_1 D) W
  rw [valW_words, valW_words] at NN
  have HN := Lib.hid NN
  clear NN D0 D1 t0 t1 S0 S1
  generalize nrm sb (S / c) D = t at *
  generalize S / c = Sc at *
  generalize S / d = Sd at *
  generalize S % d = Sr at *
  have dz : ¬ d = 0 := by omega
  have cz : ¬ c = 0 := by omega
  go_enter Try.func76, Try.ntmps76
  go_wp2_with fail
  refine (G1.out _).mono ?_
  rintro e w1 ⟨rfl, nn, rfl⟩
  go_wp2_with fail
  go_quiet (fail)
  revert nq
  intro nqa
  go_upto_region 3 with fail
  have hbA : Below w.heap.size w (((((w.alloc (.cells #[.int .i64 an, .int .i64 ad] 23)).alloc (.cells #[.int .i64 bn, .int .i64 bd] 23)).alloc (.cells #[.int .i64 0, .int .i64 0] 23)).drewN nn).drewN nqa) := (by repeat (first | with_reducible exact Below.refl _ _ | (with_reducible refine Below.setCell ?_ (by first | exact Nat.le_refl _ | omega | (simp; done) | (simp; omega)) _) | (with_reducible refine Below.alloc ?_ (by first | exact Nat.le_refl _ | omega | (simp; done) | (simp; omega)) _) | with_reducible refine Below.drew ?_ | with_reducible refine bel_drewN ?_ _ | (with_reducible refine bel_by (by with_reducible assumption) (by first | exact Nat.le_refl _ | omega | (simp; done) | (simp; omega)) ?_)))
  have hA : Below (((w.alloc (.cells #[.int .i64 an, .int .i64 ad] 23)).alloc (.cells #[.int .i64 bn, .int .i64 bd] 23)).alloc (.cells #[.int .i64 0, .int .i64 0] 23)).heap.size (((w.alloc (.cells #[.int .i64 an, .int .i64 ad] 23)).alloc (.cells #[.int .i64 bn, .int .i64 bd] 23)).alloc (.cells #[.int .i64 0, .int .i64 0] 23)) (((((w.alloc (.cells #[.int .i64 an, .int .i64 ad] 23)).alloc (.cells #[.int .i64 bn, .int .i64 bd] 23)).alloc (.cells #[.int .i64 0, .int .i64 0] 23)).drewN nn).drewN nqa) := (by repeat (first | with_reducible exact Below.refl _ _ | (with_reducible refine Below.setCell ?_ (by first | exact Nat.le_refl _ | omega | (simp; done) | (simp; omega)) _) | (with_reducible refine Below.alloc ?_ (by first | exact Nat.le_refl _ | omega | (simp; done) | (simp; omega)) _) | with_reducible refine Below.drew ?_ | with_reducible refine bel_drewN ?_ _ | (with_reducible refine bel_by (by with_reducible assumption) (by first | exact Nat.le_refl _ | omega | (simp; done) | (simp; omega)) ?_)))
  generalize (((((w.alloc (.cells #[.int .i64 an, .int .i64 ad] 23)).alloc (.cells #[.int .i64 bn, .int .i64 bd] 23)).alloc (.cells #[.int .i64 0, .int .i64 0] 23)).drewN nn).drewN nqa) = wA at hbA hA ⊢
  obtain ⟨hcA, hfA⟩ := bcell hA
  have hzA := bsize hA
  simp at hzA
  have e0 : wA.cell? ⟨w.heap.size, 0, none⟩ = some (.int .i64 an) := by simp [go_sem, hcA]
  have e1 : wA.cell? ⟨w.heap.size + 1, 0, none⟩ = some (.int .i64 bn) := by simp [go_sem, hcA]
  have e1' : wA.cell? ⟨w.heap.size + 1, 1, none⟩ = some (.int .i64 bd) := by simp [go_sem, hcA]
  have e2 : wA.cell? ⟨w.heap.size + 1 + 1, 0, none⟩ = some (.int .i64 0) := by simp [go_sem, hcA]
  have e3 : wA.cell? ⟨w.heap.size + 1 + 1, 1, none⟩ = some (.int .i64 0) := by simp [go_sem, hcA]
  have e4 : wA.frozen? ⟨w.heap.size + 1 + 1, 0, none⟩ = false := by simp [go_sem, hfA]
  have e5 : wA.frozen? ⟨w.heap.size + 1 + 1, 1, none⟩ = false := by simp [go_sem, hfA]
  have k0 : w.heap.size < wA.heap.size := by omega
  have k1 : w.heap.size + 1 < wA.heap.size := by omega
  have k2 : w.heap.size + 1 + 1 < wA.heap.size := by omega
  have l0 : w.heap.size ≤ wA.heap.size := by omega
  have l1 : w.heap.size + 1 ≤ wA.heap.size := by omega
  clear hcA hfA hA hzA
  go_cut [9, 10] (fun s9 s10 wx => ∃ g : Nat, s9 = .bool sb ∧ s10 = .pointer (some ⟨g, 0, none⟩) ∧ wx.cell? ⟨g, 0, none⟩ = some (.int .u64 (hiW S)) ∧ wx.cell? ⟨g, 1, none⟩ = some (.int .u64 (loW S)) ∧ wx.frozen? ⟨g, 0, none⟩ = false ∧ wx.frozen? ⟨g, 1, none⟩ = false ∧ g < wx.heap.size ∧ wA.heap.size ≤ g ∧ Below wA.heap.size wA wx)
  case first =>
    go_region_held3 (fun w' => w'.cell? ⟨w.heap.size, 0, none⟩ = some (.int .i64 an) ∧ w'.cell? ⟨w.heap.size + 1, 0, none⟩ = some (.int .i64 bn)) ((first | (simp [go_sem, e0, e1, k0, k1, l0, l1]; done) | (simp [go_sem, hc2, e0, e1, k0, k1, l0, l1]; done) | (simp [go_sem, hc2, e0, e1, k0, k1, l0, l1, ka2, kb2, la2, lb2]; done) | (simp [go_sem, hc3, hc2, e0, e1, k0, k1, l0, l1, ka2, kb2, la2, lb2]; done) | (simp [go_sem, hc3, hc2, e0, e1, k0, k1, l0, l1, ka2, kb2, la2, lb2, ka3, kb3, la3, lb3]; done) | (simp [go_sem, hc4, hc3, hc2, e0, e1, k0, k1, l0, l1, ka2, kb2, la2, lb2, ka3, kb3, la3, lb3]; done) | (simp [go_sem, hc4, hc3, hc2, e0, e1, k0, k1, l0, l1, ka2, kb2, la2, lb2, ka3, kb3, la3, lb3, ka4, kb4, la4, lb4]; done)))
      (first
        | (go_at_call_of 59 (Value.int .i64 an); refine (M1.out _).mono ?_; rintro e w2 ⟨rfl, rfl⟩)
        | (go_at_call_of 59 (Value.int .i64 bn); refine (M2.out _).mono ?_; rintro e w2 ⟨rfl, rfl⟩)
        | (go_at_call_of 61 (Value.int .u64 x); refine (P1.out _).mono ?_; rintro e w2 ⟨rfl, hb2⟩; (try (with_reducible replace hb2 := undrew hb2)); obtain ⟨hc2, hf2⟩ := bcell hb2; have hz2 := bsize hb2; (try simp at hz2); have ka2 : w.heap.size < w2.heap.size := (by omega); have la2 : w.heap.size ≤ w2.heap.size := (by omega); have lb2 : w.heap.size + 1 ≤ w2.heap.size := (by omega); have kb2 : w.heap.size + 1 < w2.heap.size := (by omega); try (have kc2 : wA.heap.size < w2.heap.size := (by omega)))
        | (go_at_call_of 61 (Value.int .u64 y); refine (P2.out _).mono ?_; rintro e w3 ⟨rfl, hb3⟩; (try (with_reducible replace hb3 := undrew hb3)); obtain ⟨hc3, hf3⟩ := bcell hb3; have hz3 := bsize hb3; (try simp at hz3); have ka3 : w.heap.size < w3.heap.size := (by omega); have la3 : w.heap.size ≤ w3.heap.size := (by omega); have lb3 : w.heap.size + 1 ≤ w3.heap.size := (by omega); have kb3 : w.heap.size + 1 < w3.heap.size := (by omega); (try (have kc3 : wA.heap.size < w3.heap.size := (by omega))); try (have kd3 : w2.heap.size < w3.heap.size := (by omega)))
        | (go_at_call 81; refine (HSS.out _).mono ?_; rintro e w4 ⟨rfl, hb4⟩; (try (with_reducible replace hb4 := undrew hb4)); obtain ⟨hc4, hf4⟩ := bcell hb4; have hz4 := bsize hb4; (try simp at hz4); have ka4 : w.heap.size < w4.heap.size := (by omega); have la4 : w.heap.size ≤ w4.heap.size := (by omega); have lb4 : w.heap.size + 1 ≤ w4.heap.size := (by omega); have kb4 : w.heap.size + 1 < w4.heap.size := (by omega); (try (have kc4 : wA.heap.size < w4.heap.size := (by omega))); (try (have kd4 : w2.heap.size < w4.heap.size := (by omega))); try (have ke4 : w3.heap.size < w4.heap.size := (by omega))))
    all_goals
      go_wp2_with fail
      go_meet
      refine ⟨_, rfl, rfl, ?_, ?_, ?_, ?_, ?_, ?_, (by repeat (first | with_reducible exact Below.refl _ _ | (with_reducible refine Below.setCell ?_ (by first | exact Nat.le_refl _ | omega | (simp; done) | (simp; omega)) _) | (with_reducible refine Below.alloc ?_ (by first | exact Nat.le_refl _ | omega | (simp; done) | (simp; omega)) _) | with_reducible refine Below.drew ?_ | with_reducible refine bel_drewN ?_ _ | (with_reducible refine bel_by (by with_reducible assumption) (by first | exact Nat.le_refl _ | omega | (simp; done) | (simp; omega)) ?_)))⟩
      · first | (simp [go_sem, hc4, hf4]; done) | (simp [go_sem, *]; done)
      · first | (simp [go_sem, hc4, hf4]; done) | (simp [go_sem, *]; done)
      · first | (simp [go_sem, hc4, hf4]; done) | (simp [go_sem, *]; done)
      · first | (simp [go_sem, hc4, hf4]; done) | (simp [go_sem, *]; done)
      · first | (simp; done) | (simp; omega)
      · first | (simp; done) | (simp; omega) | omega
  case rest =>
    obtain ⟨g, rfl, rfl, hg0, hg1, hg2, hg3, hg4, hg5, hbB⟩ := hcut
    have hbW : Below w.heap.size w wc := (by repeat (first | with_reducible exact Below.refl _ _ | (with_reducible refine Below.setCell ?_ (by first | exact Nat.le_refl _ | omega | (simp; done) | (simp; omega)) _) | (with_reducible refine Below.alloc ?_ (by first | exact Nat.le_refl _ | omega | (simp; done) | (simp; omega)) _) | with_reducible refine Below.drew ?_ | with_reducible refine bel_drewN ?_ _ | (with_reducible refine bel_by (by with_reducible assumption) (by first | exact Nat.le_refl _ | omega | (simp; done) | (simp; omega)) ?_)))
    have HBW := Lib.hid hbW
    obtain ⟨hcB, hfB⟩ := bcell hbB
    have hzB := bsize hbB
    have f1' : wc.cell? ⟨w.heap.size + 1, 1, none⟩ = some (.int .i64 bd) := by rw [hcB _ _ k1]; exact e1'
    have f2 : wc.cell? ⟨w.heap.size + 1 + 1, 0, none⟩ = some (.int .i64 0) := by rw [hcB _ _ k2]; exact e2
    have f3 : wc.cell? ⟨w.heap.size + 1 + 1, 1, none⟩ = some (.int .i64 0) := by rw [hcB _ _ k2]; exact e3
    have f4 : wc.frozen? ⟨w.heap.size + 1 + 1, 0, none⟩ = false := by rw [hfB _ _ k2]; exact e4
    have f5 : wc.frozen? ⟨w.heap.size + 1 + 1, 1, none⟩ = false := by rw [hfB _ _ k2]; exact e5
    have m0 : w.heap.size + 1 < wc.heap.size := by omega
    have m1 : w.heap.size + 1 + 1 < wc.heap.size := by omega
    have m2 : w.heap.size + 1 < g := by omega
    have m3 : w.heap.size + 1 + 1 < g := by omega
    clear hcB hfB hbB hbW hbA hzB k0 k1 k2 l0 l1 e0 e1 e1' e2 e3 e4 e5 hg5
    go_wp2_with fail
    refine (HSP.out _).mono ?_
    rintro e w5 ⟨rfl, hb5⟩
    obtain ⟨hc5, hf5⟩ := bcell hb5
    have hz5 := bsize hb5
    have n0 : w.heap.size + 1 < w5.heap.size := by omega
    have n1 : w.heap.size + 1 + 1 < w5.heap.size := by omega
    have n2 : g < w5.heap.size := by omega
    go_wp2_with fail
    refine (G2.out _).mono ?_
    rintro e w6 ⟨rfl, nm, rfl⟩
    go_wp2_with fail
    refine (HSQ.out _).mono ?_
    rintro e w6 ⟨rfl, hb6⟩
    have hq : Below wc.heap.size wc w6 := (by repeat (first | with_reducible exact Below.refl _ _ | (with_reducible refine Below.setCell ?_ (by first | exact Nat.le_refl _ | omega | (simp; done) | (simp; omega)) _) | (with_reducible refine Below.alloc ?_ (by first | exact Nat.le_refl _ | omega | (simp; done) | (simp; omega)) _) | with_reducible refine Below.drew ?_ | with_reducible refine bel_drewN ?_ _ | (with_reducible refine bel_by (by with_reducible assumption) (by first | exact Nat.le_refl _ | omega | (simp; done) | (simp; omega)) ?_)))
    have hzq := bsize hq
    obtain ⟨hcq, hfq⟩ := bcell hq
    have HQ := Lib.hid hq
    have r1' : w6.cell? ⟨w.heap.size + 1, 1, none⟩ = some (.int .i64 bd) := by rw [hcq _ _ m0]; exact f1'
    have r2 : w6.cell? ⟨w.heap.size + 1 + 1, 0, none⟩ = some (.int .i64 0) := by rw [hcq _ _ m1]; exact f2
    have r3 : w6.cell? ⟨w.heap.size + 1 + 1, 1, none⟩ = some (.int .i64 0) := by rw [hcq _ _ m1]; exact f3
    have r4 : w6.frozen? ⟨w.heap.size + 1 + 1, 0, none⟩ = false := by rw [hfq _ _ m1]; exact f4
    have r5 : w6.frozen? ⟨w.heap.size + 1 + 1, 1, none⟩ = false := by rw [hfq _ _ m1]; exact f5
    have rg0 : w6.cell? ⟨g, 0, none⟩ = some (.int .u64 (hiW S)) := by rw [hcq _ _ hg4]; exact hg0
    have rg1 : w6.cell? ⟨g, 1, none⟩ = some (.int .u64 (loW S)) := by rw [hcq _ _ hg4]; exact hg1
    have rg2 : w6.frozen? ⟨g, 0, none⟩ = false := by rw [hfq _ _ hg4]; exact hg2
    have rg3 : w6.frozen? ⟨g, 1, none⟩ = false := by rw [hfq _ _ hg4]; exact hg3
    have hgD : g < w6.heap.size := by omega
    have m0D : w.heap.size + 1 < w6.heap.size := by omega
    have m1D : w.heap.size + 1 + 1 < w6.heap.size := by omega
    clear hcq hfq hq hb6 hc5 hf5 hb5 f1' f2 f3 f4 f5 hg0 hg1 hg2 hg3
    go_upto_region 7 with fail
    have v1 : ((w6.setCell ⟨g, 0, none⟩ (.int .u64 (hiW Sc))).setCell ⟨g, 1, none⟩ (.int .u64 (loW Sc))).cell? ⟨w.heap.size + 1, 1, none⟩ = some (.int .i64 bd) := by first | (simp [go_sem, r1', r2, r3, r4, r5, rg0, rg1, rg2, rg3]; done) | (simp [go_sem, r1', r2, r3, r4, r5, rg0, rg1, rg2, rg3]; omega)
    have v2 : ((w6.setCell ⟨g, 0, none⟩ (.int .u64 (hiW Sc))).setCell ⟨g, 1, none⟩ (.int .u64 (loW Sc))).cell? ⟨w.heap.size + 1 + 1, 0, none⟩ = some (.int .i64 0) := by first | (simp [go_sem, r1', r2, r3, r4, r5, rg0, rg1, rg2, rg3]; done) | (simp [go_sem, r1', r2, r3, r4, r5, rg0, rg1, rg2, rg3]; omega)
    have v3 : ((w6.setCell ⟨g, 0, none⟩ (.int .u64 (hiW Sc))).setCell ⟨g, 1, none⟩ (.int .u64 (loW Sc))).cell? ⟨w.heap.size + 1 + 1, 1, none⟩ = some (.int .i64 0) := by first | (simp [go_sem, r1', r2, r3, r4, r5, rg0, rg1, rg2, rg3]; done) | (simp [go_sem, r1', r2, r3, r4, r5, rg0, rg1, rg2, rg3]; omega)
    have v4 : ((w6.setCell ⟨g, 0, none⟩ (.int .u64 (hiW Sc))).setCell ⟨g, 1, none⟩ (.int .u64 (loW Sc))).frozen? ⟨w.heap.size + 1 + 1, 0, none⟩ = false := by first | (simp [go_sem, r1', r2, r3, r4, r5, rg0, rg1, rg2, rg3]; done) | (simp [go_sem, r1', r2, r3, r4, r5, rg0, rg1, rg2, rg3]; omega)
    have v5 : ((w6.setCell ⟨g, 0, none⟩ (.int .u64 (hiW Sc))).setCell ⟨g, 1, none⟩ (.int .u64 (loW Sc))).frozen? ⟨w.heap.size + 1 + 1, 1, none⟩ = false := by first | (simp [go_sem, r1', r2, r3, r4, r5, rg0, rg1, rg2, rg3]; done) | (simp [go_sem, r1', r2, r3, r4, r5, rg0, rg1, rg2, rg3]; omega)
    have vg0 : ((w6.setCell ⟨g, 0, none⟩ (.int .u64 (hiW Sc))).setCell ⟨g, 1, none⟩ (.int .u64 (loW Sc))).cell? ⟨g, 0, none⟩ = some (.int .u64 (hiW Sc)) := by first | (simp [go_sem, r1', r2, r3, r4, r5, rg0, rg1, rg2, rg3]; done) | (simp [go_sem, r1', r2, r3, r4, r5, rg0, rg1, rg2, rg3]; omega)
    have vg1 : ((w6.setCell ⟨g, 0, none⟩ (.int .u64 (hiW Sc))).setCell ⟨g, 1, none⟩ (.int .u64 (loW Sc))).cell? ⟨g, 1, none⟩ = some (.int .u64 (loW Sc)) := by first | (simp [go_sem, r1', r2, r3, r4, r5, rg0, rg1, rg2, rg3]; done) | (simp [go_sem, r1', r2, r3, r4, r5, rg0, rg1, rg2, rg3]; omega)
    have vz : ((w6.setCell ⟨g, 0, none⟩ (.int .u64 (hiW Sc))).setCell ⟨g, 1, none⟩ (.int .u64 (loW Sc))).heap.size = w6.heap.size := by simp
    have hD : Below w.heap.size w ((w6.setCell ⟨g, 0, none⟩ (.int .u64 (hiW Sc))).setCell ⟨g, 1, none⟩ (.int .u64 (loW Sc))) := by
      have h1 := HQ.out
      have h2 := HBW.out
      have h3 : Below w.heap.size w w6 := h2.trans (h1.mono h2.size)
      exact (h3.setCell (p := ⟨g, 0, none⟩) (show w.heap.size ≤ g by omega) _).setCell (p := ⟨g, 1, none⟩) (show w.heap.size ≤ g by omega) _
    generalize (w6.setCell ⟨g, 0, none⟩ (.int .u64 (hiW Sc))).setCell ⟨g, 1, none⟩ (.int .u64 (loW Sc)) = wD at v1 v2 v3 v4 v5 vg0 vg1 vz hD ⊢
    have u0 : g < wD.heap.size := by omega
    have u1 : w.heap.size + 1 < wD.heap.size := by omega
    have u2 : w.heap.size + 1 + 1 < wD.heap.size := by omega
    clear r1' r2 r3 r4 r5 rg0 rg1 rg2 rg3 hgD m0D m1D vz
    have qbd : IntKind.u64.wrap bd = bd := IntWalk.u64_in _ (by omega)
    go_region_held3 (fun w' => w'.cell? ⟨w.heap.size + 1, 1, none⟩ = some (.int .i64 bd) ∧ w'.cell? ⟨g, 0, none⟩ = some (.int .u64 (hiW Sc)) ∧ w'.cell? ⟨g, 1, none⟩ = some (.int .u64 (loW Sc)))
      ((first | (simp [go_sem, v1, vg0, vg1]; done) | (simp [go_sem, hc7, v1, vg0, vg1, u0, u1]; done) | (simp [go_sem, hc8, hc7, v1, vg0, vg1, u0, u1, ua, ub]; done)))
      (first
        | (go_at_call 61; refine (P3.out _).mono ?_; rintro e w7 ⟨rfl, hb7⟩; (try (with_reducible replace hb7 := undrew hb7)); obtain ⟨hc7, hf7⟩ := bcell hb7; have hz7 := bsize hb7; have ua : g < w7.heap.size := (by omega); have ub : w.heap.size + 1 < w7.heap.size := (by omega); have uc : w.heap.size + 1 + 1 < w7.heap.size := (by omega))
        | (go_at_call 62; refine (HN.out _).mono ?_; rintro e w8 ⟨rfl, hb8⟩; (try (with_reducible replace hb8 := undrew hb8)); obtain ⟨hc8, hf8⟩ := bcell hb8; have hz8 := bsize hb8))
    go_wp2
    refine bodyPost_ret (v := fracE t) (by simp [results, Try.results76, go_sem, hc8, hf8, hc7, hf7, u2, uc, v2, v3, v4, v5]) rfl ⟨rfl, (by repeat (first | with_reducible exact Below.refl _ _ | (with_reducible refine Below.setCell ?_ (by first | exact Nat.le_refl _ | omega | (simp; done) | (simp; omega)) _) | (with_reducible refine Below.alloc ?_ (by first | exact Nat.le_refl _ | omega | (simp; done) | (simp; omega)) _) | with_reducible refine Below.drew ?_ | with_reducible refine bel_drewN ?_ _ | (with_reducible refine bel_by (by with_reducible assumption) (by first | exact Nat.le_refl _ | omega | (simp; done) | (simp; omega)) ?_)))⟩
end Go.Proofs.Ytbjmibaepccbeaa
