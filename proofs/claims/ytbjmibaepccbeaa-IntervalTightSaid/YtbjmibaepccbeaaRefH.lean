/- Contracts of the reference of fractions, eighth part: Add, Sub. -/
import Derived.Test.YtbjmibaepccbeaaRefF
import Derived.Test.YtbjmibaepccbeaaMathB
import Derived.Test.YtbjmibaepccbeaaNumK
set_option linter.unusedSimpArgs false
set_option linter.unusedVariables false
namespace Go.Proofs.Ytbjmibaepccbeaa
open Go.RowKit

theorem radd_eq (an ad bn bd : Int) (av : vldI an ad = true) (bv : vldI bn bd = true) :
    bndI (ssN (decide (an < 0)) (absI an * bd) (decide (bn < 0)) (absI bn * ad)).1 (ssN (decide (an < 0)) (absI an * bd) (decide (bn < 0)) (absI bn * ad)).2 (ad * bd) = sumS an ad bn bd := by
  rw [sumS_bnd _ _ _ _ av bv]
  unfold bndI
  rw [ssN_val]
  have e1 := sg_mul (decide (an < 0)) false (absI an) bd
  have e2 := sg_mul (decide (bn < 0)) false (absI bn) ad
  rw [sg_abs] at e1 e2
  simp only [Bool.bne_false] at e1 e2
  rw [e1, e2]
  rfl

set_option maxHeartbeats 8000000 in
set_option maxRecDepth 100000 in
theorem radd_yes (an ad bn bd : Int) (av : vldI an ad = true) (bv : vldI bn bd = true) (w : World) :
    Calls Try.prog 55 #[.agg #[.int .i64 an, .int .i64 ad], .agg #[.int .i64 bn, .int .i64 bd]] w fun e w' => e = .returned (fracE (sumS an ad bn bd)) ∧ Below w.heap.size w w' := by
  have E := radd_eq an ad bn bd av bv
  obtain ⟨a1, a2, a3, a4, _⟩ := vldI_out av
  obtain ⟨b1, b2, b3, b4, _⟩ := vldI_out bv
  have V1 := fun W => rvalid_any an ad (by omega) (by omega) (by omega) (by omega) W
  have V2 := fun W => rvalid_any bn bd (by omega) (by omega) (by omega) (by omega) W
  have S1 := Lib.hid (fun W => rsize_any an (by omega) (by omega) W)
  have S2 := Lib.hid (fun W => rsize_any bn (by omega) (by omega) W)
  have x0 := absI_0 an
  have x1 : absI an ≤ 1000000000000000000 := by unfold absI; omega
  have y0 := absI_0 bn
  have y1 : absI bn ≤ 1000000000000000000 := by unfold absI; omega
  have p0 : 0 ≤ absI an * bd := Int.mul_nonneg (by omega) (by omega)
  have p1 : absI an * bd ≤ 1000000000000000000000000000000000000 := mul_small (by omega) (by omega) (by omega) (by omega)
  have q0 : 0 ≤ absI bn * ad := Int.mul_nonneg (by omega) (by omega)
  have q1 : absI bn * ad ≤ 1000000000000000000000000000000000000 := mul_small (by omega) (by omega) (by omega) (by omega)
  have P1 := Lib.hid (fun W => rprod_any (absI an) bd (by omega) (by omega) (by omega) (by omega) W)
  have P2 := Lib.hid (fun W => rprod_any (absI bn) ad (by omega) (by omega) (by omega) (by omega) W)
  have d0 : 0 < ad * bd := Int.mul_pos (by omega) (by omega)
  have d1 : ad * bd ≤ 1000000000000000000000000000000000000 := mul_small (by omega) (by omega) (by omega) (by omega)
  have PD := Lib.hid (fun W => rprod_any ad bd (by omega) (by omega) (by omega) (by omega) W)
  have BD := Lib.hid (And.intro (And.intro p0 p1) (And.intro (And.intro q0 q1) (And.intro d0 d1)))
  have HE := Lib.hid E
  rw [av] at V1
  rw [bv] at V2
  have HV1 := Lib.hid V1
  have HV2 := Lib.hid V2
  clear V1 V2 E av bv p0 p1 q0 q1 x0 x1 y0 y1 d0 d1
  have qa : IntKind.u64.wrap ad = ad := IntWalk.u64_in _ (by omega)
  have qb : IntKind.u64.wrap bd = bd := IntWalk.u64_in _ (by omega)
  clear a1 a2 a3 a4 b1 b2 b3 b4
  generalize sumS an ad bn bd = t at *
  generalize absI an * bd = p at *
  generalize absI bn * ad = q at *
  generalize ad * bd = dd at *
  generalize absI an = x at *
  generalize absI bn = y at *
  go_enter Try.func55, Try.ntmps55
  go_wp2_with fail
  refine (HV1.out _).mono ?_
  rintro e w1 ⟨rfl, hb1⟩
  obtain ⟨hc1, hf1⟩ := bcell hb1
  have hz1 := bsize hb1
  simp at hz1
  have k0 : w.heap.size < w1.heap.size := by omega
  have k1 : w.heap.size + 1 < w1.heap.size := by omega
  have k2 : w.heap.size + 1 + 1 < w1.heap.size := by omega
  go_wp2_with fail
  refine (HV2.out _).mono ?_
  rintro e w2 ⟨rfl, hb2⟩
  obtain ⟨hc2, hf2⟩ := bcell hb2
  have hz2 := bsize hb2
  have l0 : w.heap.size < w2.heap.size := by omega
  have l1 : w.heap.size + 1 < w2.heap.size := by omega
  have l2 : w.heap.size + 1 + 1 < w2.heap.size := by omega
  go_upto_region 3 with fail
  have e0 : w2.cell? ⟨w.heap.size, 0, none⟩ = some (.int .i64 an) := by simp [go_sem, hc2, hc1, k0, k1, k2, l0, l1, l2]
  have e1 : w2.cell? ⟨w.heap.size, 1, none⟩ = some (.int .i64 ad) := by simp [go_sem, hc2, hc1, k0, k1, k2, l0, l1, l2]
  have e2 : w2.cell? ⟨w.heap.size + 1, 0, none⟩ = some (.int .i64 bn) := by simp [go_sem, hc2, hc1, k0, k1, k2, l0, l1, l2]
  have e3 : w2.cell? ⟨w.heap.size + 1, 1, none⟩ = some (.int .i64 bd) := by simp [go_sem, hc2, hc1, k0, k1, k2, l0, l1, l2]
  have r0 : w2.cell? ⟨w.heap.size + 1 + 1, 0, none⟩ = some (.int .i64 0) := by simp [go_sem, hc2, hc1, k0, k1, k2, l0, l1, l2]
  have r1 : w2.cell? ⟨w.heap.size + 1 + 1, 1, none⟩ = some (.int .i64 0) := by simp [go_sem, hc2, hc1, k0, k1, k2, l0, l1, l2]
  have f0 : w2.frozen? ⟨w.heap.size + 1 + 1, 0, none⟩ = false := by simp [go_sem, hf2, hf1, k0, k1, k2, l0, l1, l2]
  have f1 : w2.frozen? ⟨w.heap.size + 1 + 1, 1, none⟩ = false := by simp [go_sem, hf2, hf1, k0, k1, k2, l0, l1, l2]
  have hbW : Below w.heap.size w w2 := (by repeat (first | with_reducible exact Below.refl _ _ | (with_reducible refine Below.setCell ?_ (by first | exact Nat.le_refl _ | omega | (simp; done) | (simp; omega)) _) | (with_reducible refine Below.alloc ?_ (by first | exact Nat.le_refl _ | omega | (simp; done) | (simp; omega)) _) | with_reducible refine Below.drew ?_ | with_reducible refine bel_drewN ?_ _ | (with_reducible refine bel_by (by with_reducible assumption) (by first | exact Nat.le_refl _ | omega | (simp; done) | (simp; omega)) ?_)))
  clear hc1 hf1 hb1 hz1 k0 k1 k2 hc2 hf2 hb2 hz2
  have o0 : w.heap.size ≤ w2.heap.size := by omega
  have o1 : w.heap.size + 1 ≤ w2.heap.size := by omega
  have o2 : w.heap.size ≤ w2.heap.size + 1 := by omega
  have o3 : w.heap.size + 1 ≤ w2.heap.size + 1 := by omega
  have o4 : w.heap.size < w2.heap.size + 2 := by omega
  have o5 : w.heap.size < w2.heap.size + 1 := by omega
  go_cut [6, 7] (fun s6 s7 wx => ∃ g h : Nat, s6 = .pointer (some ⟨g, 0, none⟩) ∧ s7 = .pointer (some ⟨h, 0, none⟩) ∧ wx.cell? ⟨g, 0, none⟩ = some (.int .u64 (hiW p)) ∧ wx.cell? ⟨g, 1, none⟩ = some (.int .u64 (loW p)) ∧ wx.cell? ⟨h, 0, none⟩ = some (.int .u64 (hiW q)) ∧ wx.cell? ⟨h, 1, none⟩ = some (.int .u64 (loW q)) ∧ g < wx.heap.size ∧ h < wx.heap.size ∧ w2.heap.size ≤ g ∧ w2.heap.size ≤ h ∧ Below w2.heap.size w2 wx)
  case first =>
    go_region_held3 (fun w' => w'.cell? ⟨w.heap.size, 0, none⟩ = some (.int .i64 an) ∧ w'.cell? ⟨w.heap.size, 1, none⟩ = some (.int .i64 ad) ∧ w'.cell? ⟨w.heap.size + 1, 0, none⟩ = some (.int .i64 bn) ∧ w'.cell? ⟨w.heap.size + 1, 1, none⟩ = some (.int .i64 bd))
      ((first | (simp [go_sem, e0, e1, e2, e3, l0, l1, o0, o1, o2, o3, o4, o5]; done) | (simp [go_sem, hc3, e0, e1, e2, e3, l0, l1, o0, o1, o2, o3, o4, o5]; done) | (simp [go_sem, hc3, e0, e1, e2, e3, l0, l1, o0, o1, o2, o3, o4, o5, ka3, kb3, la3, lb3, lc3, ld3, le3, lf3]; done) | (simp [go_sem, hc4, hc3, e0, e1, e2, e3, l0, l1, o0, o1, o2, o3, o4, o5, ka3, kb3, la3, lb3, lc3, ld3, le3, lf3]; done) | (simp [go_sem, hc4, hc3, e0, e1, e2, e3, l0, l1, o0, o1, o2, o3, o4, o5, ka3, kb3, la3, lb3, lc3, ld3, le3, lf3, ka4, kb4, la4, lb4, lc4, ld4, le4, lf4]; done)))
      (first
        | (go_at_call_of 64 (Value.int .i64 an); refine (S1.out _).mono ?_; rintro e w3 ⟨rfl, rfl⟩)
        | (go_at_call_of 64 (Value.int .i64 bn); refine (S2.out _).mono ?_; rintro e w3 ⟨rfl, rfl⟩)
        | (go_at_call_of 63 (Value.int .u64 x); refine (P1.out _).mono ?_; rintro e w3 ⟨rfl, hb3⟩; (try (with_reducible replace hb3 := undrew hb3)); obtain ⟨hc3, hf3⟩ := bcell hb3; have hz3 := bsize hb3; (try simp at hz3); have ka3 : w.heap.size < w3.heap.size := (by omega); have kb3 : w.heap.size + 1 < w3.heap.size := (by omega); have kc3 : w.heap.size + 1 + 1 < w3.heap.size := (by omega); have la3 : w.heap.size ≤ w3.heap.size := (by omega); have lb3 : w.heap.size + 1 ≤ w3.heap.size := (by omega); have lc3 : w.heap.size ≤ w3.heap.size + 1 := (by omega); have ld3 : w.heap.size + 1 ≤ w3.heap.size + 1 := (by omega); have le3 : w.heap.size < w3.heap.size + 2 := (by omega); have lf3 : w.heap.size < w3.heap.size + 1 := (by omega); (first | (have n3200 : w2.heap.size < w3.heap.size := (by omega)) | (have n3200 : 0 < w3.heap.size + 1 := (by omega))); (first | (have n3201 : ¬ w2.heap.size = w3.heap.size := (by omega)) | (have n3201 : 0 < w3.heap.size + 1 := (by omega))); (first | (have n3202 : ¬ w3.heap.size = w2.heap.size := (by omega)) | (have n3202 : 0 < w3.heap.size + 1 := (by omega))); (first | (have n3210 : w2.heap.size + 1 < w3.heap.size := (by omega)) | (have n3210 : 0 < w3.heap.size + 1 := (by omega))); (first | (have n3211 : ¬ w2.heap.size + 1 = w3.heap.size := (by omega)) | (have n3211 : 0 < w3.heap.size + 1 := (by omega))); (first | (have n3212 : ¬ w3.heap.size = w2.heap.size + 1 := (by omega)) | (have n3212 : 0 < w3.heap.size + 1 := (by omega))))
        | (go_at_call_of 63 (Value.int .u64 y); refine (P2.out _).mono ?_; rintro e w4 ⟨rfl, hb4⟩; (try (with_reducible replace hb4 := undrew hb4)); obtain ⟨hc4, hf4⟩ := bcell hb4; have hz4 := bsize hb4; (try simp at hz4); have ka4 : w.heap.size < w4.heap.size := (by omega); have kb4 : w.heap.size + 1 < w4.heap.size := (by omega); have kc4 : w.heap.size + 1 + 1 < w4.heap.size := (by omega); have la4 : w.heap.size ≤ w4.heap.size := (by omega); have lb4 : w.heap.size + 1 ≤ w4.heap.size := (by omega); have lc4 : w.heap.size ≤ w4.heap.size + 1 := (by omega); have ld4 : w.heap.size + 1 ≤ w4.heap.size + 1 := (by omega); have le4 : w.heap.size < w4.heap.size + 2 := (by omega); have lf4 : w.heap.size < w4.heap.size + 1 := (by omega); (first | (have n4200 : w2.heap.size < w4.heap.size := (by omega)) | (have n4200 : 0 < w4.heap.size + 1 := (by omega))); (first | (have n4201 : ¬ w2.heap.size = w4.heap.size := (by omega)) | (have n4201 : 0 < w4.heap.size + 1 := (by omega))); (first | (have n4202 : ¬ w4.heap.size = w2.heap.size := (by omega)) | (have n4202 : 0 < w4.heap.size + 1 := (by omega))); (first | (have n4210 : w2.heap.size + 1 < w4.heap.size := (by omega)) | (have n4210 : 0 < w4.heap.size + 1 := (by omega))); (first | (have n4211 : ¬ w2.heap.size + 1 = w4.heap.size := (by omega)) | (have n4211 : 0 < w4.heap.size + 1 := (by omega))); (first | (have n4212 : ¬ w4.heap.size = w2.heap.size + 1 := (by omega)) | (have n4212 : 0 < w4.heap.size + 1 := (by omega))); (first | (have n4300 : w3.heap.size < w4.heap.size := (by omega)) | (have n4300 : 0 < w4.heap.size + 1 := (by omega))); (first | (have n4301 : ¬ w3.heap.size = w4.heap.size := (by omega)) | (have n4301 : 0 < w4.heap.size + 1 := (by omega))); (first | (have n4302 : ¬ w4.heap.size = w3.heap.size := (by omega)) | (have n4302 : 0 < w4.heap.size + 1 := (by omega))); (first | (have n4310 : w3.heap.size + 1 < w4.heap.size := (by omega)) | (have n4310 : 0 < w4.heap.size + 1 := (by omega))); (first | (have n4311 : ¬ w3.heap.size + 1 = w4.heap.size := (by omega)) | (have n4311 : 0 < w4.heap.size + 1 := (by omega))); (first | (have n4312 : ¬ w4.heap.size = w3.heap.size + 1 := (by omega)) | (have n4312 : 0 < w4.heap.size + 1 := (by omega)))))
    all_goals
      go_wp2_with fail
      go_meet
      refine ⟨_, _, rfl, rfl, ?_, ?_, ?_, ?_, ?_, ?_, ?_, ?_, (by repeat (first | with_reducible exact Below.refl _ _ | (with_reducible refine Below.setCell ?_ (by first | exact Nat.le_refl _ | omega | (simp; done) | (simp; omega)) _) | (with_reducible refine Below.alloc ?_ (by first | exact Nat.le_refl _ | omega | (simp; done) | (simp; omega)) _) | with_reducible refine Below.drew ?_ | with_reducible refine bel_drewN ?_ _ | (with_reducible refine bel_by (by with_reducible assumption) (by first | exact Nat.le_refl _ | omega | (simp; done) | (simp; omega)) ?_)))⟩
      · first | (simp [go_sem]; done) | (simp [go_sem, hc4]; done) | (simp (maxDischargeDepth := 6) [go_sem, hc4, hc3, n3200, n3201, n3202, n3210, n3211, n3212, n4200, n4201, n4202, n4210, n4211, n4212, n4300, n4301, n4302, n4310, n4311, n4312]; done)
      · first | (simp [go_sem]; done) | (simp [go_sem, hc4]; done) | (simp (maxDischargeDepth := 6) [go_sem, hc4, hc3, n3200, n3201, n3202, n3210, n3211, n3212, n4200, n4201, n4202, n4210, n4211, n4212, n4300, n4301, n4302, n4310, n4311, n4312]; done)
      · first | (simp [go_sem]; done) | (simp [go_sem, hc4]; done) | (simp (maxDischargeDepth := 6) [go_sem, hc4, hc3, n3200, n3201, n3202, n3210, n3211, n3212, n4200, n4201, n4202, n4210, n4211, n4212, n4300, n4301, n4302, n4310, n4311, n4312]; done)
      · first | (simp [go_sem]; done) | (simp [go_sem, hc4]; done) | (simp (maxDischargeDepth := 6) [go_sem, hc4, hc3, n3200, n3201, n3202, n3210, n3211, n3212, n4200, n4201, n4202, n4210, n4211, n4212, n4300, n4301, n4302, n4310, n4311, n4312]; done)
      · first | (simp; done) | (simp; omega)
      · first | (simp; done) | (simp; omega)
      · first | (simp; done) | (simp; omega) | omega
      · first | (simp; done) | (simp; omega) | omega
  case rest =>
    obtain ⟨g, h, rfl, rfl, hg0, hg1, hh0, hh1, hg4, hh4, hg5, hh5, hbB⟩ := hcut
    have hbV : Below w.heap.size w wc := (by repeat (first | with_reducible exact Below.refl _ _ | (with_reducible refine Below.setCell ?_ (by first | exact Nat.le_refl _ | omega | (simp; done) | (simp; omega)) _) | (with_reducible refine Below.alloc ?_ (by first | exact Nat.le_refl _ | omega | (simp; done) | (simp; omega)) _) | with_reducible refine Below.drew ?_ | with_reducible refine bel_drewN ?_ _ | (with_reducible refine bel_by (by with_reducible assumption) (by first | exact Nat.le_refl _ | omega | (simp; done) | (simp; omega)) ?_)))
    obtain ⟨hcB, hfB⟩ := bcell hbB
    have hzB := bsize hbB
    have c0 : wc.cell? ⟨w.heap.size, 0, none⟩ = some (.int .i64 an) := by rw [hcB _ _ l0]; exact e0
    have c1 : wc.cell? ⟨w.heap.size, 1, none⟩ = some (.int .i64 ad) := by rw [hcB _ _ l0]; exact e1
    have c2 : wc.cell? ⟨w.heap.size + 1, 0, none⟩ = some (.int .i64 bn) := by rw [hcB _ _ l1]; exact e2
    have c3 : wc.cell? ⟨w.heap.size + 1, 1, none⟩ = some (.int .i64 bd) := by rw [hcB _ _ l1]; exact e3
    have m0 : w.heap.size < wc.heap.size := by omega
    have m1 : w.heap.size + 1 < wc.heap.size := by omega
    have m2 : w.heap.size + 1 + 1 < wc.heap.size := by omega
    have g2 : w.heap.size + 1 + 1 < g := by omega
    have h2 : w.heap.size + 1 + 1 < h := by omega
    have s0 : wc.cell? ⟨w.heap.size + 1 + 1, 0, none⟩ = some (.int .i64 0) := by rw [hcB _ _ l2]; exact r0
    have s1 : wc.cell? ⟨w.heap.size + 1 + 1, 1, none⟩ = some (.int .i64 0) := by rw [hcB _ _ l2]; exact r1
    have t0 : wc.frozen? ⟨w.heap.size + 1 + 1, 0, none⟩ = false := by rw [hfB _ _ l2]; exact f0
    have t1 : wc.frozen? ⟨w.heap.size + 1 + 1, 1, none⟩ = false := by rw [hfB _ _ l2]; exact f1
    clear hcB hfB hbB hzB e0 e1 e2 e3 r0 r1 f0 f1 hbW hg5 hh5 l0 l1 l2
    go_wp2_with fail
    refine (PD.out _).mono ?_
    rintro e w5 ⟨rfl, hb5⟩
    obtain ⟨hc5, hf5⟩ := bcell hb5
    have hz5 := bsize hb5
    go_upto_region 5 with fail
    have hK : Below wc.heap.size wc (w5.alloc (.cells #[.int .u64 (hiW dd), .int .u64 (loW dd)] 65)) := (by repeat (first | with_reducible exact Below.refl _ _ | (with_reducible refine Below.setCell ?_ (by first | exact Nat.le_refl _ | omega | (simp; done) | (simp; omega)) _) | (with_reducible refine Below.alloc ?_ (by first | exact Nat.le_refl _ | omega | (simp; done) | (simp; omega)) _) | with_reducible refine Below.drew ?_ | with_reducible refine bel_drewN ?_ _ | (with_reducible refine bel_by (by with_reducible assumption) (by first | exact Nat.le_refl _ | omega | (simp; done) | (simp; omega)) ?_)))
    have hB : Below w.heap.size w (w5.alloc (.cells #[.int .u64 (hiW dd), .int .u64 (loW dd)] 65)) := hbV.trans (hK.mono hbV.size)
    have i0 : (w5.alloc (.cells #[.int .u64 (hiW dd), .int .u64 (loW dd)] 65)).cell? ⟨w5.heap.size, 0, none⟩ = some (.int .u64 (hiW dd)) := by simp [go_sem]
    have i1 : (w5.alloc (.cells #[.int .u64 (hiW dd), .int .u64 (loW dd)] 65)).cell? ⟨w5.heap.size, 1, none⟩ = some (.int .u64 (loW dd)) := by simp [go_sem]
    have iz : (w5.alloc (.cells #[.int .u64 (hiW dd), .int .u64 (loW dd)] 65)).heap.size = w5.heap.size + 1 := by simp
    generalize (w5.alloc (.cells #[.int .u64 (hiW dd), .int .u64 (loW dd)] 65)) = wD at hK hB i0 i1 iz ⊢
    have hzD := hK.size
    obtain ⟨hcD, hfD⟩ := bcell hK
    have c0 := (hcD _ _ m0).trans c0
    have c2 := (hcD _ _ m1).trans c2
    have s0 := (hcD _ _ m2).trans s0
    have s1 := (hcD _ _ m2).trans s1
    have t0 := (hfD _ _ m2).trans t0
    have t1 := (hfD _ _ m2).trans t1
    have hg0 := (hcD _ _ hg4).trans hg0
    have hg1 := (hcD _ _ hg4).trans hg1
    have hh0 := (hcD _ _ hh4).trans hh0
    have hh1 := (hcD _ _ hh4).trans hh1
    have z2 : w.heap.size + 1 + 1 < w5.heap.size := by omega
    generalize w5.heap.size = z at *
    have u0 : w.heap.size < wD.heap.size := by omega
    have u1 : w.heap.size + 1 < wD.heap.size := by omega
    have u2 : w.heap.size + 1 + 1 < wD.heap.size := by omega
    have u3 : g < wD.heap.size := by omega
    have u4 : h < wD.heap.size := by omega
    have u5 : z < wD.heap.size := by omega
    have HB := Lib.hid hB
    clear hK hB hbV hcD hfD hc5 hf5 hb5 hz5 iz hzD m0 m1 m2 hg4 hh4
    obtain ⟨⟨p0, p1⟩, ⟨q0, q1⟩, d0, d1⟩ := BD.out
    by_cases ha : an < 0
    · by_cases hb : bn < 0
      · have E := HE.out
        rw [show ssN (decide (an < 0)) p (decide (bn < 0)) q = (true, p + q) from by
          rw [show decide (an < 0) = true from by simpa using ha, show decide (bn < 0) = true from by simpa using hb]
          unfold ssN
          simp] at E
        clear HE BD
        have R : ∀ (b : Bool), b = true → ∀ W : World, Calls Try.prog 69 #[.bool b, .agg #[.int .u64 (hiW (p + q)), .int .u64 (loW (p + q))], .agg #[.int .u64 (hiW dd), .int .u64 (loW dd)]] W fun e w' => e = .returned (fracE t) ∧ Below W.heap.size W w' := by
          rintro b rfl W
          rw [← E]
          exact rbuild_any true (p + q) dd (by omega) (by omega) d0 (by omega) W
        have OP := fun W => rplus_any (hiW p) (loW p) (hiW q) (loW q) (hiW_0 (by omega)) (hiW_1 (by unfold B128; omega)) (loW_0 _) (loW_1 _) (hiW_0 (by omega)) (hiW_1 (by unfold B128; omega)) (loW_0 _) (loW_1 _) (by rw [valW_words, valW_words]; unfold B128; omega) W
        rw [valW_words, valW_words] at OP
        have HR := Lib.hid R
        have HOP := Lib.hid OP
        clear R OP E p0 p1 q0 q1 d0 d1
        generalize p + q = S at *
        go_wp2_with fail
        go_region_held3 (fun w' => w'.cell? ⟨w.heap.size, 0, none⟩ = some (.int .i64 an) ∧ w'.cell? ⟨g, 0, none⟩ = some (.int .u64 (hiW p)) ∧ w'.cell? ⟨g, 1, none⟩ = some (.int .u64 (loW p)) ∧ w'.cell? ⟨h, 0, none⟩ = some (.int .u64 (hiW q)) ∧ w'.cell? ⟨h, 1, none⟩ = some (.int .u64 (loW q)) ∧ w'.cell? ⟨z, 0, none⟩ = some (.int .u64 (hiW dd)) ∧ w'.cell? ⟨z, 1, none⟩ = some (.int .u64 (loW dd)))
          ((first | (simp [go_sem, c0, c2, hg0, hg1, hh0, hh1, i0, i1]; done) | (simp [go_sem, hc7, c0, c2, hg0, hg1, hh0, hh1, i0, i1, u0, u1, u3, u4, u5]; done) | (simp [go_sem, hc8, hc7, c0, c2, hg0, hg1, hh0, hh1, i0, i1, u0, u1, u3, u4, u5, v0, v1, v3, v4, v5]; done)))
          (first
            | (go_at_call 70; refine (HOP.out _).mono ?_; rintro e w7 ⟨rfl, hb7⟩; (try (with_reducible replace hb7 := undrew hb7)); obtain ⟨hc7, hf7⟩ := bcell hb7; have hz7 := bsize hb7; have v0 : w.heap.size < w7.heap.size := (by omega); have v1 : w.heap.size + 1 < w7.heap.size := (by omega); have v2 : w.heap.size + 1 + 1 < w7.heap.size := (by omega); have v3 : g < w7.heap.size := (by omega); have v4 : h < w7.heap.size := (by omega); have v5 : z < w7.heap.size := (by omega))
            | (go_at_call 69; refine (HR.out _ (by simp [ha, hb]) _).mono ?_; rintro e w8 ⟨rfl, hb8⟩; (try (with_reducible replace hb8 := undrew hb8)); obtain ⟨hc8, hf8⟩ := bcell hb8; have hz8 := bsize hb8; have x2 : w.heap.size + 1 + 1 < w8.heap.size := (by omega)))
        all_goals
          have hB := HB.out
          have hzW := hB.size
          go_wp2
          refine bodyPost_ret (v := fracE t) (by simp [results, Try.results55, go_sem, hc8, hf8, hc7, hf7, u2, v2, x2, s0, s1, t0, t1]) rfl ⟨rfl, (by repeat (first | with_reducible exact Below.refl _ _ | (with_reducible refine Below.setCell ?_ (by first | exact Nat.le_refl _ | omega | (simp; done) | (simp; omega)) _) | (with_reducible refine Below.alloc ?_ (by first | exact Nat.le_refl _ | omega | (simp; done) | (simp; omega)) _) | with_reducible refine Below.drew ?_ | with_reducible refine bel_drewN ?_ _ | (with_reducible refine bel_by (by with_reducible assumption) (by first | exact Nat.le_refl _ | omega | (simp; done) | (simp; omega)) ?_)))⟩
      · by_cases hl : p < q
        · have E := HE.out
          rw [show ssN (decide (an < 0)) p (decide (bn < 0)) q = (false, q - p) from by
            rw [show decide (an < 0) = true from by simpa using ha, show decide (bn < 0) = false from by simpa using hb]
            unfold ssN
            simp [hl]] at E
          clear HE BD
          have L := fun W => rless_any (hiW p) (loW p) (hiW q) (loW q) (hiW_0 p0) (hiW_1 (by unfold B128; omega)) (loW_0 _) (loW_1 _) (hiW_0 q0) (hiW_1 (by unfold B128; omega)) (loW_0 _) (loW_1 _) W
          rw [valW_words, valW_words, show decide (p < q) = true from by simpa using hl] at L
          have HL := Lib.hid L
          clear L
          have R : ∀ (b : Bool), b = false → ∀ W : World, Calls Try.prog 69 #[.bool b, .agg #[.int .u64 (hiW (q - p)), .int .u64 (loW (q - p))], .agg #[.int .u64 (hiW dd), .int .u64 (loW dd)]] W fun e w' => e = .returned (fracE t) ∧ Below W.heap.size W w' := by
            rintro b rfl W
            rw [← E]
            exact rbuild_any false (q - p) dd (by omega) (by omega) d0 (by omega) W
          have OP := fun W => rminus_any (hiW q) (loW q) (hiW p) (loW p) (hiW_0 (by omega)) (hiW_1 (by unfold B128; omega)) (loW_0 _) (loW_1 _) (hiW_0 (by omega)) (hiW_1 (by unfold B128; omega)) (loW_0 _) (loW_1 _) (by rw [valW_words, valW_words]; omega) W
          rw [valW_words, valW_words] at OP
          have HR := Lib.hid R
          have HOP := Lib.hid OP
          clear R OP E p0 p1 q0 q1 d0 d1 hl
          generalize q - p = S at *
          go_wp2_with fail
          refine (HL.out _).mono ?_
          rintro e w6 ⟨rfl, hb6⟩
          obtain ⟨hc6, hf6⟩ := bcell hb6
          have hz6 := bsize hb6
          have c0 := (hc6 _ _ u0).trans c0
          have c2 := (hc6 _ _ u1).trans c2
          have s0 := (hc6 _ _ u2).trans s0
          have s1 := (hc6 _ _ u2).trans s1
          have t0 := (hf6 _ _ u2).trans t0
          have t1 := (hf6 _ _ u2).trans t1
          have hg0 := (hc6 _ _ u3).trans hg0
          have hg1 := (hc6 _ _ u3).trans hg1
          have hh0 := (hc6 _ _ u4).trans hh0
          have hh1 := (hc6 _ _ u4).trans hh1
          have i0 := (hc6 _ _ u5).trans i0
          have i1 := (hc6 _ _ u5).trans i1
          have hB := HB.out.trans (hb6.mono HB.out.size)
          have u0 : w.heap.size < w6.heap.size := by omega
          have u1 : w.heap.size + 1 < w6.heap.size := by omega
          have u2 : w.heap.size + 1 + 1 < w6.heap.size := by omega
          have u3 : g < w6.heap.size := by omega
          have u4 : h < w6.heap.size := by omega
          have u5 : z < w6.heap.size := by omega
          clear HB hc6 hf6 hb6 hz6
          have HB := Lib.hid hB
          clear hB
          go_wp2_with fail
          go_region_held3 (fun w' => w'.cell? ⟨w.heap.size + 1, 0, none⟩ = some (.int .i64 bn) ∧ w'.cell? ⟨g, 0, none⟩ = some (.int .u64 (hiW p)) ∧ w'.cell? ⟨g, 1, none⟩ = some (.int .u64 (loW p)) ∧ w'.cell? ⟨h, 0, none⟩ = some (.int .u64 (hiW q)) ∧ w'.cell? ⟨h, 1, none⟩ = some (.int .u64 (loW q)) ∧ w'.cell? ⟨z, 0, none⟩ = some (.int .u64 (hiW dd)) ∧ w'.cell? ⟨z, 1, none⟩ = some (.int .u64 (loW dd)))
            ((first | (simp [go_sem, c0, c2, hg0, hg1, hh0, hh1, i0, i1]; done) | (simp [go_sem, hc7, c0, c2, hg0, hg1, hh0, hh1, i0, i1, u0, u1, u3, u4, u5]; done) | (simp [go_sem, hc8, hc7, c0, c2, hg0, hg1, hh0, hh1, i0, i1, u0, u1, u3, u4, u5, v0, v1, v3, v4, v5]; done)))
            (first
              | (go_at_call 71; refine (HOP.out _).mono ?_; rintro e w7 ⟨rfl, hb7⟩; (try (with_reducible replace hb7 := undrew hb7)); obtain ⟨hc7, hf7⟩ := bcell hb7; have hz7 := bsize hb7; have v0 : w.heap.size < w7.heap.size := (by omega); have v1 : w.heap.size + 1 < w7.heap.size := (by omega); have v2 : w.heap.size + 1 + 1 < w7.heap.size := (by omega); have v3 : g < w7.heap.size := (by omega); have v4 : h < w7.heap.size := (by omega); have v5 : z < w7.heap.size := (by omega))
              | (go_at_call 69; refine (HR.out _ (by simp [ha, hb]) _).mono ?_; rintro e w8 ⟨rfl, hb8⟩; (try (with_reducible replace hb8 := undrew hb8)); obtain ⟨hc8, hf8⟩ := bcell hb8; have hz8 := bsize hb8; have x2 : w.heap.size + 1 + 1 < w8.heap.size := (by omega)))
          all_goals
            have hB := HB.out
            have hzW := hB.size
            go_wp2
            refine bodyPost_ret (v := fracE t) (by simp [results, Try.results55, go_sem, hc8, hf8, hc7, hf7, u2, v2, x2, s0, s1, t0, t1]) rfl ⟨rfl, (by repeat (first | with_reducible exact Below.refl _ _ | (with_reducible refine Below.setCell ?_ (by first | exact Nat.le_refl _ | omega | (simp; done) | (simp; omega)) _) | (with_reducible refine Below.alloc ?_ (by first | exact Nat.le_refl _ | omega | (simp; done) | (simp; omega)) _) | with_reducible refine Below.drew ?_ | with_reducible refine bel_drewN ?_ _ | (with_reducible refine bel_by (by with_reducible assumption) (by first | exact Nat.le_refl _ | omega | (simp; done) | (simp; omega)) ?_)))⟩
        · have E := HE.out
          rw [show ssN (decide (an < 0)) p (decide (bn < 0)) q = (true, p - q) from by
            rw [show decide (an < 0) = true from by simpa using ha, show decide (bn < 0) = false from by simpa using hb]
            unfold ssN
            simp [hl]] at E
          clear HE BD
          have L := fun W => rless_any (hiW p) (loW p) (hiW q) (loW q) (hiW_0 p0) (hiW_1 (by unfold B128; omega)) (loW_0 _) (loW_1 _) (hiW_0 q0) (hiW_1 (by unfold B128; omega)) (loW_0 _) (loW_1 _) W
          rw [valW_words, valW_words, show decide (p < q) = false from by simpa using hl] at L
          have HL := Lib.hid L
          clear L
          have R : ∀ (b : Bool), b = true → ∀ W : World, Calls Try.prog 69 #[.bool b, .agg #[.int .u64 (hiW (p - q)), .int .u64 (loW (p - q))], .agg #[.int .u64 (hiW dd), .int .u64 (loW dd)]] W fun e w' => e = .returned (fracE t) ∧ Below W.heap.size W w' := by
            rintro b rfl W
            rw [← E]
            exact rbuild_any true (p - q) dd (by omega) (by omega) d0 (by omega) W
          have OP := fun W => rminus_any (hiW p) (loW p) (hiW q) (loW q) (hiW_0 (by omega)) (hiW_1 (by unfold B128; omega)) (loW_0 _) (loW_1 _) (hiW_0 (by omega)) (hiW_1 (by unfold B128; omega)) (loW_0 _) (loW_1 _) (by rw [valW_words, valW_words]; omega) W
          rw [valW_words, valW_words] at OP
          have HR := Lib.hid R
          have HOP := Lib.hid OP
          clear R OP E p0 p1 q0 q1 d0 d1 hl
          generalize p - q = S at *
          go_wp2_with fail
          refine (HL.out _).mono ?_
          rintro e w6 ⟨rfl, hb6⟩
          obtain ⟨hc6, hf6⟩ := bcell hb6
          have hz6 := bsize hb6
          have c0 := (hc6 _ _ u0).trans c0
          have c2 := (hc6 _ _ u1).trans c2
          have s0 := (hc6 _ _ u2).trans s0
          have s1 := (hc6 _ _ u2).trans s1
          have t0 := (hf6 _ _ u2).trans t0
          have t1 := (hf6 _ _ u2).trans t1
          have hg0 := (hc6 _ _ u3).trans hg0
          have hg1 := (hc6 _ _ u3).trans hg1
          have hh0 := (hc6 _ _ u4).trans hh0
          have hh1 := (hc6 _ _ u4).trans hh1
          have i0 := (hc6 _ _ u5).trans i0
          have i1 := (hc6 _ _ u5).trans i1
          have hB := HB.out.trans (hb6.mono HB.out.size)
          have u0 : w.heap.size < w6.heap.size := by omega
          have u1 : w.heap.size + 1 < w6.heap.size := by omega
          have u2 : w.heap.size + 1 + 1 < w6.heap.size := by omega
          have u3 : g < w6.heap.size := by omega
          have u4 : h < w6.heap.size := by omega
          have u5 : z < w6.heap.size := by omega
          clear HB hc6 hf6 hb6 hz6
          have HB := Lib.hid hB
          clear hB
          go_wp2_with fail
          go_region_held3 (fun w' => w'.cell? ⟨w.heap.size, 0, none⟩ = some (.int .i64 an) ∧ w'.cell? ⟨g, 0, none⟩ = some (.int .u64 (hiW p)) ∧ w'.cell? ⟨g, 1, none⟩ = some (.int .u64 (loW p)) ∧ w'.cell? ⟨h, 0, none⟩ = some (.int .u64 (hiW q)) ∧ w'.cell? ⟨h, 1, none⟩ = some (.int .u64 (loW q)) ∧ w'.cell? ⟨z, 0, none⟩ = some (.int .u64 (hiW dd)) ∧ w'.cell? ⟨z, 1, none⟩ = some (.int .u64 (loW dd)))
            ((first | (simp [go_sem, c0, c2, hg0, hg1, hh0, hh1, i0, i1]; done) | (simp [go_sem, hc7, c0, c2, hg0, hg1, hh0, hh1, i0, i1, u0, u1, u3, u4, u5]; done) | (simp [go_sem, hc8, hc7, c0, c2, hg0, hg1, hh0, hh1, i0, i1, u0, u1, u3, u4, u5, v0, v1, v3, v4, v5]; done)))
            (first
              | (go_at_call 71; refine (HOP.out _).mono ?_; rintro e w7 ⟨rfl, hb7⟩; (try (with_reducible replace hb7 := undrew hb7)); obtain ⟨hc7, hf7⟩ := bcell hb7; have hz7 := bsize hb7; have v0 : w.heap.size < w7.heap.size := (by omega); have v1 : w.heap.size + 1 < w7.heap.size := (by omega); have v2 : w.heap.size + 1 + 1 < w7.heap.size := (by omega); have v3 : g < w7.heap.size := (by omega); have v4 : h < w7.heap.size := (by omega); have v5 : z < w7.heap.size := (by omega))
              | (go_at_call 69; refine (HR.out _ (by simp [ha, hb]) _).mono ?_; rintro e w8 ⟨rfl, hb8⟩; (try (with_reducible replace hb8 := undrew hb8)); obtain ⟨hc8, hf8⟩ := bcell hb8; have hz8 := bsize hb8; have x2 : w.heap.size + 1 + 1 < w8.heap.size := (by omega)))
          all_goals
            have hB := HB.out
            have hzW := hB.size
            go_wp2
            refine bodyPost_ret (v := fracE t) (by simp [results, Try.results55, go_sem, hc8, hf8, hc7, hf7, u2, v2, x2, s0, s1, t0, t1]) rfl ⟨rfl, (by repeat (first | with_reducible exact Below.refl _ _ | (with_reducible refine Below.setCell ?_ (by first | exact Nat.le_refl _ | omega | (simp; done) | (simp; omega)) _) | (with_reducible refine Below.alloc ?_ (by first | exact Nat.le_refl _ | omega | (simp; done) | (simp; omega)) _) | with_reducible refine Below.drew ?_ | with_reducible refine bel_drewN ?_ _ | (with_reducible refine bel_by (by with_reducible assumption) (by first | exact Nat.le_refl _ | omega | (simp; done) | (simp; omega)) ?_)))⟩
    · by_cases hb : bn < 0
      · by_cases hl : p < q
        · have E := HE.out
          rw [show ssN (decide (an < 0)) p (decide (bn < 0)) q = (true, q - p) from by
            rw [show decide (an < 0) = false from by simpa using ha, show decide (bn < 0) = true from by simpa using hb]
            unfold ssN
            simp [hl]] at E
          clear HE BD
          have L := fun W => rless_any (hiW p) (loW p) (hiW q) (loW q) (hiW_0 p0) (hiW_1 (by unfold B128; omega)) (loW_0 _) (loW_1 _) (hiW_0 q0) (hiW_1 (by unfold B128; omega)) (loW_0 _) (loW_1 _) W
          rw [valW_words, valW_words, show decide (p < q) = true from by simpa using hl] at L
          have HL := Lib.hid L
          clear L
          have R : ∀ (b : Bool), b = true → ∀ W : World, Calls Try.prog 69 #[.bool b, .agg #[.int .u64 (hiW (q - p)), .int .u64 (loW (q - p))], .agg #[.int .u64 (hiW dd), .int .u64 (loW dd)]] W fun e w' => e = .returned (fracE t) ∧ Below W.heap.size W w' := by
            rintro b rfl W
            rw [← E]
            exact rbuild_any true (q - p) dd (by omega) (by omega) d0 (by omega) W
          have OP := fun W => rminus_any (hiW q) (loW q) (hiW p) (loW p) (hiW_0 (by omega)) (hiW_1 (by unfold B128; omega)) (loW_0 _) (loW_1 _) (hiW_0 (by omega)) (hiW_1 (by unfold B128; omega)) (loW_0 _) (loW_1 _) (by rw [valW_words, valW_words]; omega) W
          rw [valW_words, valW_words] at OP
          have HR := Lib.hid R
          have HOP := Lib.hid OP
          clear R OP E p0 p1 q0 q1 d0 d1 hl
          generalize q - p = S at *
          go_wp2_with fail
          refine (HL.out _).mono ?_
          rintro e w6 ⟨rfl, hb6⟩
          obtain ⟨hc6, hf6⟩ := bcell hb6
          have hz6 := bsize hb6
          have c0 := (hc6 _ _ u0).trans c0
          have c2 := (hc6 _ _ u1).trans c2
          have s0 := (hc6 _ _ u2).trans s0
          have s1 := (hc6 _ _ u2).trans s1
          have t0 := (hf6 _ _ u2).trans t0
          have t1 := (hf6 _ _ u2).trans t1
          have hg0 := (hc6 _ _ u3).trans hg0
          have hg1 := (hc6 _ _ u3).trans hg1
          have hh0 := (hc6 _ _ u4).trans hh0
          have hh1 := (hc6 _ _ u4).trans hh1
          have i0 := (hc6 _ _ u5).trans i0
          have i1 := (hc6 _ _ u5).trans i1
          have hB := HB.out.trans (hb6.mono HB.out.size)
          have u0 : w.heap.size < w6.heap.size := by omega
          have u1 : w.heap.size + 1 < w6.heap.size := by omega
          have u2 : w.heap.size + 1 + 1 < w6.heap.size := by omega
          have u3 : g < w6.heap.size := by omega
          have u4 : h < w6.heap.size := by omega
          have u5 : z < w6.heap.size := by omega
          clear HB hc6 hf6 hb6 hz6
          have HB := Lib.hid hB
          clear hB
          go_wp2_with fail
          go_region_held3 (fun w' => w'.cell? ⟨w.heap.size + 1, 0, none⟩ = some (.int .i64 bn) ∧ w'.cell? ⟨g, 0, none⟩ = some (.int .u64 (hiW p)) ∧ w'.cell? ⟨g, 1, none⟩ = some (.int .u64 (loW p)) ∧ w'.cell? ⟨h, 0, none⟩ = some (.int .u64 (hiW q)) ∧ w'.cell? ⟨h, 1, none⟩ = some (.int .u64 (loW q)) ∧ w'.cell? ⟨z, 0, none⟩ = some (.int .u64 (hiW dd)) ∧ w'.cell? ⟨z, 1, none⟩ = some (.int .u64 (loW dd)))
            ((first | (simp [go_sem, c0, c2, hg0, hg1, hh0, hh1, i0, i1]; done) | (simp [go_sem, hc7, c0, c2, hg0, hg1, hh0, hh1, i0, i1, u0, u1, u3, u4, u5]; done) | (simp [go_sem, hc8, hc7, c0, c2, hg0, hg1, hh0, hh1, i0, i1, u0, u1, u3, u4, u5, v0, v1, v3, v4, v5]; done)))
            (first
              | (go_at_call 71; refine (HOP.out _).mono ?_; rintro e w7 ⟨rfl, hb7⟩; (try (with_reducible replace hb7 := undrew hb7)); obtain ⟨hc7, hf7⟩ := bcell hb7; have hz7 := bsize hb7; have v0 : w.heap.size < w7.heap.size := (by omega); have v1 : w.heap.size + 1 < w7.heap.size := (by omega); have v2 : w.heap.size + 1 + 1 < w7.heap.size := (by omega); have v3 : g < w7.heap.size := (by omega); have v4 : h < w7.heap.size := (by omega); have v5 : z < w7.heap.size := (by omega))
              | (go_at_call 69; refine (HR.out _ (by simp [ha, hb]) _).mono ?_; rintro e w8 ⟨rfl, hb8⟩; (try (with_reducible replace hb8 := undrew hb8)); obtain ⟨hc8, hf8⟩ := bcell hb8; have hz8 := bsize hb8; have x2 : w.heap.size + 1 + 1 < w8.heap.size := (by omega)))
          all_goals
            have hB := HB.out
            have hzW := hB.size
            go_wp2
            refine bodyPost_ret (v := fracE t) (by simp [results, Try.results55, go_sem, hc8, hf8, hc7, hf7, u2, v2, x2, s0, s1, t0, t1]) rfl ⟨rfl, (by repeat (first | with_reducible exact Below.refl _ _ | (with_reducible refine Below.setCell ?_ (by first | exact Nat.le_refl _ | omega | (simp; done) | (simp; omega)) _) | (with_reducible refine Below.alloc ?_ (by first | exact Nat.le_refl _ | omega | (simp; done) | (simp; omega)) _) | with_reducible refine Below.drew ?_ | with_reducible refine bel_drewN ?_ _ | (with_reducible refine bel_by (by with_reducible assumption) (by first | exact Nat.le_refl _ | omega | (simp; done) | (simp; omega)) ?_)))⟩
        · have E := HE.out
          rw [show ssN (decide (an < 0)) p (decide (bn < 0)) q = (false, p - q) from by
            rw [show decide (an < 0) = false from by simpa using ha, show decide (bn < 0) = true from by simpa using hb]
            unfold ssN
            simp [hl]] at E
          clear HE BD
          have L := fun W => rless_any (hiW p) (loW p) (hiW q) (loW q) (hiW_0 p0) (hiW_1 (by unfold B128; omega)) (loW_0 _) (loW_1 _) (hiW_0 q0) (hiW_1 (by unfold B128; omega)) (loW_0 _) (loW_1 _) W
          rw [valW_words, valW_words, show decide (p < q) = false from by simpa using hl] at L
          have HL := Lib.hid L
          clear L
          have R : ∀ (b : Bool), b = false → ∀ W : World, Calls Try.prog 69 #[.bool b, .agg #[.int .u64 (hiW (p - q)), .int .u64 (loW (p - q))], .agg #[.int .u64 (hiW dd), .int .u64 (loW dd)]] W fun e w' => e = .returned (fracE t) ∧ Below W.heap.size W w' := by
            rintro b rfl W
            rw [← E]
            exact rbuild_any false (p - q) dd (by omega) (by omega) d0 (by omega) W
          have OP := fun W => rminus_any (hiW p) (loW p) (hiW q) (loW q) (hiW_0 (by omega)) (hiW_1 (by unfold B128; omega)) (loW_0 _) (loW_1 _) (hiW_0 (by omega)) (hiW_1 (by unfold B128; omega)) (loW_0 _) (loW_1 _) (by rw [valW_words, valW_words]; omega) W
          rw [valW_words, valW_words] at OP
          have HR := Lib.hid R
          have HOP := Lib.hid OP
          clear R OP E p0 p1 q0 q1 d0 d1 hl
          generalize p - q = S at *
          go_wp2_with fail
          refine (HL.out _).mono ?_
          rintro e w6 ⟨rfl, hb6⟩
          obtain ⟨hc6, hf6⟩ := bcell hb6
          have hz6 := bsize hb6
          have c0 := (hc6 _ _ u0).trans c0
          have c2 := (hc6 _ _ u1).trans c2
          have s0 := (hc6 _ _ u2).trans s0
          have s1 := (hc6 _ _ u2).trans s1
          have t0 := (hf6 _ _ u2).trans t0
          have t1 := (hf6 _ _ u2).trans t1
          have hg0 := (hc6 _ _ u3).trans hg0
          have hg1 := (hc6 _ _ u3).trans hg1
          have hh0 := (hc6 _ _ u4).trans hh0
          have hh1 := (hc6 _ _ u4).trans hh1
          have i0 := (hc6 _ _ u5).trans i0
          have i1 := (hc6 _ _ u5).trans i1
          have hB := HB.out.trans (hb6.mono HB.out.size)
          have u0 : w.heap.size < w6.heap.size := by omega
          have u1 : w.heap.size + 1 < w6.heap.size := by omega
          have u2 : w.heap.size + 1 + 1 < w6.heap.size := by omega
          have u3 : g < w6.heap.size := by omega
          have u4 : h < w6.heap.size := by omega
          have u5 : z < w6.heap.size := by omega
          clear HB hc6 hf6 hb6 hz6
          have HB := Lib.hid hB
          clear hB
          go_wp2_with fail
          go_region_held3 (fun w' => w'.cell? ⟨w.heap.size, 0, none⟩ = some (.int .i64 an) ∧ w'.cell? ⟨g, 0, none⟩ = some (.int .u64 (hiW p)) ∧ w'.cell? ⟨g, 1, none⟩ = some (.int .u64 (loW p)) ∧ w'.cell? ⟨h, 0, none⟩ = some (.int .u64 (hiW q)) ∧ w'.cell? ⟨h, 1, none⟩ = some (.int .u64 (loW q)) ∧ w'.cell? ⟨z, 0, none⟩ = some (.int .u64 (hiW dd)) ∧ w'.cell? ⟨z, 1, none⟩ = some (.int .u64 (loW dd)))
            ((first | (simp [go_sem, c0, c2, hg0, hg1, hh0, hh1, i0, i1]; done) | (simp [go_sem, hc7, c0, c2, hg0, hg1, hh0, hh1, i0, i1, u0, u1, u3, u4, u5]; done) | (simp [go_sem, hc8, hc7, c0, c2, hg0, hg1, hh0, hh1, i0, i1, u0, u1, u3, u4, u5, v0, v1, v3, v4, v5]; done)))
            (first
              | (go_at_call 71; refine (HOP.out _).mono ?_; rintro e w7 ⟨rfl, hb7⟩; (try (with_reducible replace hb7 := undrew hb7)); obtain ⟨hc7, hf7⟩ := bcell hb7; have hz7 := bsize hb7; have v0 : w.heap.size < w7.heap.size := (by omega); have v1 : w.heap.size + 1 < w7.heap.size := (by omega); have v2 : w.heap.size + 1 + 1 < w7.heap.size := (by omega); have v3 : g < w7.heap.size := (by omega); have v4 : h < w7.heap.size := (by omega); have v5 : z < w7.heap.size := (by omega))
              | (go_at_call 69; refine (HR.out _ (by simp [ha, hb]) _).mono ?_; rintro e w8 ⟨rfl, hb8⟩; (try (with_reducible replace hb8 := undrew hb8)); obtain ⟨hc8, hf8⟩ := bcell hb8; have hz8 := bsize hb8; have x2 : w.heap.size + 1 + 1 < w8.heap.size := (by omega)))
          all_goals
            have hB := HB.out
            have hzW := hB.size
            go_wp2
            refine bodyPost_ret (v := fracE t) (by simp [results, Try.results55, go_sem, hc8, hf8, hc7, hf7, u2, v2, x2, s0, s1, t0, t1]) rfl ⟨rfl, (by repeat (first | with_reducible exact Below.refl _ _ | (with_reducible refine Below.setCell ?_ (by first | exact Nat.le_refl _ | omega | (simp; done) | (simp; omega)) _) | (with_reducible refine Below.alloc ?_ (by first | exact Nat.le_refl _ | omega | (simp; done) | (simp; omega)) _) | with_reducible refine Below.drew ?_ | with_reducible refine bel_drewN ?_ _ | (with_reducible refine bel_by (by with_reducible assumption) (by first | exact Nat.le_refl _ | omega | (simp; done) | (simp; omega)) ?_)))⟩
      · have E := HE.out
        rw [show ssN (decide (an < 0)) p (decide (bn < 0)) q = (false, p + q) from by
          rw [show decide (an < 0) = false from by simpa using ha, show decide (bn < 0) = false from by simpa using hb]
          unfold ssN
          simp] at E
        clear HE BD
        have R : ∀ (b : Bool), b = false → ∀ W : World, Calls Try.prog 69 #[.bool b, .agg #[.int .u64 (hiW (p + q)), .int .u64 (loW (p + q))], .agg #[.int .u64 (hiW dd), .int .u64 (loW dd)]] W fun e w' => e = .returned (fracE t) ∧ Below W.heap.size W w' := by
          rintro b rfl W
          rw [← E]
          exact rbuild_any false (p + q) dd (by omega) (by omega) d0 (by omega) W
        have OP := fun W => rplus_any (hiW p) (loW p) (hiW q) (loW q) (hiW_0 (by omega)) (hiW_1 (by unfold B128; omega)) (loW_0 _) (loW_1 _) (hiW_0 (by omega)) (hiW_1 (by unfold B128; omega)) (loW_0 _) (loW_1 _) (by rw [valW_words, valW_words]; unfold B128; omega) W
        rw [valW_words, valW_words] at OP
        have HR := Lib.hid R
        have HOP := Lib.hid OP
        clear R OP E p0 p1 q0 q1 d0 d1
        generalize p + q = S at *
        go_wp2_with fail
        go_region_held3 (fun w' => w'.cell? ⟨w.heap.size, 0, none⟩ = some (.int .i64 an) ∧ w'.cell? ⟨g, 0, none⟩ = some (.int .u64 (hiW p)) ∧ w'.cell? ⟨g, 1, none⟩ = some (.int .u64 (loW p)) ∧ w'.cell? ⟨h, 0, none⟩ = some (.int .u64 (hiW q)) ∧ w'.cell? ⟨h, 1, none⟩ = some (.int .u64 (loW q)) ∧ w'.cell? ⟨z, 0, none⟩ = some (.int .u64 (hiW dd)) ∧ w'.cell? ⟨z, 1, none⟩ = some (.int .u64 (loW dd)))
          ((first | (simp [go_sem, c0, c2, hg0, hg1, hh0, hh1, i0, i1]; done) | (simp [go_sem, hc7, c0, c2, hg0, hg1, hh0, hh1, i0, i1, u0, u1, u3, u4, u5]; done) | (simp [go_sem, hc8, hc7, c0, c2, hg0, hg1, hh0, hh1, i0, i1, u0, u1, u3, u4, u5, v0, v1, v3, v4, v5]; done)))
          (first
            | (go_at_call 70; refine (HOP.out _).mono ?_; rintro e w7 ⟨rfl, hb7⟩; (try (with_reducible replace hb7 := undrew hb7)); obtain ⟨hc7, hf7⟩ := bcell hb7; have hz7 := bsize hb7; have v0 : w.heap.size < w7.heap.size := (by omega); have v1 : w.heap.size + 1 < w7.heap.size := (by omega); have v2 : w.heap.size + 1 + 1 < w7.heap.size := (by omega); have v3 : g < w7.heap.size := (by omega); have v4 : h < w7.heap.size := (by omega); have v5 : z < w7.heap.size := (by omega))
            | (go_at_call 69; refine (HR.out _ (by simp [ha, hb]) _).mono ?_; rintro e w8 ⟨rfl, hb8⟩; (try (with_reducible replace hb8 := undrew hb8)); obtain ⟨hc8, hf8⟩ := bcell hb8; have hz8 := bsize hb8; have x2 : w.heap.size + 1 + 1 < w8.heap.size := (by omega)))
        all_goals
          have hB := HB.out
          have hzW := hB.size
          go_wp2
          refine bodyPost_ret (v := fracE t) (by simp [results, Try.results55, go_sem, hc8, hf8, hc7, hf7, u2, v2, x2, s0, s1, t0, t1]) rfl ⟨rfl, (by repeat (first | with_reducible exact Below.refl _ _ | (with_reducible refine Below.setCell ?_ (by first | exact Nat.le_refl _ | omega | (simp; done) | (simp; omega)) _) | (with_reducible refine Below.alloc ?_ (by first | exact Nat.le_refl _ | omega | (simp; done) | (simp; omega)) _) | with_reducible refine Below.drew ?_ | with_reducible refine bel_drewN ?_ _ | (with_reducible refine bel_by (by with_reducible assumption) (by first | exact Nat.le_refl _ | omega | (simp; done) | (simp; omega)) ?_)))⟩

set_option maxHeartbeats 2000000 in
set_option maxRecDepth 100000 in
theorem radd_no1 (an ad bn bd : Int) (W1 : Wf64 (an, ad)) (W2 : Wf64 (bn, bd)) (av : vldI an ad = false) (w : World) :
    Calls Try.prog 55 #[.agg #[.int .i64 an, .int .i64 ad], .agg #[.int .i64 bn, .int .i64 bd]] w fun e w' => e = .returned (fracE (0, 0, 1)) ∧ Below w.heap.size w w' := by
  obtain ⟨A1, A2, A3, A4⟩ := W1
  obtain ⟨B1, B2, B3, B4⟩ := W2
  simp only at A1 A2 A3 A4 B1 B2 B3 B4
  have V1 := fun W => rvalid_any an ad A1 A2 A3 A4 W
  rw [av] at V1
  have HV1 := Lib.hid V1
  clear V1 av A1 A2 A3 A4 B1 B2 B3 B4
  go_enter Try.func55, Try.ntmps55
  go_wp2_with fail
  refine (HV1.out _).mono ?_
  rintro e w1 ⟨rfl, hb1⟩
  obtain ⟨hc1, hf1⟩ := bcell hb1
  have hz1 := bsize hb1
  simp at hz1
  have k0 : w.heap.size < w1.heap.size := by omega
  have k1 : w.heap.size + 1 < w1.heap.size := by omega
  have k2 : w.heap.size + 1 + 1 < w1.heap.size := by omega
  go_wp2
  refine bodyPost_ret (v := fracE (0, 0, 1)) (by simp [results, Try.results55, go_sem, hc1, hf1, k0, k1, k2]) rfl ⟨rfl, (by repeat (first | with_reducible exact Below.refl _ _ | (with_reducible refine Below.setCell ?_ (by first | exact Nat.le_refl _ | omega | (simp; done) | (simp; omega)) _) | (with_reducible refine Below.alloc ?_ (by first | exact Nat.le_refl _ | omega | (simp; done) | (simp; omega)) _) | with_reducible refine Below.drew ?_ | with_reducible refine bel_drewN ?_ _ | (with_reducible refine bel_by (by with_reducible assumption) (by first | exact Nat.le_refl _ | omega | (simp; done) | (simp; omega)) ?_)))⟩

set_option maxHeartbeats 2000000 in
set_option maxRecDepth 100000 in
theorem radd_no2 (an ad bn bd : Int) (W1 : Wf64 (an, ad)) (W2 : Wf64 (bn, bd)) (av : vldI an ad = true) (bv : vldI bn bd = false) (w : World) :
    Calls Try.prog 55 #[.agg #[.int .i64 an, .int .i64 ad], .agg #[.int .i64 bn, .int .i64 bd]] w fun e w' => e = .returned (fracE (0, 0, 1)) ∧ Below w.heap.size w w' := by
  obtain ⟨A1, A2, A3, A4⟩ := W1
  obtain ⟨B1, B2, B3, B4⟩ := W2
  simp only at A1 A2 A3 A4 B1 B2 B3 B4
  have V1 := fun W => rvalid_any an ad A1 A2 A3 A4 W
  have V2 := fun W => rvalid_any bn bd B1 B2 B3 B4 W
  rw [av] at V1
  rw [bv] at V2
  have HV1 := Lib.hid V1
  have HV2 := Lib.hid V2
  clear V1 V2 av bv A1 A2 A3 A4 B1 B2 B3 B4
  go_enter Try.func55, Try.ntmps55
  go_wp2_with fail
  refine (HV1.out _).mono ?_
  rintro e w1 ⟨rfl, hb1⟩
  obtain ⟨hc1, hf1⟩ := bcell hb1
  have hz1 := bsize hb1
  simp at hz1
  have k0 : w.heap.size < w1.heap.size := by omega
  have k1 : w.heap.size + 1 < w1.heap.size := by omega
  have k2 : w.heap.size + 1 + 1 < w1.heap.size := by omega
  go_wp2_with fail
  refine (HV2.out _).mono ?_
  rintro e w2 ⟨rfl, hb2⟩
  obtain ⟨hc2, hf2⟩ := bcell hb2
  have hz2 := bsize hb2
  have l0 : w.heap.size < w2.heap.size := by omega
  have l1 : w.heap.size + 1 < w2.heap.size := by omega
  have l2 : w.heap.size + 1 + 1 < w2.heap.size := by omega
  go_wp2
  refine bodyPost_ret (v := fracE (0, 0, 1)) (by simp [results, Try.results55, go_sem, hc1, hf1, k0, k1, k2, hc2, hf2, l0, l1, l2]) rfl ⟨rfl, (by repeat (first | with_reducible exact Below.refl _ _ | (with_reducible refine Below.setCell ?_ (by first | exact Nat.le_refl _ | omega | (simp; done) | (simp; omega)) _) | (with_reducible refine Below.alloc ?_ (by first | exact Nat.le_refl _ | omega | (simp; done) | (simp; omega)) _) | with_reducible refine Below.drew ?_ | with_reducible refine bel_drewN ?_ _ | (with_reducible refine bel_by (by with_reducible assumption) (by first | exact Nat.le_refl _ | omega | (simp; done) | (simp; omega)) ?_)))⟩

theorem radd_any (an ad bn bd : Int) (W1 : Wf64 (an, ad)) (W2 : Wf64 (bn, bd)) (w : World) :
    Calls Try.prog 55 #[.agg #[.int .i64 an, .int .i64 ad], .agg #[.int .i64 bn, .int .i64 bd]] w fun e w' => e = .returned (fracE (addS an ad bn bd)) ∧ Below w.heap.size w w' := by
  unfold addS
  cases av : vldI an ad with
  | false => simpa using radd_no1 an ad bn bd W1 W2 av w
  | true =>
    cases bv : vldI bn bd with
    | false => simpa using radd_no2 an ad bn bd W1 W2 av bv w
    | true =>
      simpa using radd_yes an ad bn bd av bv w

set_option maxHeartbeats 1000000 in
set_option maxRecDepth 100000 in
theorem rsub_any (an ad bn bd : Int) (W1 : Wf64 (an, ad)) (W2 : Wf64 (bn, bd)) (w : World) :
    Calls Try.prog 51 #[.agg #[.int .i64 an, .int .i64 ad], .agg #[.int .i64 bn, .int .i64 bd]] w fun e w' => e = .returned (fracE (subS an ad bn bd)) ∧ Below w.heap.size w w' := by
  obtain ⟨b1, b2, b3, b4⟩ := W2
  have HN := Lib.hid (fun W => rneg_any bn bd b1 b2 b3 b4 W)
  have HA := Lib.hid (fun W => radd_any an ad (negS bn bd).1 (negS bn bd).2 W1 (negS_wf b1 b2 b3 b4) W)
  clear W1 b1 b2 b3 b4
  unfold subS
  generalize addS an ad (negS bn bd).1 (negS bn bd).2 = t at *
  generalize negS bn bd = u at *
  go_enter Try.func51, Try.ntmps51
  go_wp2_with fail
  go_region_held3 (fun w' => w'.cell? ⟨w.heap.size, 0, none⟩ = some (.int .i64 an) ∧ w'.cell? ⟨w.heap.size, 1, none⟩ = some (.int .i64 ad) ∧ w'.cell? ⟨w.heap.size + 1, 0, none⟩ = some (.int .i64 bn) ∧ w'.cell? ⟨w.heap.size + 1, 1, none⟩ = some (.int .i64 bd))
    ((first | (simp [go_sem]; done) | (simp [go_sem, hc1]; done) | (simp [go_sem, hc1, k0, k1, k2]; done) | (simp [go_sem, hc2, hc1, k0, k1, k2]; done)))
    (first
      | (go_at_call 52; refine (HN.out _).mono ?_; rintro e w1 ⟨rfl, hb1⟩; (try (with_reducible replace hb1 := undrew hb1)); obtain ⟨hc1, hf1⟩ := bcell hb1; have hz1 := bsize hb1; (try simp at hz1); have k0 : w.heap.size < w1.heap.size := (by omega); have k1 : w.heap.size + 1 < w1.heap.size := (by omega); have k2 : w.heap.size + 1 + 1 < w1.heap.size := (by omega))
      | (go_at_call 55; refine (HA.out _).mono ?_; rintro e w2 ⟨rfl, hb2⟩; (try (with_reducible replace hb2 := undrew hb2)); obtain ⟨hc2, hf2⟩ := bcell hb2; have hz2 := bsize hb2; (try simp at hz2)))
  all_goals
    go_wp2
    refine bodyPost_ret (v := fracE t) (by simp [results, Try.results51, go_sem, hc2, hf2, hc1, hf1, k0, k1, k2]) rfl ⟨rfl, (by repeat (first | with_reducible exact Below.refl _ _ | (with_reducible refine Below.setCell ?_ (by first | exact Nat.le_refl _ | omega | (simp; done) | (simp; omega)) _) | (with_reducible refine Below.alloc ?_ (by first | exact Nat.le_refl _ | omega | (simp; done) | (simp; omega)) _) | with_reducible refine Below.drew ?_ | with_reducible refine bel_drewN ?_ _ | (with_reducible refine bel_by (by with_reducible assumption) (by first | exact Nat.le_refl _ | omega | (simp; done) | (simp; omega)) ?_)))⟩
end Go.Proofs.Ytbjmibaepccbeaa
