/- The reference of fractions: Cmp. -/
import Derived.Test.YtigibomcaecbdaaGreatRqv
set_option linter.unusedSimpArgs false
set_option linter.unusedVariables false
namespace Go.Proofs.YtigibomcaecbdaaGreat
open Go.RowKit Go.Sort

theorem cross_ne {an ad bn bd : Int} (av : vldI an ad = true) (bv : vldI bn bd = true) (h : ¬ (an = bn ∧ ad = bd)) : an * bd ≠ bn * ad := by
  intro e
  obtain ⟨a1, _, _, _, a5⟩ := vldI_out av
  obtain ⟨b1, _, _, _, b5⟩ := vldI_out bv
  have ca : an.natAbs.Coprime ad.natAbs := by unfold gcdI at a5; exact Int.ofNat.inj a5
  have cb : bn.natAbs.Coprime bd.natAbs := by unfold gcdI at b5; exact Int.ofNat.inj b5
  have e2 : an.natAbs * bd.natAbs = bn.natAbs * ad.natAbs := by rw [← Int.natAbs_mul, ← Int.natAbs_mul, e]
  have d1 : ad.natAbs ∣ bd.natAbs := ca.symm.dvd_of_dvd_mul_left (by rw [e2]; exact Nat.dvd_mul_left _ _)
  have d2 : bd.natAbs ∣ ad.natAbs := cb.symm.dvd_of_dvd_mul_left (by rw [← e2]; exact Nat.dvd_mul_left _ _)
  have hd : ad = bd := by have := Nat.dvd_antisymm d1 d2; omega
  refine h ⟨?_, hd⟩
  rw [hd] at e
  exact Int.eq_of_mul_eq_mul_right (by omega) e
set_option maxHeartbeats 4000000 in
set_option maxRecDepth 100000 in
theorem rcmp_rest (an ad bn bd : Int) (W1 : Wf64 (an, ad)) (W2 : Wf64 (bn, bd)) (h : ¬ (vldI an ad = true ∧ vldI bn bd = true)) (w : World) :
    Calls Tryz.prog 41 #[.agg #[.int .i64 an, .int .i64 ad], .agg #[.int .i64 bn, .int .i64 bd]] w fun e w' => e = .returned (.int .i64 (if vldI an ad = true then 1 else if vldI bn bd = true then -1 else 0)) ∧ Below w.heap.size w w' := by
  obtain ⟨A1, A2, A3, A4⟩ := W1
  obtain ⟨B1, B2, B3, B4⟩ := W2
  simp only at A1 A2 A3 A4 B1 B2 B3 B4
  have V1 := fun W => rvalid_any an ad A1 A2 A3 A4 W
  have V2 := fun W => rvalid_any bn bd B1 B2 B3 B4 W
  clear A1 A2 A3 A4 B1 B2 B3 B4
  generalize vldI an ad = va at *
  generalize vldI bn bd = vb at *
  cases va <;> cases vb
  case true.true => exact absurd ⟨rfl, rfl⟩ h
  all_goals
    clear h
    have HV1 := Lib.hid V1
    have HV2 := Lib.hid V2
    clear V1 V2
    simp only [if_true, if_false, Bool.false_eq_true]
    go_enter Tryz.func41, Tryz.ntmps41
    go_wp2_with fail
    go_region_held3 (fun w' => w'.cell? ⟨w.heap.size, 0, none⟩ = some (.int .i64 an) ∧ w'.cell? ⟨w.heap.size, 1, none⟩ = some (.int .i64 ad) ∧ w'.cell? ⟨w.heap.size + 1, 0, none⟩ = some (.int .i64 bn) ∧ w'.cell? ⟨w.heap.size + 1, 1, none⟩ = some (.int .i64 bd))
      ((first | (simp [go_sem]; done) | (simp [go_sem, hc1]; done) | (simp [go_sem, hc2, hc1, k0, k1]; done)))
      (first
        | (go_at_call_of 47 (Value.agg #[.int .i64 an, .int .i64 ad]); refine (HV1.out _).mono ?_; rintro e w1 ⟨rfl, hb1⟩; (try (with_reducible replace hb1 := undrew hb1)); obtain ⟨hc1, hf1⟩ := bcell hb1; have hz1 := bsize hb1; (try simp at hz1); have k0 : w.heap.size < w1.heap.size := (by omega); have k1 : w.heap.size + 1 < w1.heap.size := (by omega))
        | (go_at_call_of 47 (Value.agg #[.int .i64 bn, .int .i64 bd]); refine (HV2.out _).mono ?_; rintro e w2 ⟨rfl, hb2⟩; (try (with_reducible replace hb2 := undrew hb2)); obtain ⟨hc2, hf2⟩ := bcell hb2; have hz2 := bsize hb2; (try simp at hz2); have l0 : w.heap.size < w2.heap.size := (by omega); have l1 : w.heap.size + 1 < w2.heap.size := (by omega)))
    all_goals
      go_wp2
      go_ret
      exact ⟨rfl, (by repeat (first | with_reducible exact Below.refl _ _ | (with_reducible refine Below.setCell ?_ (by first | exact Nat.le_refl _ | omega | (simp; done) | (simp; omega)) _) | (with_reducible refine Below.alloc ?_ (by first | exact Nat.le_refl _ | omega | (simp; done) | (simp; omega)) _) | with_reducible refine Below.drew ?_ | with_reducible refine bel_drewN ?_ _ | (with_reducible refine bel_by (by with_reducible assumption) (by first | exact Nat.le_refl _ | omega | (simp; done) | (simp; omega)) ?_)))⟩

set_option maxHeartbeats 4000000 in
set_option maxRecDepth 100000 in
theorem rcmp_both (an ad bn bd : Int) (av : vldI an ad = true) (bv : vldI bn bd = true) (w : World) :
    Calls Tryz.prog 41 #[.agg #[.int .i64 an, .int .i64 ad], .agg #[.int .i64 bn, .int .i64 bd]] w fun e w' => e = .returned (.int .i64 (cmpV an ad bn bd)) ∧ Below w.heap.size w w' := by
  have E := cross_ne av bv
  obtain ⟨a1, a2, a3, a4, _⟩ := vldI_out av
  obtain ⟨b1, b2, b3, b4, _⟩ := vldI_out bv
  have V1 := fun W => rvalid_any an ad (by omega) (by omega) (by omega) (by omega) W
  have V2 := fun W => rvalid_any bn bd (by omega) (by omega) (by omega) (by omega) W
  have S1 := Lib.hid (fun W => rsize_any an (by omega) (by omega) W)
  have S2 := Lib.hid (fun W => rsize_any bn (by omega) (by omega) W)
  have x0 := absI_0 an
  have x1 : absI an ≤ 1000000000000000000 := by unfold absI; omega
  have y0 := absI_0 bn
  have y1 : absI bn ≤ 1000000000000000000 := by unfold absI; omega
  have p0 : 0 ≤ absI an * bd := Int.mul_nonneg (by omega) (by omega)
  have p1 : absI an * bd ≤ 1000000000000000000000000000000000000 := mul_small (by omega) (by omega) (by omega) (by omega)
  have q0 : 0 ≤ absI bn * ad := Int.mul_nonneg (by omega) (by omega)
  have q1 : absI bn * ad ≤ 1000000000000000000000000000000000000 := mul_small (by omega) (by omega) (by omega) (by omega)
  have P1 := Lib.hid (fun W => rprod_any (absI an) bd (by omega) (by omega) (by omega) (by omega) W)
  have P2 := Lib.hid (fun W => rprod_any (absI bn) ad (by omega) (by omega) (by omega) (by omega) W)
  rw [av] at V1
  rw [bv] at V2
  have HV1 := Lib.hid V1
  have HV2 := Lib.hid V2
  have BD := Lib.hid (And.intro (And.intro p0 p1) (And.intro q0 q1))
  have HE := Lib.hid E
  have b0 : 0 < bd := by omega
  have a0 : 0 < ad := by omega
  have HP := Lib.hid (And.intro a0 b0)
  clear V1 V2 E av bv p0 p1 q0 q1 x0 x1 y0 y1 a0 b0
  have qa : IntKind.u64.wrap ad = ad := IntWalk.u64_in _ (by omega)
  have qb : IntKind.u64.wrap bd = bd := IntWalk.u64_in _ (by omega)
  clear a1 a2 a3 a4 b1 b2 b3 b4
  go_enter Tryz.func41, Tryz.ntmps41
  go_upto_region 1 with fail
  go_cut [5, 6] (fun s5 s6 wx => s5 = .bool true ∧ s6 = .bool true ∧ wx.cell? ⟨w.heap.size, 0, none⟩ = some (.int .i64 an) ∧ wx.cell? ⟨w.heap.size, 1, none⟩ = some (.int .i64 ad) ∧ wx.cell? ⟨w.heap.size + 1, 0, none⟩ = some (.int .i64 bn) ∧ wx.cell? ⟨w.heap.size + 1, 1, none⟩ = some (.int .i64 bd) ∧ w.heap.size + 1 < wx.heap.size ∧ Below w.heap.size w wx)
  case first =>
    go_region_held3 (fun w' => w'.cell? ⟨w.heap.size, 0, none⟩ = some (.int .i64 an) ∧ w'.cell? ⟨w.heap.size, 1, none⟩ = some (.int .i64 ad) ∧ w'.cell? ⟨w.heap.size + 1, 0, none⟩ = some (.int .i64 bn) ∧ w'.cell? ⟨w.heap.size + 1, 1, none⟩ = some (.int .i64 bd))
      ((first | (simp [go_sem]; done) | (simp [go_sem, hc1]; done) | (simp [go_sem, hc2, hc1, k0, k1]; done)))
      (first
        | (go_at_call_of 47 (Value.agg #[.int .i64 an, .int .i64 ad]); refine (HV1.out _).mono ?_; rintro e w1 ⟨rfl, hb1⟩; (try (with_reducible replace hb1 := undrew hb1)); obtain ⟨hc1, hf1⟩ := bcell hb1; have hz1 := bsize hb1; (try simp at hz1); have k0 : w.heap.size < w1.heap.size := (by omega); have k1 : w.heap.size + 1 < w1.heap.size := (by omega))
        | (go_at_call_of 47 (Value.agg #[.int .i64 bn, .int .i64 bd]); refine (HV2.out _).mono ?_; rintro e w2 ⟨rfl, hb2⟩; (try (with_reducible replace hb2 := undrew hb2)); obtain ⟨hc2, hf2⟩ := bcell hb2; have hz2 := bsize hb2; (try simp at hz2); have l0 : w.heap.size < w2.heap.size := (by omega); have l1 : w.heap.size + 1 < w2.heap.size := (by omega)))
    all_goals
      go_wp2_with fail
      go_meet
      refine ⟨rfl, rfl, ?_, ?_, ?_, ?_, ?_, (by repeat (first | with_reducible exact Below.refl _ _ | (with_reducible refine Below.setCell ?_ (by first | exact Nat.le_refl _ | omega | (simp; done) | (simp; omega)) _) | (with_reducible refine Below.alloc ?_ (by first | exact Nat.le_refl _ | omega | (simp; done) | (simp; omega)) _) | with_reducible refine Below.drew ?_ | with_reducible refine bel_drewN ?_ _ | (with_reducible refine bel_by (by with_reducible assumption) (by first | exact Nat.le_refl _ | omega | (simp; done) | (simp; omega)) ?_)))⟩
      · simp [go_sem, hc2, hc1, k0, k1, l0, l1]
      · simp [go_sem, hc2, hc1, k0, k1, l0, l1]
      · simp [go_sem, hc2, hc1, k0, k1, l0, l1]
      · simp [go_sem, hc2, hc1, k0, k1, l0, l1]
      · first | (simp; done) | (simp; omega) | omega
  case rest =>
    obtain ⟨rfl, rfl, e0, e1, e2, e3, l1, hbW⟩ := hcut
    generalize wc = w2 at *
    have l0 : w.heap.size < w2.heap.size := by omega
    go_upto_region 8 with fail
    go_cut [25] (fun s25 wx => s25 = .bool ((an == bn) && (ad == bd)) ∧ w2 = wx)
    case first =>
      cases hq1 : (an == bn) <;> cases hq2 : (ad == bd)
      all_goals
        go_wp2_with fail
        go_meet
        exact ⟨by simp [hq1, hq2], rfl⟩
    obtain ⟨rfl, rfl⟩ := hcut
    by_cases heq : an = bn ∧ ad = bd
    · have hag : ((an == bn) && (ad == bd)) = true := by simpa using heq
      have e : cmpV an ad bn bd = 0 := by rw [heq.1, heq.2]; unfold cmpV ordI; rw [if_neg (by omega), if_pos rfl]
      rw [hag]
      clear BD HE P1 P2 S1 S2 heq hag
      go_wp2
      go_ret
      exact ⟨by first | rfl | (rw [e]; rfl), (by repeat (first | with_reducible exact Below.refl _ _ | (with_reducible refine Below.setCell ?_ (by first | exact Nat.le_refl _ | omega | (simp; done) | (simp; omega)) _) | (with_reducible refine Below.alloc ?_ (by first | exact Nat.le_refl _ | omega | (simp; done) | (simp; omega)) _) | with_reducible refine Below.drew ?_ | with_reducible refine bel_drewN ?_ _ | (with_reducible refine bel_by (by with_reducible assumption) (by first | exact Nat.le_refl _ | omega | (simp; done) | (simp; omega)) ?_)))⟩
    · have hne := HE.out heq
      clear HE
      obtain ⟨⟨p0, p1⟩, ⟨q0, q1⟩⟩ := BD.out
      obtain ⟨a0, b0⟩ := HP.out
      have hag : ((an == bn) && (ad == bd)) = false := by
        rw [← Bool.not_eq_true]
        intro h
        exact heq (by simpa using h)
      rw [hag]
      clear BD HP hag
      by_cases ha : an < 0
      · by_cases hb : bn < 0
        · have e : cmpV an ad bn bd = -ordI (absI an * bd) (absI bn * ad) := by
            unfold cmpV
            rw [absI_neg ha, absI_neg hb, Int.neg_mul, Int.neg_mul, ordI_neg, Int.neg_neg]
          have hpq : absI an * bd ≠ absI bn * ad := by
            rw [absI_neg ha, absI_neg hb, Int.neg_mul, Int.neg_mul]
            omega
          have HE := Lib.hid e
          clear e hne heq
          have HPQ := Lib.hid hpq
          clear hpq
          have BD := Lib.hid (And.intro (And.intro p0 p1) (And.intro q0 q1))
          clear p0 p1 q0 q1 a0 b0
          generalize absI an * bd = p at *
          generalize absI bn * ad = q at *
          generalize absI an = x at *
          generalize absI bn = y at *
          go_upto_region 14 with fail
          have o0 : w.heap.size ≤ w2.heap.size := by omega
          have o1 : w.heap.size + 1 ≤ w2.heap.size := by omega
          have o2 : w.heap.size ≤ w2.heap.size + 1 := by omega
          have o3 : w.heap.size + 1 ≤ w2.heap.size + 1 := by omega
          have o4 : w.heap.size < w2.heap.size + 2 := by omega
          have o5 : w.heap.size < w2.heap.size + 1 := by omega
          go_cut [7, 8] (fun s7 s8 wx => ∃ g h : Nat, s7 = .pointer (some ⟨g, 0, none⟩) ∧ s8 = .pointer (some ⟨h, 0, none⟩) ∧ wx.cell? ⟨g, 0, none⟩ = some (.int .u64 (hiW p)) ∧ wx.cell? ⟨g, 1, none⟩ = some (.int .u64 (loW p)) ∧ wx.cell? ⟨h, 0, none⟩ = some (.int .u64 (hiW q)) ∧ wx.cell? ⟨h, 1, none⟩ = some (.int .u64 (loW q)) ∧ g < wx.heap.size ∧ h < wx.heap.size ∧ w2.heap.size ≤ g ∧ w2.heap.size ≤ h ∧ Below w2.heap.size w2 wx)
          case first =>
            go_region_held3 (fun w' => w'.cell? ⟨w.heap.size, 0, none⟩ = some (.int .i64 an) ∧ w'.cell? ⟨w.heap.size, 1, none⟩ = some (.int .i64 ad) ∧ w'.cell? ⟨w.heap.size + 1, 0, none⟩ = some (.int .i64 bn) ∧ w'.cell? ⟨w.heap.size + 1, 1, none⟩ = some (.int .i64 bd))
              ((first | (simp [go_sem, e0, e1, e2, e3, l0, l1, o0, o1, o2, o3, o4, o5]; done) | (simp [go_sem, hc3, e0, e1, e2, e3, l0, l1, o0, o1, o2, o3, o4, o5]; done) | (simp [go_sem, hc3, e0, e1, e2, e3, l0, l1, o0, o1, o2, o3, o4, o5, ka3, kb3, la3, lb3, lc3, ld3, le3, lf3]; done) | (simp [go_sem, hc4, hc3, e0, e1, e2, e3, l0, l1, o0, o1, o2, o3, o4, o5, ka3, kb3, la3, lb3, lc3, ld3, le3, lf3]; done) | (simp [go_sem, hc4, hc3, e0, e1, e2, e3, l0, l1, o0, o1, o2, o3, o4, o5, ka3, kb3, la3, lb3, lc3, ld3, le3, lf3, ka4, kb4, la4, lb4, lc4, ld4, le4, lf4]; done)))
              (first
                | (go_at_call_of 71 (Value.int .i64 an); refine (S1.out _).mono ?_; rintro e w3 ⟨rfl, rfl⟩)
                | (go_at_call_of 71 (Value.int .i64 bn); refine (S2.out _).mono ?_; rintro e w3 ⟨rfl, rfl⟩)
                | (go_at_call_of 70 (Value.int .u64 x); refine (P1.out _).mono ?_; rintro e w3 ⟨rfl, hb3⟩; (try (with_reducible replace hb3 := undrew hb3)); obtain ⟨hc3, hf3⟩ := bcell hb3; have hz3 := bsize hb3; (try simp at hz3); have ka3 : w.heap.size < w3.heap.size := (by omega); have kb3 : w.heap.size + 1 < w3.heap.size := (by omega); have la3 : w.heap.size ≤ w3.heap.size := (by omega); have lb3 : w.heap.size + 1 ≤ w3.heap.size := (by omega); have lc3 : w.heap.size ≤ w3.heap.size + 1 := (by omega); have ld3 : w.heap.size + 1 ≤ w3.heap.size + 1 := (by omega); have le3 : w.heap.size < w3.heap.size + 2 := (by omega); have lf3 : w.heap.size < w3.heap.size + 1 := (by omega); (first | (have n3200 : w2.heap.size < w3.heap.size := (by omega)) | (have n3200 : 0 < w3.heap.size + 1 := (by omega))); (first | (have n3201 : ¬ w2.heap.size = w3.heap.size := (by omega)) | (have n3201 : 0 < w3.heap.size + 1 := (by omega))); (first | (have n3202 : ¬ w3.heap.size = w2.heap.size := (by omega)) | (have n3202 : 0 < w3.heap.size + 1 := (by omega))); (first | (have n3210 : w2.heap.size + 1 < w3.heap.size := (by omega)) | (have n3210 : 0 < w3.heap.size + 1 := (by omega))); (first | (have n3211 : ¬ w2.heap.size + 1 = w3.heap.size := (by omega)) | (have n3211 : 0 < w3.heap.size + 1 := (by omega))); (first | (have n3212 : ¬ w3.heap.size = w2.heap.size + 1 := (by omega)) | (have n3212 : 0 < w3.heap.size + 1 := (by omega))))
                | (go_at_call_of 70 (Value.int .u64 y); refine (P2.out _).mono ?_; rintro e w4 ⟨rfl, hb4⟩; (try (with_reducible replace hb4 := undrew hb4)); obtain ⟨hc4, hf4⟩ := bcell hb4; have hz4 := bsize hb4; (try simp at hz4); have ka4 : w.heap.size < w4.heap.size := (by omega); have kb4 : w.heap.size + 1 < w4.heap.size := (by omega); have la4 : w.heap.size ≤ w4.heap.size := (by omega); have lb4 : w.heap.size + 1 ≤ w4.heap.size := (by omega); have lc4 : w.heap.size ≤ w4.heap.size + 1 := (by omega); have ld4 : w.heap.size + 1 ≤ w4.heap.size + 1 := (by omega); have le4 : w.heap.size < w4.heap.size + 2 := (by omega); have lf4 : w.heap.size < w4.heap.size + 1 := (by omega); (first | (have n4200 : w2.heap.size < w4.heap.size := (by omega)) | (have n4200 : 0 < w4.heap.size + 1 := (by omega))); (first | (have n4201 : ¬ w2.heap.size = w4.heap.size := (by omega)) | (have n4201 : 0 < w4.heap.size + 1 := (by omega))); (first | (have n4202 : ¬ w4.heap.size = w2.heap.size := (by omega)) | (have n4202 : 0 < w4.heap.size + 1 := (by omega))); (first | (have n4210 : w2.heap.size + 1 < w4.heap.size := (by omega)) | (have n4210 : 0 < w4.heap.size + 1 := (by omega))); (first | (have n4211 : ¬ w2.heap.size + 1 = w4.heap.size := (by omega)) | (have n4211 : 0 < w4.heap.size + 1 := (by omega))); (first | (have n4212 : ¬ w4.heap.size = w2.heap.size + 1 := (by omega)) | (have n4212 : 0 < w4.heap.size + 1 := (by omega))); (first | (have n4300 : w3.heap.size < w4.heap.size := (by omega)) | (have n4300 : 0 < w4.heap.size + 1 := (by omega))); (first | (have n4301 : ¬ w3.heap.size = w4.heap.size := (by omega)) | (have n4301 : 0 < w4.heap.size + 1 := (by omega))); (first | (have n4302 : ¬ w4.heap.size = w3.heap.size := (by omega)) | (have n4302 : 0 < w4.heap.size + 1 := (by omega))); (first | (have n4310 : w3.heap.size + 1 < w4.heap.size := (by omega)) | (have n4310 : 0 < w4.heap.size + 1 := (by omega))); (first | (have n4311 : ¬ w3.heap.size + 1 = w4.heap.size := (by omega)) | (have n4311 : 0 < w4.heap.size + 1 := (by omega))); (first | (have n4312 : ¬ w4.heap.size = w3.heap.size + 1 := (by omega)) | (have n4312 : 0 < w4.heap.size + 1 := (by omega)))))
            all_goals
              go_wp2_with fail
              go_meet
              refine ⟨_, _, rfl, rfl, ?_, ?_, ?_, ?_, ?_, ?_, ?_, ?_, (by repeat (first | with_reducible exact Below.refl _ _ | (with_reducible refine Below.setCell ?_ (by first | exact Nat.le_refl _ | omega | (simp; done) | (simp; omega)) _) | (with_reducible refine Below.alloc ?_ (by first | exact Nat.le_refl _ | omega | (simp; done) | (simp; omega)) _) | with_reducible refine Below.drew ?_ | with_reducible refine bel_drewN ?_ _ | (with_reducible refine bel_by (by with_reducible assumption) (by first | exact Nat.le_refl _ | omega | (simp; done) | (simp; omega)) ?_)))⟩
              · first | (simp [go_sem]; done) | (simp [go_sem, hc4]; done) | (simp (maxDischargeDepth := 6) [go_sem, hc4, hc3, n3200, n3201, n3202, n3210, n3211, n3212, n4200, n4201, n4202, n4210, n4211, n4212, n4300, n4301, n4302, n4310, n4311, n4312]; done)
              · first | (simp [go_sem]; done) | (simp [go_sem, hc4]; done) | (simp (maxDischargeDepth := 6) [go_sem, hc4, hc3, n3200, n3201, n3202, n3210, n3211, n3212, n4200, n4201, n4202, n4210, n4211, n4212, n4300, n4301, n4302, n4310, n4311, n4312]; done)
              · first | (simp [go_sem]; done) | (simp [go_sem, hc4]; done) | (simp (maxDischargeDepth := 6) [go_sem, hc4, hc3, n3200, n3201, n3202, n3210, n3211, n3212, n4200, n4201, n4202, n4210, n4211, n4212, n4300, n4301, n4302, n4310, n4311, n4312]; done)
              · first | (simp [go_sem]; done) | (simp [go_sem, hc4]; done) | (simp (maxDischargeDepth := 6) [go_sem, hc4, hc3, n3200, n3201, n3202, n3210, n3211, n3212, n4200, n4201, n4202, n4210, n4211, n4212, n4300, n4301, n4302, n4310, n4311, n4312]; done)
              · first | (simp; done) | (simp; omega)
              · first | (simp; done) | (simp; omega)
              · first | (simp; done) | (simp; omega) | omega
              · first | (simp; done) | (simp; omega) | omega
          case rest =>
            obtain ⟨g, h, rfl, rfl, hg0, hg1, hh0, hh1, hg4, hh4, hg5, hh5, hbB⟩ := hcut
            have hbV : Below w.heap.size w wc := (by repeat (first | with_reducible exact Below.refl _ _ | (with_reducible refine Below.setCell ?_ (by first | exact Nat.le_refl _ | omega | (simp; done) | (simp; omega)) _) | (with_reducible refine Below.alloc ?_ (by first | exact Nat.le_refl _ | omega | (simp; done) | (simp; omega)) _) | with_reducible refine Below.drew ?_ | with_reducible refine bel_drewN ?_ _ | (with_reducible refine bel_by (by with_reducible assumption) (by first | exact Nat.le_refl _ | omega | (simp; done) | (simp; omega)) ?_)))
            obtain ⟨hcB, hfB⟩ := bcell hbB
            have hzB := bsize hbB
            have c0 : wc.cell? ⟨w.heap.size, 0, none⟩ = some (.int .i64 an) := by rw [hcB _ _ l0]; exact e0
            have c1 : wc.cell? ⟨w.heap.size, 1, none⟩ = some (.int .i64 ad) := by rw [hcB _ _ l0]; exact e1
            have c2 : wc.cell? ⟨w.heap.size + 1, 0, none⟩ = some (.int .i64 bn) := by rw [hcB _ _ l1]; exact e2
            have c3 : wc.cell? ⟨w.heap.size + 1, 1, none⟩ = some (.int .i64 bd) := by rw [hcB _ _ l1]; exact e3
            have m0 : w.heap.size < wc.heap.size := by omega
            have m1 : w.heap.size + 1 < wc.heap.size := by omega
            clear hcB hfB hbB hzB e0 e1 e2 e3 hbW hg5 hh5 l0 l1
            have HB := Lib.hid hbV
            clear hbV
            obtain ⟨⟨p0, p1⟩, ⟨q0, q1⟩⟩ := BD.out
            have hpq := HPQ.out
            clear BD HPQ
            by_cases hl : p < q
            · have e : -ordI p q = 1 := by unfold ordI; rw [if_pos hl]; rfl
              have L := fun W => rless_any (hiW p) (loW p) (hiW q) (loW q) (hiW_0 p0) (hiW_1 (by unfold B128; omega)) (loW_0 _) (loW_1 _) (hiW_0 q0) (hiW_1 (by unfold B128; omega)) (loW_0 _) (loW_1 _) W
              rw [valW_words, valW_words, show decide (p < q) = true from by simpa using hl] at L
              have HL := Lib.hid L
              have e := HE.out.trans e
              have HF := Lib.hid e
              clear L e HE p0 p1 q0 q1 hpq hl
              have hge : ¬ 0 ≤ an := by omega
              have hgd : (!decide (0 ≤ an)) = true := by simp; omega
              go_wp2_with fail
              go_region_held3 (fun w' => w'.cell? ⟨w.heap.size, 0, none⟩ = some (.int .i64 an) ∧ w'.cell? ⟨g, 0, none⟩ = some (.int .u64 (hiW p)) ∧ w'.cell? ⟨g, 1, none⟩ = some (.int .u64 (loW p)) ∧ w'.cell? ⟨h, 0, none⟩ = some (.int .u64 (hiW q)) ∧ w'.cell? ⟨h, 1, none⟩ = some (.int .u64 (loW q)))
                ((first | (simp [go_sem, c0, hg0, hg1, hh0, hh1]; done) | (simp [go_sem, hc7, c0, hg0, hg1, hh0, hh1, m0, hg4, hh4]; done)))
                (first
                  | (go_at_call 72; refine (HL.out _).mono ?_; rintro e w7 ⟨rfl, hb7⟩; (try (with_reducible replace hb7 := undrew hb7)); obtain ⟨hc7, hf7⟩ := bcell hb7; have hz7 := bsize hb7; (try simp at hz7)))
              all_goals
                have hB := HB.out
                have hzW := hB.size
                go_wp2
                go_ret
                exact ⟨by first | rfl | (rw [HF.out]; rfl), (by repeat (first | with_reducible exact Below.refl _ _ | (with_reducible refine Below.setCell ?_ (by first | exact Nat.le_refl _ | omega | (simp; done) | (simp; omega)) _) | (with_reducible refine Below.alloc ?_ (by first | exact Nat.le_refl _ | omega | (simp; done) | (simp; omega)) _) | with_reducible refine Below.drew ?_ | with_reducible refine bel_drewN ?_ _ | (with_reducible refine bel_by (by with_reducible assumption) (by first | exact Nat.le_refl _ | omega | (simp; done) | (simp; omega)) ?_)))⟩
            · have e : -ordI p q = -1 := by unfold ordI; rw [if_neg hl, if_neg hpq]
              have L := fun W => rless_any (hiW p) (loW p) (hiW q) (loW q) (hiW_0 p0) (hiW_1 (by unfold B128; omega)) (loW_0 _) (loW_1 _) (hiW_0 q0) (hiW_1 (by unfold B128; omega)) (loW_0 _) (loW_1 _) W
              rw [valW_words, valW_words, show decide (p < q) = false from by simpa using hl] at L
              have HL := Lib.hid L
              have e := HE.out.trans e
              have HF := Lib.hid e
              clear L e HE p0 p1 q0 q1 hpq hl
              have hge : ¬ 0 ≤ an := by omega
              have hgd : (!decide (0 ≤ an)) = true := by simp; omega
              go_wp2_with fail
              go_region_held3 (fun w' => w'.cell? ⟨w.heap.size, 0, none⟩ = some (.int .i64 an) ∧ w'.cell? ⟨g, 0, none⟩ = some (.int .u64 (hiW p)) ∧ w'.cell? ⟨g, 1, none⟩ = some (.int .u64 (loW p)) ∧ w'.cell? ⟨h, 0, none⟩ = some (.int .u64 (hiW q)) ∧ w'.cell? ⟨h, 1, none⟩ = some (.int .u64 (loW q)))
                ((first | (simp [go_sem, c0, hg0, hg1, hh0, hh1]; done) | (simp [go_sem, hc7, c0, hg0, hg1, hh0, hh1, m0, hg4, hh4]; done)))
                (first
                  | (go_at_call 72; refine (HL.out _).mono ?_; rintro e w7 ⟨rfl, hb7⟩; (try (with_reducible replace hb7 := undrew hb7)); obtain ⟨hc7, hf7⟩ := bcell hb7; have hz7 := bsize hb7; (try simp at hz7)))
              all_goals
                have hB := HB.out
                have hzW := hB.size
                go_wp2
                go_ret
                exact ⟨by first | rfl | (rw [HF.out]; rfl), (by repeat (first | with_reducible exact Below.refl _ _ | (with_reducible refine Below.setCell ?_ (by first | exact Nat.le_refl _ | omega | (simp; done) | (simp; omega)) _) | (with_reducible refine Below.alloc ?_ (by first | exact Nat.le_refl _ | omega | (simp; done) | (simp; omega)) _) | with_reducible refine Below.drew ?_ | with_reducible refine bel_drewN ?_ _ | (with_reducible refine bel_by (by with_reducible assumption) (by first | exact Nat.le_refl _ | omega | (simp; done) | (simp; omega)) ?_)))⟩
        · have e : cmpV an ad bn bd = -1 := by
            unfold cmpV ordI
            have h1 : an * bd < 0 := Int.mul_neg_of_neg_of_pos ha b0
            have h2 : 0 ≤ bn * ad := Int.mul_nonneg (by omega) (by omega)
            rw [if_pos (by omega)]
          clear hne heq p0 p1 q0 q1 a0 b0 P1 P2 S1 S2
          go_wp2
          go_ret
          exact ⟨by first | rfl | (rw [e]; rfl), (by repeat (first | with_reducible exact Below.refl _ _ | (with_reducible refine Below.setCell ?_ (by first | exact Nat.le_refl _ | omega | (simp; done) | (simp; omega)) _) | (with_reducible refine Below.alloc ?_ (by first | exact Nat.le_refl _ | omega | (simp; done) | (simp; omega)) _) | with_reducible refine Below.drew ?_ | with_reducible refine bel_drewN ?_ _ | (with_reducible refine bel_by (by with_reducible assumption) (by first | exact Nat.le_refl _ | omega | (simp; done) | (simp; omega)) ?_)))⟩
      · by_cases hb : bn < 0
        · have e : cmpV an ad bn bd = 1 := by
            unfold cmpV ordI
            have h1 : bn * ad < 0 := Int.mul_neg_of_neg_of_pos hb a0
            have h2 : 0 ≤ an * bd := Int.mul_nonneg (by omega) (by omega)
            rw [if_neg (by omega), if_neg (by omega)]
          clear hne heq p0 p1 q0 q1 a0 b0 P1 P2 S1 S2
          go_wp2
          go_ret
          exact ⟨by first | rfl | (rw [e]; rfl), (by repeat (first | with_reducible exact Below.refl _ _ | (with_reducible refine Below.setCell ?_ (by first | exact Nat.le_refl _ | omega | (simp; done) | (simp; omega)) _) | (with_reducible refine Below.alloc ?_ (by first | exact Nat.le_refl _ | omega | (simp; done) | (simp; omega)) _) | with_reducible refine Below.drew ?_ | with_reducible refine bel_drewN ?_ _ | (with_reducible refine bel_by (by with_reducible assumption) (by first | exact Nat.le_refl _ | omega | (simp; done) | (simp; omega)) ?_)))⟩
        · have e : cmpV an ad bn bd = ordI (absI an * bd) (absI bn * ad) := by
            unfold cmpV
            rw [absI_pos (by omega), absI_pos (by omega)]
          have hpq : absI an * bd ≠ absI bn * ad := by
            rw [absI_pos (by omega), absI_pos (by omega)]
            exact hne
          have HE := Lib.hid e
          clear e hne heq
          have HPQ := Lib.hid hpq
          clear hpq
          have BD := Lib.hid (And.intro (And.intro p0 p1) (And.intro q0 q1))
          clear p0 p1 q0 q1 a0 b0
          generalize absI an * bd = p at *
          generalize absI bn * ad = q at *
          generalize absI an = x at *
          generalize absI bn = y at *
          go_upto_region 14 with fail
          have o0 : w.heap.size ≤ w2.heap.size := by omega
          have o1 : w.heap.size + 1 ≤ w2.heap.size := by omega
          have o2 : w.heap.size ≤ w2.heap.size + 1 := by omega
          have o3 : w.heap.size + 1 ≤ w2.heap.size + 1 := by omega
          have o4 : w.heap.size < w2.heap.size + 2 := by omega
          have o5 : w.heap.size < w2.heap.size + 1 := by omega
          go_cut [7, 8] (fun s7 s8 wx => ∃ g h : Nat, s7 = .pointer (some ⟨g, 0, none⟩) ∧ s8 = .pointer (some ⟨h, 0, none⟩) ∧ wx.cell? ⟨g, 0, none⟩ = some (.int .u64 (hiW p)) ∧ wx.cell? ⟨g, 1, none⟩ = some (.int .u64 (loW p)) ∧ wx.cell? ⟨h, 0, none⟩ = some (.int .u64 (hiW q)) ∧ wx.cell? ⟨h, 1, none⟩ = some (.int .u64 (loW q)) ∧ g < wx.heap.size ∧ h < wx.heap.size ∧ w2.heap.size ≤ g ∧ w2.heap.size ≤ h ∧ Below w2.heap.size w2 wx)
          case first =>
            go_region_held3 (fun w' => w'.cell? ⟨w.heap.size, 0, none⟩ = some (.int .i64 an) ∧ w'.cell? ⟨w.heap.size, 1, none⟩ = some (.int .i64 ad) ∧ w'.cell? ⟨w.heap.size + 1, 0, none⟩ = some (.int .i64 bn) ∧ w'.cell? ⟨w.heap.size + 1, 1, none⟩ = some (.int .i64 bd))
              ((first | (simp [go_sem, e0, e1, e2, e3, l0, l1, o0, o1, o2, o3, o4, o5]; done) | (simp [go_sem, hc3, e0, e1, e2, e3, l0, l1, o0, o1, o2, o3, o4, o5]; done) | (simp [go_sem, hc3, e0, e1, e2, e3, l0, l1, o0, o1, o2, o3, o4, o5, ka3, kb3, la3, lb3, lc3, ld3, le3, lf3]; done) | (simp [go_sem, hc4, hc3, e0, e1, e2, e3, l0, l1, o0, o1, o2, o3, o4, o5, ka3, kb3, la3, lb3, lc3, ld3, le3, lf3]; done) | (simp [go_sem, hc4, hc3, e0, e1, e2, e3, l0, l1, o0, o1, o2, o3, o4, o5, ka3, kb3, la3, lb3, lc3, ld3, le3, lf3, ka4, kb4, la4, lb4, lc4, ld4, le4, lf4]; done)))
              (first
                | (go_at_call_of 71 (Value.int .i64 an); refine (S1.out _).mono ?_; rintro e w3 ⟨rfl, rfl⟩)
                | (go_at_call_of 71 (Value.int .i64 bn); refine (S2.out _).mono ?_; rintro e w3 ⟨rfl, rfl⟩)
                | (go_at_call_of 70 (Value.int .u64 x); refine (P1.out _).mono ?_; rintro e w3 ⟨rfl, hb3⟩; (try (with_reducible replace hb3 := undrew hb3)); obtain ⟨hc3, hf3⟩ := bcell hb3; have hz3 := bsize hb3; (try simp at hz3); have ka3 : w.heap.size < w3.heap.size := (by omega); have kb3 : w.heap.size + 1 < w3.heap.size := (by omega); have la3 : w.heap.size ≤ w3.heap.size := (by omega); have lb3 : w.heap.size + 1 ≤ w3.heap.size := (by omega); have lc3 : w.heap.size ≤ w3.heap.size + 1 := (by omega); have ld3 : w.heap.size + 1 ≤ w3.heap.size + 1 := (by omega); have le3 : w.heap.size < w3.heap.size + 2 := (by omega); have lf3 : w.heap.size < w3.heap.size + 1 := (by omega); (first | (have n3200 : w2.heap.size < w3.heap.size := (by omega)) | (have n3200 : 0 < w3.heap.size + 1 := (by omega))); (first | (have n3201 : ¬ w2.heap.size = w3.heap.size := (by omega)) | (have n3201 : 0 < w3.heap.size + 1 := (by omega))); (first | (have n3202 : ¬ w3.heap.size = w2.heap.size := (by omega)) | (have n3202 : 0 < w3.heap.size + 1 := (by omega))); (first | (have n3210 : w2.heap.size + 1 < w3.heap.size := (by omega)) | (have n3210 : 0 < w3.heap.size + 1 := (by omega))); (first | (have n3211 : ¬ w2.heap.size + 1 = w3.heap.size := (by omega)) | (have n3211 : 0 < w3.heap.size + 1 := (by omega))); (first | (have n3212 : ¬ w3.heap.size = w2.heap.size + 1 := (by omega)) | (have n3212 : 0 < w3.heap.size + 1 := (by omega))))
                | (go_at_call_of 70 (Value.int .u64 y); refine (P2.out _).mono ?_; rintro e w4 ⟨rfl, hb4⟩; (try (with_reducible replace hb4 := undrew hb4)); obtain ⟨hc4, hf4⟩ := bcell hb4; have hz4 := bsize hb4; (try simp at hz4); have ka4 : w.heap.size < w4.heap.size := (by omega); have kb4 : w.heap.size + 1 < w4.heap.size := (by omega); have la4 : w.heap.size ≤ w4.heap.size := (by omega); have lb4 : w.heap.size + 1 ≤ w4.heap.size := (by omega); have lc4 : w.heap.size ≤ w4.heap.size + 1 := (by omega); have ld4 : w.heap.size + 1 ≤ w4.heap.size + 1 := (by omega); have le4 : w.heap.size < w4.heap.size + 2 := (by omega); have lf4 : w.heap.size < w4.heap.size + 1 := (by omega); (first | (have n4200 : w2.heap.size < w4.heap.size := (by omega)) | (have n4200 : 0 < w4.heap.size + 1 := (by omega))); (first | (have n4201 : ¬ w2.heap.size = w4.heap.size := (by omega)) | (have n4201 : 0 < w4.heap.size + 1 := (by omega))); (first | (have n4202 : ¬ w4.heap.size = w2.heap.size := (by omega)) | (have n4202 : 0 < w4.heap.size + 1 := (by omega))); (first | (have n4210 : w2.heap.size + 1 < w4.heap.size := (by omega)) | (have n4210 : 0 < w4.heap.size + 1 := (by omega))); (first | (have n4211 : ¬ w2.heap.size + 1 = w4.heap.size := (by omega)) | (have n4211 : 0 < w4.heap.size + 1 := (by omega))); (first | (have n4212 : ¬ w4.heap.size = w2.heap.size + 1 := (by omega)) | (have n4212 : 0 < w4.heap.size + 1 := (by omega))); (first | (have n4300 : w3.heap.size < w4.heap.size := (by omega)) | (have n4300 : 0 < w4.heap.size + 1 := (by omega))); (first | (have n4301 : ¬ w3.heap.size = w4.heap.size := (by omega)) | (have n4301 : 0 < w4.heap.size + 1 := (by omega))); (first | (have n4302 : ¬ w4.heap.size = w3.heap.size := (by omega)) | (have n4302 : 0 < w4.heap.size + 1 := (by omega))); (first | (have n4310 : w3.heap.size + 1 < w4.heap.size := (by omega)) | (have n4310 : 0 < w4.heap.size + 1 := (by omega))); (first | (have n4311 : ¬ w3.heap.size + 1 = w4.heap.size := (by omega)) | (have n4311 : 0 < w4.heap.size + 1 := (by omega))); (first | (have n4312 : ¬ w4.heap.size = w3.heap.size + 1 := (by omega)) | (have n4312 : 0 < w4.heap.size + 1 := (by omega)))))
            all_goals
              go_wp2_with fail
              go_meet
              refine ⟨_, _, rfl, rfl, ?_, ?_, ?_, ?_, ?_, ?_, ?_, ?_, (by repeat (first | with_reducible exact Below.refl _ _ | (with_reducible refine Below.setCell ?_ (by first | exact Nat.le_refl _ | omega | (simp; done) | (simp; omega)) _) | (with_reducible refine Below.alloc ?_ (by first | exact Nat.le_refl _ | omega | (simp; done) | (simp; omega)) _) | with_reducible refine Below.drew ?_ | with_reducible refine bel_drewN ?_ _ | (with_reducible refine bel_by (by with_reducible assumption) (by first | exact Nat.le_refl _ | omega | (simp; done) | (simp; omega)) ?_)))⟩
              · first | (simp [go_sem]; done) | (simp [go_sem, hc4]; done) | (simp (maxDischargeDepth := 6) [go_sem, hc4, hc3, n3200, n3201, n3202, n3210, n3211, n3212, n4200, n4201, n4202, n4210, n4211, n4212, n4300, n4301, n4302, n4310, n4311, n4312]; done)
              · first | (simp [go_sem]; done) | (simp [go_sem, hc4]; done) | (simp (maxDischargeDepth := 6) [go_sem, hc4, hc3, n3200, n3201, n3202, n3210, n3211, n3212, n4200, n4201, n4202, n4210, n4211, n4212, n4300, n4301, n4302, n4310, n4311, n4312]; done)
              · first | (simp [go_sem]; done) | (simp [go_sem, hc4]; done) | (simp (maxDischargeDepth := 6) [go_sem, hc4, hc3, n3200, n3201, n3202, n3210, n3211, n3212, n4200, n4201, n4202, n4210, n4211, n4212, n4300, n4301, n4302, n4310, n4311, n4312]; done)
              · first | (simp [go_sem]; done) | (simp [go_sem, hc4]; done) | (simp (maxDischargeDepth := 6) [go_sem, hc4, hc3, n3200, n3201, n3202, n3210, n3211, n3212, n4200, n4201, n4202, n4210, n4211, n4212, n4300, n4301, n4302, n4310, n4311, n4312]; done)
              · first | (simp; done) | (simp; omega)
              · first | (simp; done) | (simp; omega)
              · first | (simp; done) | (simp; omega) | omega
              · first | (simp; done) | (simp; omega) | omega
          case rest =>
            obtain ⟨g, h, rfl, rfl, hg0, hg1, hh0, hh1, hg4, hh4, hg5, hh5, hbB⟩ := hcut
            have hbV : Below w.heap.size w wc := (by repeat (first | with_reducible exact Below.refl _ _ | (with_reducible refine Below.setCell ?_ (by first | exact Nat.le_refl _ | omega | (simp; done) | (simp; omega)) _) | (with_reducible refine Below.alloc ?_ (by first | exact Nat.le_refl _ | omega | (simp; done) | (simp; omega)) _) | with_reducible refine Below.drew ?_ | with_reducible refine bel_drewN ?_ _ | (with_reducible refine bel_by (by with_reducible assumption) (by first | exact Nat.le_refl _ | omega | (simp; done) | (simp; omega)) ?_)))
            obtain ⟨hcB, hfB⟩ := bcell hbB
            have hzB := bsize hbB
            have c0 : wc.cell? ⟨w.heap.size, 0, none⟩ = some (.int .i64 an) := by rw [hcB _ _ l0]; exact e0
            have c1 : wc.cell? ⟨w.heap.size, 1, none⟩ = some (.int .i64 ad) := by rw [hcB _ _ l0]; exact e1
            have c2 : wc.cell? ⟨w.heap.size + 1, 0, none⟩ = some (.int .i64 bn) := by rw [hcB _ _ l1]; exact e2
            have c3 : wc.cell? ⟨w.heap.size + 1, 1, none⟩ = some (.int .i64 bd) := by rw [hcB _ _ l1]; exact e3
            have m0 : w.heap.size < wc.heap.size := by omega
            have m1 : w.heap.size + 1 < wc.heap.size := by omega
            clear hcB hfB hbB hzB e0 e1 e2 e3 hbW hg5 hh5 l0 l1
            have HB := Lib.hid hbV
            clear hbV
            obtain ⟨⟨p0, p1⟩, ⟨q0, q1⟩⟩ := BD.out
            have hpq := HPQ.out
            clear BD HPQ
            by_cases hl : p < q
            · have e : ordI p q = -1 := by unfold ordI; rw [if_pos hl]
              have L := fun W => rless_any (hiW p) (loW p) (hiW q) (loW q) (hiW_0 p0) (hiW_1 (by unfold B128; omega)) (loW_0 _) (loW_1 _) (hiW_0 q0) (hiW_1 (by unfold B128; omega)) (loW_0 _) (loW_1 _) W
              rw [valW_words, valW_words, show decide (p < q) = true from by simpa using hl] at L
              have HL := Lib.hid L
              have e := HE.out.trans e
              have HF := Lib.hid e
              clear L e HE p0 p1 q0 q1 hpq hl
              go_wp2_with fail
              go_region_held3 (fun w' => w'.cell? ⟨w.heap.size, 0, none⟩ = some (.int .i64 an) ∧ w'.cell? ⟨g, 0, none⟩ = some (.int .u64 (hiW p)) ∧ w'.cell? ⟨g, 1, none⟩ = some (.int .u64 (loW p)) ∧ w'.cell? ⟨h, 0, none⟩ = some (.int .u64 (hiW q)) ∧ w'.cell? ⟨h, 1, none⟩ = some (.int .u64 (loW q)))
                ((first | (simp [go_sem, c0, hg0, hg1, hh0, hh1]; done) | (simp [go_sem, hc7, c0, hg0, hg1, hh0, hh1, m0, hg4, hh4]; done)))
                (first
                  | (go_at_call 72; refine (HL.out _).mono ?_; rintro e w7 ⟨rfl, hb7⟩; (try (with_reducible replace hb7 := undrew hb7)); obtain ⟨hc7, hf7⟩ := bcell hb7; have hz7 := bsize hb7; (try simp at hz7)))
              all_goals
                have hB := HB.out
                have hzW := hB.size
                go_wp2
                go_ret
                exact ⟨by first | rfl | (rw [HF.out]; rfl), (by repeat (first | with_reducible exact Below.refl _ _ | (with_reducible refine Below.setCell ?_ (by first | exact Nat.le_refl _ | omega | (simp; done) | (simp; omega)) _) | (with_reducible refine Below.alloc ?_ (by first | exact Nat.le_refl _ | omega | (simp; done) | (simp; omega)) _) | with_reducible refine Below.drew ?_ | with_reducible refine bel_drewN ?_ _ | (with_reducible refine bel_by (by with_reducible assumption) (by first | exact Nat.le_refl _ | omega | (simp; done) | (simp; omega)) ?_)))⟩
            · have e : ordI p q = 1 := by unfold ordI; rw [if_neg hl, if_neg hpq]
              have L := fun W => rless_any (hiW p) (loW p) (hiW q) (loW q) (hiW_0 p0) (hiW_1 (by unfold B128; omega)) (loW_0 _) (loW_1 _) (hiW_0 q0) (hiW_1 (by unfold B128; omega)) (loW_0 _) (loW_1 _) W
              rw [valW_words, valW_words, show decide (p < q) = false from by simpa using hl] at L
              have HL := Lib.hid L
              have e := HE.out.trans e
              have HF := Lib.hid e
              clear L e HE p0 p1 q0 q1 hpq hl
              go_wp2_with fail
              go_region_held3 (fun w' => w'.cell? ⟨w.heap.size, 0, none⟩ = some (.int .i64 an) ∧ w'.cell? ⟨g, 0, none⟩ = some (.int .u64 (hiW p)) ∧ w'.cell? ⟨g, 1, none⟩ = some (.int .u64 (loW p)) ∧ w'.cell? ⟨h, 0, none⟩ = some (.int .u64 (hiW q)) ∧ w'.cell? ⟨h, 1, none⟩ = some (.int .u64 (loW q)))
                ((first | (simp [go_sem, c0, hg0, hg1, hh0, hh1]; done) | (simp [go_sem, hc7, c0, hg0, hg1, hh0, hh1, m0, hg4, hh4]; done)))
                (first
                  | (go_at_call 72; refine (HL.out _).mono ?_; rintro e w7 ⟨rfl, hb7⟩; (try (with_reducible replace hb7 := undrew hb7)); obtain ⟨hc7, hf7⟩ := bcell hb7; have hz7 := bsize hb7; (try simp at hz7)))
              all_goals
                have hB := HB.out
                have hzW := hB.size
                go_wp2
                go_ret
                exact ⟨by first | rfl | (rw [HF.out]; rfl), (by repeat (first | with_reducible exact Below.refl _ _ | (with_reducible refine Below.setCell ?_ (by first | exact Nat.le_refl _ | omega | (simp; done) | (simp; omega)) _) | (with_reducible refine Below.alloc ?_ (by first | exact Nat.le_refl _ | omega | (simp; done) | (simp; omega)) _) | with_reducible refine Below.drew ?_ | with_reducible refine bel_drewN ?_ _ | (with_reducible refine bel_by (by with_reducible assumption) (by first | exact Nat.le_refl _ | omega | (simp; done) | (simp; omega)) ?_)))⟩

theorem rcmp_any (an ad bn bd : Int) (W1 : Wf64 (an, ad)) (W2 : Wf64 (bn, bd)) (w : World) :
    Calls Tryz.prog 41 #[.agg #[.int .i64 an, .int .i64 ad], .agg #[.int .i64 bn, .int .i64 bd]] w fun e w' => e = .returned (.int .i64 (cmpS an ad bn bd)) ∧ Below w.heap.size w w' := by
  by_cases h : vldI an ad = true ∧ vldI bn bd = true
  · unfold cmpS
    rw [if_pos h.1, if_pos h.2]
    exact rcmp_both an ad bn bd h.1 h.2 w
  · have e : cmpS an ad bn bd = if vldI an ad = true then 1 else if vldI bn bd = true then -1 else 0 := by
      unfold cmpS
      by_cases ha : vldI an ad = true
      · rw [if_pos ha, if_neg (fun hb => h ⟨ha, hb⟩), if_pos ha]
      · rw [if_neg ha, if_neg ha]
    rw [e]
    exact rcmp_rest an ad bn bd W1 W2 h w
end Go.Proofs.YtigibomcaecbdaaGreat
