/- Both ends of each result are results for ends of the operands: the law. -/
import Derived.Test.YtbjmibaepccbeaaIvE
import Derived.Test.YtbjmibaepccbeaaIvW
import Derived.Test.YtbjmibaepccbeaaTgt
set_option linter.unusedSimpArgs false
set_option linter.unusedVariables false
namespace Go.Proofs.Ytbjmibaepccbeaa
open Go.RowKit
open Iv

theorem boxes_tight (w : World) (a1 a2 a3 a4 b1 b2 b3 b4 : Int) : AlB ((w.alloc (.cells #[.int .i64 a1, .int .i64 a2, .int .i64 a3, .int .i64 a4] 25)).alloc (.cells #[.int .i64 b1, .int .i64 b2, .int .i64 b3, .int .i64 b4] 25)) (w.heap.size) ((a1, a2), (a3, a4)) ∧ AlB ((w.alloc (.cells #[.int .i64 a1, .int .i64 a2, .int .i64 a3, .int .i64 a4] 25)).alloc (.cells #[.int .i64 b1, .int .i64 b2, .int .i64 b3, .int .i64 b4] 25)) (w.heap.size + 1) ((b1, b2), (b3, b4)) :=
  ⟨⟨by simp [go_sem], by simp [go_sem], by simp [go_sem], by simp [go_sem], by simp; try omega, fun o => by simp [go_sem]⟩, ⟨by simp [go_sem], by simp [go_sem], by simp [go_sem], by simp [go_sem], by simp; try omega, fun o => by simp [go_sem]⟩⟩
set_option maxHeartbeats 16000000 in
set_option maxRecDepth 100000 in
theorem tight_law {a : V} {b : V} (ha : WfV a) (hb : WfV b) (w : World) :
    Calls Try.prog 8 #[(.agg #[.int .i64 (a).1.1, .int .i64 (a).1.2, .int .i64 (a).2.1, .int .i64 (a).2.2]), (.agg #[.int .i64 (b).1.1, .int .i64 (b).1.2, .int .i64 (b).2.1, .int .i64 (b).2.2])] w fun e w' => e = .returned (.bool true) ∧ Below w.heap.size w w' := by
  have HAW := Lib.hid (fun w => awake_any w)
  have HV1 := Lib.hid (rok_any a ha)
  have HV2 := Lib.hid (rok_any b hb)
  have HD := Lib.hid (fun op (h : op < 5) w => do_any op h a b ha hb w)
  have HR0 := Lib.hid (fun op (h : op < 5) w => rdo_any op (by omega) a.1 b.1 ha.l hb.l w)
  have HR1 := Lib.hid (fun op (h : op < 5) w => rdo_any op (by omega) a.2 b.1 ha.h hb.l w)
  have HR2 := Lib.hid (fun op (h : op < 5) w => rdo_any op (by omega) a.1 b.2 ha.l hb.h w)
  have HR3 := Lib.hid (fun op (h : op < 5) w => rdo_any op (by omega) a.2 b.2 ha.h hb.h w)
  have HT := Lib.hid (fun op (h : op < 5) (h0 : (doV op a b).2 = 0) => tight_both h h0)
  clear ha hb
  obtain ⟨⟨a1, a2⟩, ⟨a3, a4⟩⟩ := a
  obtain ⟨⟨b1, b2⟩, ⟨b3, b4⟩⟩ := b
  simp only at HV1 HV2 HD HR0 HR1 HR2 HR3 HT
  obtain ⟨v1, e_v1⟩ : ∃ x, okV ((a1, a2), (a3, a4)) = x := ⟨_, rfl⟩
  rw [e_v1] at HV1
  clear e_v1
  obtain ⟨v2, e_v2⟩ : ∃ x, okV ((b1, b2), (b3, b4)) = x := ⟨_, rfl⟩
  rw [e_v2] at HV2
  clear e_v2
  have Ha := Lib.hid (boxes_tight w a1 a2 a3 a4 b1 b2 b3 b4).1
  have Hb := Lib.hid (boxes_tight w a1 a2 a3 a4 b1 b2 b3 b4).2
  go_enter Try.func8, Try.ntmps8
  go_wp2_with fail
  refine (HAW.out _).mono ?_
  rintro e w0 ⟨rfl, hb⟩
  replace Ha := Lib.hid (Ha.out.keep hb)
  replace Hb := Lib.hid (Hb.out.keep hb)
  have HW := Lib.hid (show Below w.heap.size w w0 from Below.trans (by repeat (first | with_reducible exact Below.refl _ _ | (with_reducible refine Below.setCell ?_ (by first | exact Nat.le_refl _ | omega | (simp; done) | (simp; omega)) _) | (with_reducible refine Below.alloc ?_ (by first | exact Nat.le_refl _ | omega | (simp; done) | (simp; omega)) _) | with_reducible refine Below.drew ?_ | with_reducible refine bel_drewN ?_ _ | (with_reducible refine bel_by (by with_reducible assumption) (by first | exact Nat.le_refl _ | omega | (simp; done) | (simp; omega)) ?_))) (hb.mono (by simp; omega)))
  clear hb HAW
  have ka0 := Ha.out.c0
  have ka1 := Ha.out.c1
  have ka2 := Ha.out.c2
  have ka3 := Ha.out.c3
  have kb0 := Hb.out.c0
  have kb1 := Hb.out.c1
  have kb2 := Hb.out.c2
  have kb3 := Hb.out.c3
  simp only at ka0 ka1 ka2 ka3 kb0 kb1 kb2 kb3
  go_wp2_with fail
  refine (HV1.out _).mono ?_
  rintro e w1 ⟨rfl, hb⟩
  clear ka0 ka1 ka2 ka3 kb0 kb1 kb2 kb3
  have HB1 := hb
  replace Ha := Lib.hid (Ha.out.keep HB1)
  replace Hb := Lib.hid (Hb.out.keep HB1)
  replace HW := Lib.hid (HW.out.trans (HB1.mono HW.out.size))
  clear hb HB1
  have ka0 := Ha.out.c0
  have ka1 := Ha.out.c1
  have ka2 := Ha.out.c2
  have ka3 := Ha.out.c3
  have kb0 := Hb.out.c0
  have kb1 := Hb.out.c1
  have kb2 := Hb.out.c2
  have kb3 := Hb.out.c3
  simp only at ka0 ka1 ka2 ka3 kb0 kb1 kb2 kb3
  cases v1 with
  | false =>
    go_wp2
    go_ret
    exact ⟨rfl, HW.out⟩
  | true =>
    go_wp2_with fail
    refine (HV2.out _).mono ?_
    rintro e w2 ⟨rfl, hb⟩
    clear ka0 ka1 ka2 ka3 kb0 kb1 kb2 kb3
    have HB2 := hb
    replace Ha := Lib.hid (Ha.out.keep HB2)
    replace Hb := Lib.hid (Hb.out.keep HB2)
    replace HW := Lib.hid (HW.out.trans (HB2.mono HW.out.size))
    clear hb HB2
    have ka0 := Ha.out.c0
    have ka1 := Ha.out.c1
    have ka2 := Ha.out.c2
    have ka3 := Ha.out.c3
    have kb0 := Hb.out.c0
    have kb1 := Hb.out.c1
    have kb2 := Hb.out.c2
    have kb3 := Hb.out.c3
    simp only at ka0 ka1 ka2 ka3 kb0 kb1 kb2 kb3
    cases v2 with
    | false =>
      go_wp2
      go_ret
      exact ⟨rfl, HW.out⟩
    | true =>
      go_wp2_with fail
      clear ka0 ka1 ka2 ka3 kb0 kb1 kb2 kb3
      go_loopw [5] (fun s5 wr => ∃ (k : Nat), k ≤ 5 ∧ s5 = .int .i64 (k : Int) ∧ Hid (Below w.heap.size w wr) ∧ Hid (AlB wr (w.heap.size) ((a1, a2), (a3, a4))) ∧ Hid (AlB wr (w.heap.size + 1) ((b1, b2), (b3, b4)))) (fun s5 _ => (5 - (intOf s5)).toNat)
      case atStart => exact ⟨0, Nat.zero_le _, rfl, HW, Ha, Hb⟩
      case round =>
        clear HW Ha Hb
        obtain ⟨k, hk, rfl, HW, Ha, Hb⟩ := hrel
        by_cases hlt : k < 5
        · have l1 : (k : Int) ≤ 4 := by omega
          have ka0 := Ha.out.c0
          have ka1 := Ha.out.c1
          have ka2 := Ha.out.c2
          have ka3 := Ha.out.c3
          have kb0 := Hb.out.c0
          have kb1 := Hb.out.c1
          have kb2 := Hb.out.c2
          have kb3 := Hb.out.c3
          simp only at ka0 ka1 ka2 ka3 kb0 kb1 kb2 kb3
          have HDk := Lib.hid (HD.out k hlt)
          have HTk := Lib.hid (HT.out k hlt)
          have HR0k := Lib.hid (HR0.out k hlt)
          have HR1k := Lib.hid (HR1.out k hlt)
          have HR2k := Lib.hid (HR2.out k hlt)
          have HR3k := Lib.hid (HR3.out k hlt)
          clear HD HT HR0 HR1 HR2 HR3
          obtain ⟨X_, e_X_⟩ : ∃ x, doV k ((a1, a2), (a3, a4)) ((b1, b2), (b3, b4)) = x := ⟨_, rfl⟩
          rw [e_X_] at HDk HTk
          clear e_X_
          obtain ⟨⟨⟨x1, x2⟩, ⟨x3, x4⟩⟩, xe⟩ := X_
          simp only at HDk HTk
          go_wp2_with fail
          refine (HDk.out _).mono ?_
          rintro e w3 ⟨rfl, hb⟩
          clear ka0 ka1 ka2 ka3 kb0 kb1 kb2 kb3
          have HB3 := hb.alloc hb.size (.cells #[.int .i64 x1, .int .i64 x2, .int .i64 x3, .int .i64 x4] 25)
          have Hx := Lib.hid (al_new w3 x1 x2 x3 x4)
          replace Ha := Lib.hid (Ha.out.keep HB3)
          replace Hb := Lib.hid (Hb.out.keep HB3)
          replace HW := Lib.hid (HW.out.trans (HB3.mono HW.out.size))
          clear hb HB3
          have ka0 := Ha.out.c0
          have ka1 := Ha.out.c1
          have ka2 := Ha.out.c2
          have ka3 := Ha.out.c3
          have kb0 := Hb.out.c0
          have kb1 := Hb.out.c1
          have kb2 := Hb.out.c2
          have kb3 := Hb.out.c3
          have kx0 := Hx.out.c0
          have kx1 := Hx.out.c1
          have kx2 := Hx.out.c2
          have kx3 := Hx.out.c3
          simp only at ka0 ka1 ka2 ka3 kb0 kb1 kb2 kb3 kx0 kx1 kx2 kx3
          by_cases hz_xe : xe = 0
          · subst hz_xe
            have HTe := HTk.out (by first | rfl | trivial)
            clear HTk
            obtain ⟨R0_, e_R0⟩ : ∃ x, opR k (a1, a2) (b1, b2) = x := ⟨_, rfl⟩
            rw [e_R0] at HR0k HTe
            clear e_R0
            obtain ⟨⟨r01, r02⟩, r0e⟩ := R0_
            simp only at HR0k HTe
            obtain ⟨R1_, e_R1⟩ : ∃ x, opR k (a3, a4) (b1, b2) = x := ⟨_, rfl⟩
            rw [e_R1] at HR1k HTe
            clear e_R1
            obtain ⟨⟨r11, r12⟩, r1e⟩ := R1_
            simp only at HR1k HTe
            obtain ⟨R2_, e_R2⟩ : ∃ x, opR k (a1, a2) (b3, b4) = x := ⟨_, rfl⟩
            rw [e_R2] at HR2k HTe
            clear e_R2
            obtain ⟨⟨r21, r22⟩, r2e⟩ := R2_
            simp only at HR2k HTe
            obtain ⟨R3_, e_R3⟩ : ∃ x, opR k (a3, a4) (b3, b4) = x := ⟨_, rfl⟩
            rw [e_R3] at HR3k HTe
            clear e_R3
            obtain ⟨⟨r31, r32⟩, r3e⟩ := R3_
            simp only at HR3k HTe
            obtain ⟨L0, hL0⟩ : ∃ x, hit ((r01, r02), r0e) (x1, x2) = x := ⟨_, rfl⟩
            rw [hL0] at HTe
            replace hL0 := Lib.hid hL0
            obtain ⟨H0, hH0⟩ : ∃ x, hit ((r01, r02), r0e) (x3, x4) = x := ⟨_, rfl⟩
            rw [hH0] at HTe
            replace hH0 := Lib.hid hH0
            obtain ⟨L1, hL1⟩ : ∃ x, hit ((r11, r12), r1e) (x1, x2) = x := ⟨_, rfl⟩
            rw [hL1] at HTe
            replace hL1 := Lib.hid hL1
            obtain ⟨H1, hH1⟩ : ∃ x, hit ((r11, r12), r1e) (x3, x4) = x := ⟨_, rfl⟩
            rw [hH1] at HTe
            replace hH1 := Lib.hid hH1
            obtain ⟨L2, hL2⟩ : ∃ x, hit ((r21, r22), r2e) (x1, x2) = x := ⟨_, rfl⟩
            rw [hL2] at HTe
            replace hL2 := Lib.hid hL2
            obtain ⟨H2, hH2⟩ : ∃ x, hit ((r21, r22), r2e) (x3, x4) = x := ⟨_, rfl⟩
            rw [hH2] at HTe
            replace hH2 := Lib.hid hH2
            obtain ⟨L3, hL3⟩ : ∃ x, hit ((r31, r32), r3e) (x1, x2) = x := ⟨_, rfl⟩
            rw [hL3] at HTe
            replace hL3 := Lib.hid hL3
            obtain ⟨H3, hH3⟩ : ∃ x, hit ((r31, r32), r3e) (x3, x4) = x := ⟨_, rfl⟩
            rw [hH3] at HTe
            replace hH3 := Lib.hid hH3
            obtain ⟨hT1, hT2⟩ := HTe
            have HT1 := Lib.hid hT1
            have HT2 := Lib.hid hT2
            clear hT1 hT2
            go_wp2_with fail
            clear ka0 ka1 ka2 ka3 kb0 kb1 kb2 kb3 kx0 kx1 kx2 kx3
            go_loopw [8, 9, 10] (fun s8 s9 s10 wi => ∃ (i : Int), 0 ≤ i ∧ i ≤ 4 ∧ s8 = .bool (accI L0 L1 L2 L3 i) ∧ s9 = .bool (accI H0 H1 H2 H3 i) ∧ s10 = .int .i64 i ∧ Hid (Below w.heap.size w wi) ∧ Hid (AlB wi (w.heap.size) ((a1, a2), (a3, a4))) ∧ Hid (AlB wi (w.heap.size + 1) ((b1, b2), (b3, b4))) ∧ Hid (AlB wi (w3.heap.size) ((x1, x2), (x3, x4)))) (fun _ _ s10 _ => (4 - (intOf s10)).toNat)
            case atStart => exact ⟨0, by decide, by decide, rfl, rfl, rfl, HW, Ha, Hb, Hx⟩
            case round =>
              clear HW HDk Ha Hb Hx
              obtain ⟨i, hi0, hi4, rfl, rfl, rfl, HW, Ha, Hb, Hx⟩ := hrel
              have hi : i = 0 ∨ i = 1 ∨ i = 2 ∨ i = 3 ∨ i = 4 := by omega
              clear hi0 hi4
              rcases hi with rfl | rfl | rfl | rfl | rfl
              · obtain ⟨l, hl⟩ : ∃ x, accI L0 L1 L2 L3 0 = x := ⟨_, rfl⟩
                obtain ⟨m, hm⟩ : ∃ x, accI H0 H1 H2 H3 0 = x := ⟨_, rfl⟩
                rw [hl, hm]
                have HLn := Lib.hid (show accI L0 L1 L2 L3 1 = (l || L0) by rw [← hl]; simp [accI])
                have HHn := Lib.hid (show accI H0 H1 H2 H3 1 = (m || H0) by rw [← hm]; simp [accI])
                clear hl hm
                have ka0 := Ha.out.c0
                have ka1 := Ha.out.c1
                have ka2 := Ha.out.c2
                have ka3 := Ha.out.c3
                have kb0 := Hb.out.c0
                have kb1 := Hb.out.c1
                have kb2 := Hb.out.c2
                have kb3 := Hb.out.c3
                have kx0 := Hx.out.c0
                have kx1 := Hx.out.c1
                have kx2 := Hx.out.c2
                have kx3 := Hx.out.c3
                simp only at ka0 ka1 ka2 ka3 kb0 kb1 kb2 kb3 kx0 kx1 kx2 kx3
                go_wp2_with fail
                go_cut [11, 12] (fun s11 s12 wx => ∃ fb gb, s11 = .pointer (some ⟨fb, 0, none⟩) ∧ s12 = .pointer (some ⟨gb, 0, none⟩) ∧ fb ≠ gb ∧ wr.heap.size ≤ fb ∧ wr.heap.size ≤ gb ∧ Hid (FrB wx fb (a1, a2)) ∧ Hid (FrB wx gb (b1, b2)) ∧ Hid (Below wr.heap.size wr wx))
                case first =>
                  have la := Ha.out.la
                  have lb := Hb.out.la
                  have h1 := (Below.refl wr.heap.size wr).alloc (Nat.le_refl _) (.cells #[.int .i64 0, .int .i64 0] 23)
                  have h2 := h1.alloc h1.size (.cells #[.int .i64 0, .int .i64 0] 23)
                  have qa10 := (Ha.out.keep h1).c0
                  have qa11 := (Ha.out.keep h1).c1
                  have qb10 := (Hb.out.keep h1).c0
                  have qb11 := (Hb.out.keep h1).c1
                  have qa20 := (Ha.out.keep h2).c0
                  have qa21 := (Ha.out.keep h2).c1
                  have qb20 := (Hb.out.keep h2).c0
                  have qb21 := (Hb.out.keep h2).c1
                  simp only at qa10 qa11 qa20 qa21 qb10 qb11 qb20 qb21
                  go_region
                  all_goals
                    go_wp2_with fail
                    go_meet
                    first
                      | exact ⟨_, _, rfl, rfl, by omega, Nat.le_refl _, Nat.le_succ _, Lib.hid (two_fr wr a1 a2 b1 b2).1, Lib.hid (two_fr wr a1 a2 b1 b2).2.1, Lib.hid (two_fr wr a1 a2 b1 b2).2.2⟩
                      | exact ⟨_, _, rfl, rfl, by omega, Nat.le_succ _, Nat.le_refl _, Lib.hid (two_fr wr b1 b2 a1 a2).2.1, Lib.hid (two_fr wr b1 b2 a1 a2).1, Lib.hid (two_fr wr b1 b2 a1 a2).2.2⟩
                case rest =>
                  clear ka0 ka1 ka2 ka3 kb0 kb1 kb2 kb3 kx0 kx1 kx2 kx3
                  obtain ⟨fb, gb, rfl, rfl, hne, hfb, hgb, HF, HG, HQ⟩ := hcut
                  generalize wc = cw at *
                  have Hap := Ha.out.keep HQ.out
                  have Hbp := Hb.out.keep HQ.out
                  have jap0 := Hap.c0
                  have jap1 := Hap.c1
                  have jap2 := Hap.c2
                  have jap3 := Hap.c3
                  have jbp0 := Hbp.c0
                  have jbp1 := Hbp.c1
                  have jbp2 := Hbp.c2
                  have jbp3 := Hbp.c3
                  have jfp0 := HF.out.c0
                  have jfp1 := HF.out.c1
                  have jgp0 := HG.out.c0
                  have jgp1 := HG.out.c1
                  have jfpr := HF.out.fr
                  have jgpr := HG.out.fr
                  simp only at jap0 jap1 jap2 jap3 jbp0 jbp1 jbp2 jbp3 jfp0 jfp1 jgp0 jgp1
                  go_wp2_with fail
                  refine (HR0k.out _).mono ?_
                  rintro e w4 ⟨rfl, hb⟩
                  clear jap0 jap1 jap2 jap3 jbp0 jbp1 jbp2 jbp3 jfp0 jfp1 jgp0 jgp1 jfpr jgpr Hap Hbp
                  have HB0 := hb.alloc hb.size (.cells #[.int .i64 r01, .int .i64 r02] 23)
                  have HY := Lib.hid (frb_new w4 r01 r02)
                  replace HQ := Lib.hid (HQ.out.trans (HB0.mono HQ.out.size))
                  replace Ha := Lib.hid (Ha.out.keep HQ.out)
                  replace Hb := Lib.hid (Hb.out.keep HQ.out)
                  replace Hx := Lib.hid (Hx.out.keep HQ.out)
                  replace HW := Lib.hid (HW.out.trans (HQ.out.mono HW.out.size))
                  clear hb HB0 HQ HF HG hne hfb hgb
                  have y0 := HY.out.c0
                  have y1 := HY.out.c1
                  simp only at y0 y1
                  have ka0 := Ha.out.c0
                  have ka1 := Ha.out.c1
                  have ka2 := Ha.out.c2
                  have ka3 := Ha.out.c3
                  have kb0 := Hb.out.c0
                  have kb1 := Hb.out.c1
                  have kb2 := Hb.out.c2
                  have kb3 := Hb.out.c3
                  have kx0 := Hx.out.c0
                  have kx1 := Hx.out.c1
                  have kx2 := Hx.out.c2
                  have kx3 := Hx.out.c3
                  simp only at ka0 ka1 ka2 ka3 kb0 kb1 kb2 kb3 kx0 kx1 kx2 kx3
                  go_upto_region 20 with fail
                  go_cut [8] (fun s8 wx => s8 = .bool (l || L0) ∧ wx = (w4.alloc (.cells #[.int .i64 r01, .int .i64 r02] 23)))
                  case first =>
                    cases l with
                    | true =>
                      go_wp2_with fail
                      go_meet
                      exact ⟨rfl, rfl⟩
                    | false =>
                      by_cases hz : r0e = 0
                      · cases hq1 : (r01 == x1) <;> cases hq2 : (r02 == x2)
                        all_goals
                          have hz1 : decide (r0e = 0) = true := decide_eq_true hz
                          go_wp2_with fail
                          go_meet
                          exact ⟨by rw [← hL0.out]; simp [hit, hz, hq1, hq2], rfl⟩
                      · have hz1 : decide (r0e = 0) = false := decide_eq_false hz
                        go_wp2_with fail
                        go_meet
                        exact ⟨by rw [← hL0.out]; simp [hit, hz], rfl⟩
                  case rest =>
                    obtain ⟨rfl, rfl⟩ := hcut
                    rw [← HLn.out]
                    cases m with
                    | true =>
                      go_wp2
                      refine ⟨⟨1, by decide, by decide, rfl, by rw [HHn.out]; rfl, rfl, HW, Ha, Hb, Hx⟩, ?_⟩
                      show (4 - (1 : Int)).toNat < (4 - (0 : Int)).toNat
                      decide
                    | false =>
                      by_cases hz : r0e = 0
                      · cases hq1 : (r01 == x3) <;> cases hq2 : (r02 == x4)
                        all_goals
                          have hz1 : decide (r0e = 0) = true := decide_eq_true hz
                          go_wp2
                          refine ⟨⟨1, by decide, by decide, rfl, by rw [HHn.out, ← hH0.out]; simp [hit, hz, hq1, hq2], rfl, HW, Ha, Hb, Hx⟩, ?_⟩
                          show (4 - (1 : Int)).toNat < (4 - (0 : Int)).toNat
                          decide
                      · have hz1 : decide (r0e = 0) = false := decide_eq_false hz
                        go_wp2
                        refine ⟨⟨1, by decide, by decide, rfl, by rw [HHn.out, ← hH0.out]; simp [hit, hz], rfl, HW, Ha, Hb, Hx⟩, ?_⟩
                        show (4 - (1 : Int)).toNat < (4 - (0 : Int)).toNat
                        decide
              · obtain ⟨l, hl⟩ : ∃ x, accI L0 L1 L2 L3 1 = x := ⟨_, rfl⟩
                obtain ⟨m, hm⟩ : ∃ x, accI H0 H1 H2 H3 1 = x := ⟨_, rfl⟩
                rw [hl, hm]
                have HLn := Lib.hid (show accI L0 L1 L2 L3 2 = (l || L1) by rw [← hl]; simp [accI])
                have HHn := Lib.hid (show accI H0 H1 H2 H3 2 = (m || H1) by rw [← hm]; simp [accI])
                clear hl hm
                have ka0 := Ha.out.c0
                have ka1 := Ha.out.c1
                have ka2 := Ha.out.c2
                have ka3 := Ha.out.c3
                have kb0 := Hb.out.c0
                have kb1 := Hb.out.c1
                have kb2 := Hb.out.c2
                have kb3 := Hb.out.c3
                have kx0 := Hx.out.c0
                have kx1 := Hx.out.c1
                have kx2 := Hx.out.c2
                have kx3 := Hx.out.c3
                simp only at ka0 ka1 ka2 ka3 kb0 kb1 kb2 kb3 kx0 kx1 kx2 kx3
                go_wp2_with fail
                go_cut [11, 12] (fun s11 s12 wx => ∃ fb gb, s11 = .pointer (some ⟨fb, 0, none⟩) ∧ s12 = .pointer (some ⟨gb, 0, none⟩) ∧ fb ≠ gb ∧ wr.heap.size ≤ fb ∧ wr.heap.size ≤ gb ∧ Hid (FrB wx fb (a1, a2)) ∧ Hid (FrB wx gb (b1, b2)) ∧ Hid (Below wr.heap.size wr wx))
                case first =>
                  have la := Ha.out.la
                  have lb := Hb.out.la
                  have h1 := (Below.refl wr.heap.size wr).alloc (Nat.le_refl _) (.cells #[.int .i64 0, .int .i64 0] 23)
                  have h2 := h1.alloc h1.size (.cells #[.int .i64 0, .int .i64 0] 23)
                  have qa10 := (Ha.out.keep h1).c0
                  have qa11 := (Ha.out.keep h1).c1
                  have qb10 := (Hb.out.keep h1).c0
                  have qb11 := (Hb.out.keep h1).c1
                  have qa20 := (Ha.out.keep h2).c0
                  have qa21 := (Ha.out.keep h2).c1
                  have qb20 := (Hb.out.keep h2).c0
                  have qb21 := (Hb.out.keep h2).c1
                  simp only at qa10 qa11 qa20 qa21 qb10 qb11 qb20 qb21
                  go_region
                  all_goals
                    go_wp2_with fail
                    go_meet
                    first
                      | exact ⟨_, _, rfl, rfl, by omega, Nat.le_refl _, Nat.le_succ _, Lib.hid (two_fr wr a1 a2 b1 b2).1, Lib.hid (two_fr wr a1 a2 b1 b2).2.1, Lib.hid (two_fr wr a1 a2 b1 b2).2.2⟩
                      | exact ⟨_, _, rfl, rfl, by omega, Nat.le_succ _, Nat.le_refl _, Lib.hid (two_fr wr b1 b2 a1 a2).2.1, Lib.hid (two_fr wr b1 b2 a1 a2).1, Lib.hid (two_fr wr b1 b2 a1 a2).2.2⟩
                case rest =>
                  clear ka0 ka1 ka2 ka3 kb0 kb1 kb2 kb3 kx0 kx1 kx2 kx3
                  obtain ⟨fb, gb, rfl, rfl, hne, hfb, hgb, HF, HG, HQ⟩ := hcut
                  generalize wc = cw at *
                  have Hap := Ha.out.keep HQ.out
                  have Hbp := Hb.out.keep HQ.out
                  have jap0 := Hap.c0
                  have jap1 := Hap.c1
                  have jap2 := Hap.c2
                  have jap3 := Hap.c3
                  have jbp0 := Hbp.c0
                  have jbp1 := Hbp.c1
                  have jbp2 := Hbp.c2
                  have jbp3 := Hbp.c3
                  have jfp0 := HF.out.c0
                  have jfp1 := HF.out.c1
                  have jgp0 := HG.out.c0
                  have jgp1 := HG.out.c1
                  have jfpr := HF.out.fr
                  have jgpr := HG.out.fr
                  simp only at jap0 jap1 jap2 jap3 jbp0 jbp1 jbp2 jbp3 jfp0 jfp1 jgp0 jgp1
                  replace HQ := Lib.hid (bset (bset HQ.out (p := ⟨fb, 0, none⟩) hfb (.int .i64 a3)) (p := ⟨fb, 1, none⟩) hfb (.int .i64 a4))
                  replace HG := Lib.hid ((HG.out.far (p := ⟨fb, 0, none⟩) hne (.int .i64 a3)).far (p := ⟨fb, 1, none⟩) hne (.int .i64 a4))
                  replace HF := Lib.hid (HF.out.put a3 a4)
                  have Haq := Ha.out.keep HQ.out
                  have Hbq := Hb.out.keep HQ.out
                  have jaq0 := Haq.c0
                  have jaq1 := Haq.c1
                  have jaq2 := Haq.c2
                  have jaq3 := Haq.c3
                  have jbq0 := Hbq.c0
                  have jbq1 := Hbq.c1
                  have jbq2 := Hbq.c2
                  have jbq3 := Hbq.c3
                  have jfq0 := HF.out.c0
                  have jfq1 := HF.out.c1
                  have jgq0 := HG.out.c0
                  have jgq1 := HG.out.c1
                  have jfqr := HF.out.fr
                  have jgqr := HG.out.fr
                  simp only at jaq0 jaq1 jaq2 jaq3 jbq0 jbq1 jbq2 jbq3 jfq0 jfq1 jgq0 jgq1
                  go_wp2_with fail
                  refine (HR1k.out _).mono ?_
                  rintro e w4 ⟨rfl, hb⟩
                  clear jap0 jap1 jap2 jap3 jbp0 jbp1 jbp2 jbp3 jfp0 jfp1 jgp0 jgp1 jfpr jgpr Hap Hbp jaq0 jaq1 jaq2 jaq3 jbq0 jbq1 jbq2 jbq3 jfq0 jfq1 jgq0 jgq1 jfqr jgqr Haq Hbq
                  have HB0 := hb.alloc hb.size (.cells #[.int .i64 r11, .int .i64 r12] 23)
                  have HY := Lib.hid (frb_new w4 r11 r12)
                  replace HQ := Lib.hid (HQ.out.trans (HB0.mono HQ.out.size))
                  replace Ha := Lib.hid (Ha.out.keep HQ.out)
                  replace Hb := Lib.hid (Hb.out.keep HQ.out)
                  replace Hx := Lib.hid (Hx.out.keep HQ.out)
                  replace HW := Lib.hid (HW.out.trans (HQ.out.mono HW.out.size))
                  clear hb HB0 HQ HF HG hne hfb hgb
                  have y0 := HY.out.c0
                  have y1 := HY.out.c1
                  simp only at y0 y1
                  have ka0 := Ha.out.c0
                  have ka1 := Ha.out.c1
                  have ka2 := Ha.out.c2
                  have ka3 := Ha.out.c3
                  have kb0 := Hb.out.c0
                  have kb1 := Hb.out.c1
                  have kb2 := Hb.out.c2
                  have kb3 := Hb.out.c3
                  have kx0 := Hx.out.c0
                  have kx1 := Hx.out.c1
                  have kx2 := Hx.out.c2
                  have kx3 := Hx.out.c3
                  simp only at ka0 ka1 ka2 ka3 kb0 kb1 kb2 kb3 kx0 kx1 kx2 kx3
                  go_upto_region 20 with fail
                  go_cut [8] (fun s8 wx => s8 = .bool (l || L1) ∧ wx = (w4.alloc (.cells #[.int .i64 r11, .int .i64 r12] 23)))
                  case first =>
                    cases l with
                    | true =>
                      go_wp2_with fail
                      go_meet
                      exact ⟨rfl, rfl⟩
                    | false =>
                      by_cases hz : r1e = 0
                      · cases hq1 : (r11 == x1) <;> cases hq2 : (r12 == x2)
                        all_goals
                          have hz1 : decide (r1e = 0) = true := decide_eq_true hz
                          go_wp2_with fail
                          go_meet
                          exact ⟨by rw [← hL1.out]; simp [hit, hz, hq1, hq2], rfl⟩
                      · have hz1 : decide (r1e = 0) = false := decide_eq_false hz
                        go_wp2_with fail
                        go_meet
                        exact ⟨by rw [← hL1.out]; simp [hit, hz], rfl⟩
                  case rest =>
                    obtain ⟨rfl, rfl⟩ := hcut
                    rw [← HLn.out]
                    cases m with
                    | true =>
                      go_wp2
                      refine ⟨⟨2, by decide, by decide, rfl, by rw [HHn.out]; rfl, rfl, HW, Ha, Hb, Hx⟩, ?_⟩
                      show (4 - (2 : Int)).toNat < (4 - (1 : Int)).toNat
                      decide
                    | false =>
                      by_cases hz : r1e = 0
                      · cases hq1 : (r11 == x3) <;> cases hq2 : (r12 == x4)
                        all_goals
                          have hz1 : decide (r1e = 0) = true := decide_eq_true hz
                          go_wp2
                          refine ⟨⟨2, by decide, by decide, rfl, by rw [HHn.out, ← hH1.out]; simp [hit, hz, hq1, hq2], rfl, HW, Ha, Hb, Hx⟩, ?_⟩
                          show (4 - (2 : Int)).toNat < (4 - (1 : Int)).toNat
                          decide
                      · have hz1 : decide (r1e = 0) = false := decide_eq_false hz
                        go_wp2
                        refine ⟨⟨2, by decide, by decide, rfl, by rw [HHn.out, ← hH1.out]; simp [hit, hz], rfl, HW, Ha, Hb, Hx⟩, ?_⟩
                        show (4 - (2 : Int)).toNat < (4 - (1 : Int)).toNat
                        decide
              · obtain ⟨l, hl⟩ : ∃ x, accI L0 L1 L2 L3 2 = x := ⟨_, rfl⟩
                obtain ⟨m, hm⟩ : ∃ x, accI H0 H1 H2 H3 2 = x := ⟨_, rfl⟩
                rw [hl, hm]
                have HLn := Lib.hid (show accI L0 L1 L2 L3 3 = (l || L2) by rw [← hl]; simp [accI])
                have HHn := Lib.hid (show accI H0 H1 H2 H3 3 = (m || H2) by rw [← hm]; simp [accI])
                clear hl hm
                have ka0 := Ha.out.c0
                have ka1 := Ha.out.c1
                have ka2 := Ha.out.c2
                have ka3 := Ha.out.c3
                have kb0 := Hb.out.c0
                have kb1 := Hb.out.c1
                have kb2 := Hb.out.c2
                have kb3 := Hb.out.c3
                have kx0 := Hx.out.c0
                have kx1 := Hx.out.c1
                have kx2 := Hx.out.c2
                have kx3 := Hx.out.c3
                simp only at ka0 ka1 ka2 ka3 kb0 kb1 kb2 kb3 kx0 kx1 kx2 kx3
                go_wp2_with fail
                go_cut [11, 12] (fun s11 s12 wx => ∃ fb gb, s11 = .pointer (some ⟨fb, 0, none⟩) ∧ s12 = .pointer (some ⟨gb, 0, none⟩) ∧ fb ≠ gb ∧ wr.heap.size ≤ fb ∧ wr.heap.size ≤ gb ∧ Hid (FrB wx fb (a1, a2)) ∧ Hid (FrB wx gb (b1, b2)) ∧ Hid (Below wr.heap.size wr wx))
                case first =>
                  have la := Ha.out.la
                  have lb := Hb.out.la
                  have h1 := (Below.refl wr.heap.size wr).alloc (Nat.le_refl _) (.cells #[.int .i64 0, .int .i64 0] 23)
                  have h2 := h1.alloc h1.size (.cells #[.int .i64 0, .int .i64 0] 23)
                  have qa10 := (Ha.out.keep h1).c0
                  have qa11 := (Ha.out.keep h1).c1
                  have qb10 := (Hb.out.keep h1).c0
                  have qb11 := (Hb.out.keep h1).c1
                  have qa20 := (Ha.out.keep h2).c0
                  have qa21 := (Ha.out.keep h2).c1
                  have qb20 := (Hb.out.keep h2).c0
                  have qb21 := (Hb.out.keep h2).c1
                  simp only at qa10 qa11 qa20 qa21 qb10 qb11 qb20 qb21
                  go_region
                  all_goals
                    go_wp2_with fail
                    go_meet
                    first
                      | exact ⟨_, _, rfl, rfl, by omega, Nat.le_refl _, Nat.le_succ _, Lib.hid (two_fr wr a1 a2 b1 b2).1, Lib.hid (two_fr wr a1 a2 b1 b2).2.1, Lib.hid (two_fr wr a1 a2 b1 b2).2.2⟩
                      | exact ⟨_, _, rfl, rfl, by omega, Nat.le_succ _, Nat.le_refl _, Lib.hid (two_fr wr b1 b2 a1 a2).2.1, Lib.hid (two_fr wr b1 b2 a1 a2).1, Lib.hid (two_fr wr b1 b2 a1 a2).2.2⟩
                case rest =>
                  clear ka0 ka1 ka2 ka3 kb0 kb1 kb2 kb3 kx0 kx1 kx2 kx3
                  obtain ⟨fb, gb, rfl, rfl, hne, hfb, hgb, HF, HG, HQ⟩ := hcut
                  generalize wc = cw at *
                  have Hap := Ha.out.keep HQ.out
                  have Hbp := Hb.out.keep HQ.out
                  have jap0 := Hap.c0
                  have jap1 := Hap.c1
                  have jap2 := Hap.c2
                  have jap3 := Hap.c3
                  have jbp0 := Hbp.c0
                  have jbp1 := Hbp.c1
                  have jbp2 := Hbp.c2
                  have jbp3 := Hbp.c3
                  have jfp0 := HF.out.c0
                  have jfp1 := HF.out.c1
                  have jgp0 := HG.out.c0
                  have jgp1 := HG.out.c1
                  have jfpr := HF.out.fr
                  have jgpr := HG.out.fr
                  simp only at jap0 jap1 jap2 jap3 jbp0 jbp1 jbp2 jbp3 jfp0 jfp1 jgp0 jgp1
                  replace HQ := Lib.hid (bset (bset HQ.out (p := ⟨gb, 0, none⟩) hgb (.int .i64 b3)) (p := ⟨gb, 1, none⟩) hgb (.int .i64 b4))
                  replace HF := Lib.hid ((HF.out.far (p := ⟨gb, 0, none⟩) (Ne.symm hne) (.int .i64 b3)).far (p := ⟨gb, 1, none⟩) (Ne.symm hne) (.int .i64 b4))
                  replace HG := Lib.hid (HG.out.put b3 b4)
                  have Har := Ha.out.keep HQ.out
                  have Hbr := Hb.out.keep HQ.out
                  have jar0 := Har.c0
                  have jar1 := Har.c1
                  have jar2 := Har.c2
                  have jar3 := Har.c3
                  have jbr0 := Hbr.c0
                  have jbr1 := Hbr.c1
                  have jbr2 := Hbr.c2
                  have jbr3 := Hbr.c3
                  have jfr0 := HF.out.c0
                  have jfr1 := HF.out.c1
                  have jgr0 := HG.out.c0
                  have jgr1 := HG.out.c1
                  have jfrr := HF.out.fr
                  have jgrr := HG.out.fr
                  simp only at jar0 jar1 jar2 jar3 jbr0 jbr1 jbr2 jbr3 jfr0 jfr1 jgr0 jgr1
                  go_wp2_with fail
                  refine (HR2k.out _).mono ?_
                  rintro e w4 ⟨rfl, hb⟩
                  clear jap0 jap1 jap2 jap3 jbp0 jbp1 jbp2 jbp3 jfp0 jfp1 jgp0 jgp1 jfpr jgpr Hap Hbp jar0 jar1 jar2 jar3 jbr0 jbr1 jbr2 jbr3 jfr0 jfr1 jgr0 jgr1 jfrr jgrr Har Hbr
                  have HB0 := hb.alloc hb.size (.cells #[.int .i64 r21, .int .i64 r22] 23)
                  have HY := Lib.hid (frb_new w4 r21 r22)
                  replace HQ := Lib.hid (HQ.out.trans (HB0.mono HQ.out.size))
                  replace Ha := Lib.hid (Ha.out.keep HQ.out)
                  replace Hb := Lib.hid (Hb.out.keep HQ.out)
                  replace Hx := Lib.hid (Hx.out.keep HQ.out)
                  replace HW := Lib.hid (HW.out.trans (HQ.out.mono HW.out.size))
                  clear hb HB0 HQ HF HG hne hfb hgb
                  have y0 := HY.out.c0
                  have y1 := HY.out.c1
                  simp only at y0 y1
                  have ka0 := Ha.out.c0
                  have ka1 := Ha.out.c1
                  have ka2 := Ha.out.c2
                  have ka3 := Ha.out.c3
                  have kb0 := Hb.out.c0
                  have kb1 := Hb.out.c1
                  have kb2 := Hb.out.c2
                  have kb3 := Hb.out.c3
                  have kx0 := Hx.out.c0
                  have kx1 := Hx.out.c1
                  have kx2 := Hx.out.c2
                  have kx3 := Hx.out.c3
                  simp only at ka0 ka1 ka2 ka3 kb0 kb1 kb2 kb3 kx0 kx1 kx2 kx3
                  go_upto_region 20 with fail
                  go_cut [8] (fun s8 wx => s8 = .bool (l || L2) ∧ wx = (w4.alloc (.cells #[.int .i64 r21, .int .i64 r22] 23)))
                  case first =>
                    cases l with
                    | true =>
                      go_wp2_with fail
                      go_meet
                      exact ⟨rfl, rfl⟩
                    | false =>
                      by_cases hz : r2e = 0
                      · cases hq1 : (r21 == x1) <;> cases hq2 : (r22 == x2)
                        all_goals
                          have hz1 : decide (r2e = 0) = true := decide_eq_true hz
                          go_wp2_with fail
                          go_meet
                          exact ⟨by rw [← hL2.out]; simp [hit, hz, hq1, hq2], rfl⟩
                      · have hz1 : decide (r2e = 0) = false := decide_eq_false hz
                        go_wp2_with fail
                        go_meet
                        exact ⟨by rw [← hL2.out]; simp [hit, hz], rfl⟩
                  case rest =>
                    obtain ⟨rfl, rfl⟩ := hcut
                    rw [← HLn.out]
                    cases m with
                    | true =>
                      go_wp2
                      refine ⟨⟨3, by decide, by decide, rfl, by rw [HHn.out]; rfl, rfl, HW, Ha, Hb, Hx⟩, ?_⟩
                      show (4 - (3 : Int)).toNat < (4 - (2 : Int)).toNat
                      decide
                    | false =>
                      by_cases hz : r2e = 0
                      · cases hq1 : (r21 == x3) <;> cases hq2 : (r22 == x4)
                        all_goals
                          have hz1 : decide (r2e = 0) = true := decide_eq_true hz
                          go_wp2
                          refine ⟨⟨3, by decide, by decide, rfl, by rw [HHn.out, ← hH2.out]; simp [hit, hz, hq1, hq2], rfl, HW, Ha, Hb, Hx⟩, ?_⟩
                          show (4 - (3 : Int)).toNat < (4 - (2 : Int)).toNat
                          decide
                      · have hz1 : decide (r2e = 0) = false := decide_eq_false hz
                        go_wp2
                        refine ⟨⟨3, by decide, by decide, rfl, by rw [HHn.out, ← hH2.out]; simp [hit, hz], rfl, HW, Ha, Hb, Hx⟩, ?_⟩
                        show (4 - (3 : Int)).toNat < (4 - (2 : Int)).toNat
                        decide
              · obtain ⟨l, hl⟩ : ∃ x, accI L0 L1 L2 L3 3 = x := ⟨_, rfl⟩
                obtain ⟨m, hm⟩ : ∃ x, accI H0 H1 H2 H3 3 = x := ⟨_, rfl⟩
                rw [hl, hm]
                have HLn := Lib.hid (show accI L0 L1 L2 L3 4 = (l || L3) by rw [← hl]; simp [accI])
                have HHn := Lib.hid (show accI H0 H1 H2 H3 4 = (m || H3) by rw [← hm]; simp [accI])
                clear hl hm
                have ka0 := Ha.out.c0
                have ka1 := Ha.out.c1
                have ka2 := Ha.out.c2
                have ka3 := Ha.out.c3
                have kb0 := Hb.out.c0
                have kb1 := Hb.out.c1
                have kb2 := Hb.out.c2
                have kb3 := Hb.out.c3
                have kx0 := Hx.out.c0
                have kx1 := Hx.out.c1
                have kx2 := Hx.out.c2
                have kx3 := Hx.out.c3
                simp only at ka0 ka1 ka2 ka3 kb0 kb1 kb2 kb3 kx0 kx1 kx2 kx3
                go_wp2_with fail
                go_cut [11, 12] (fun s11 s12 wx => ∃ fb gb, s11 = .pointer (some ⟨fb, 0, none⟩) ∧ s12 = .pointer (some ⟨gb, 0, none⟩) ∧ fb ≠ gb ∧ wr.heap.size ≤ fb ∧ wr.heap.size ≤ gb ∧ Hid (FrB wx fb (a1, a2)) ∧ Hid (FrB wx gb (b1, b2)) ∧ Hid (Below wr.heap.size wr wx))
                case first =>
                  have la := Ha.out.la
                  have lb := Hb.out.la
                  have h1 := (Below.refl wr.heap.size wr).alloc (Nat.le_refl _) (.cells #[.int .i64 0, .int .i64 0] 23)
                  have h2 := h1.alloc h1.size (.cells #[.int .i64 0, .int .i64 0] 23)
                  have qa10 := (Ha.out.keep h1).c0
                  have qa11 := (Ha.out.keep h1).c1
                  have qb10 := (Hb.out.keep h1).c0
                  have qb11 := (Hb.out.keep h1).c1
                  have qa20 := (Ha.out.keep h2).c0
                  have qa21 := (Ha.out.keep h2).c1
                  have qb20 := (Hb.out.keep h2).c0
                  have qb21 := (Hb.out.keep h2).c1
                  simp only at qa10 qa11 qa20 qa21 qb10 qb11 qb20 qb21
                  go_region
                  all_goals
                    go_wp2_with fail
                    go_meet
                    first
                      | exact ⟨_, _, rfl, rfl, by omega, Nat.le_refl _, Nat.le_succ _, Lib.hid (two_fr wr a1 a2 b1 b2).1, Lib.hid (two_fr wr a1 a2 b1 b2).2.1, Lib.hid (two_fr wr a1 a2 b1 b2).2.2⟩
                      | exact ⟨_, _, rfl, rfl, by omega, Nat.le_succ _, Nat.le_refl _, Lib.hid (two_fr wr b1 b2 a1 a2).2.1, Lib.hid (two_fr wr b1 b2 a1 a2).1, Lib.hid (two_fr wr b1 b2 a1 a2).2.2⟩
                case rest =>
                  clear ka0 ka1 ka2 ka3 kb0 kb1 kb2 kb3 kx0 kx1 kx2 kx3
                  obtain ⟨fb, gb, rfl, rfl, hne, hfb, hgb, HF, HG, HQ⟩ := hcut
                  generalize wc = cw at *
                  have Hap := Ha.out.keep HQ.out
                  have Hbp := Hb.out.keep HQ.out
                  have jap0 := Hap.c0
                  have jap1 := Hap.c1
                  have jap2 := Hap.c2
                  have jap3 := Hap.c3
                  have jbp0 := Hbp.c0
                  have jbp1 := Hbp.c1
                  have jbp2 := Hbp.c2
                  have jbp3 := Hbp.c3
                  have jfp0 := HF.out.c0
                  have jfp1 := HF.out.c1
                  have jgp0 := HG.out.c0
                  have jgp1 := HG.out.c1
                  have jfpr := HF.out.fr
                  have jgpr := HG.out.fr
                  simp only at jap0 jap1 jap2 jap3 jbp0 jbp1 jbp2 jbp3 jfp0 jfp1 jgp0 jgp1
                  replace HQ := Lib.hid (bset (bset HQ.out (p := ⟨fb, 0, none⟩) hfb (.int .i64 a3)) (p := ⟨fb, 1, none⟩) hfb (.int .i64 a4))
                  replace HG := Lib.hid ((HG.out.far (p := ⟨fb, 0, none⟩) hne (.int .i64 a3)).far (p := ⟨fb, 1, none⟩) hne (.int .i64 a4))
                  replace HF := Lib.hid (HF.out.put a3 a4)
                  have Haq := Ha.out.keep HQ.out
                  have Hbq := Hb.out.keep HQ.out
                  have jaq0 := Haq.c0
                  have jaq1 := Haq.c1
                  have jaq2 := Haq.c2
                  have jaq3 := Haq.c3
                  have jbq0 := Hbq.c0
                  have jbq1 := Hbq.c1
                  have jbq2 := Hbq.c2
                  have jbq3 := Hbq.c3
                  have jfq0 := HF.out.c0
                  have jfq1 := HF.out.c1
                  have jgq0 := HG.out.c0
                  have jgq1 := HG.out.c1
                  have jfqr := HF.out.fr
                  have jgqr := HG.out.fr
                  simp only at jaq0 jaq1 jaq2 jaq3 jbq0 jbq1 jbq2 jbq3 jfq0 jfq1 jgq0 jgq1
                  replace HQ := Lib.hid (bset (bset HQ.out (p := ⟨gb, 0, none⟩) hgb (.int .i64 b3)) (p := ⟨gb, 1, none⟩) hgb (.int .i64 b4))
                  replace HF := Lib.hid ((HF.out.far (p := ⟨gb, 0, none⟩) (Ne.symm hne) (.int .i64 b3)).far (p := ⟨gb, 1, none⟩) (Ne.symm hne) (.int .i64 b4))
                  replace HG := Lib.hid (HG.out.put b3 b4)
                  have Har := Ha.out.keep HQ.out
                  have Hbr := Hb.out.keep HQ.out
                  have jar0 := Har.c0
                  have jar1 := Har.c1
                  have jar2 := Har.c2
                  have jar3 := Har.c3
                  have jbr0 := Hbr.c0
                  have jbr1 := Hbr.c1
                  have jbr2 := Hbr.c2
                  have jbr3 := Hbr.c3
                  have jfr0 := HF.out.c0
                  have jfr1 := HF.out.c1
                  have jgr0 := HG.out.c0
                  have jgr1 := HG.out.c1
                  have jfrr := HF.out.fr
                  have jgrr := HG.out.fr
                  simp only at jar0 jar1 jar2 jar3 jbr0 jbr1 jbr2 jbr3 jfr0 jfr1 jgr0 jgr1
                  go_wp2_with fail
                  refine (HR3k.out _).mono ?_
                  rintro e w4 ⟨rfl, hb⟩
                  clear jap0 jap1 jap2 jap3 jbp0 jbp1 jbp2 jbp3 jfp0 jfp1 jgp0 jgp1 jfpr jgpr Hap Hbp jaq0 jaq1 jaq2 jaq3 jbq0 jbq1 jbq2 jbq3 jfq0 jfq1 jgq0 jgq1 jfqr jgqr Haq Hbq jar0 jar1 jar2 jar3 jbr0 jbr1 jbr2 jbr3 jfr0 jfr1 jgr0 jgr1 jfrr jgrr Har Hbr
                  have HB0 := hb.alloc hb.size (.cells #[.int .i64 r31, .int .i64 r32] 23)
                  have HY := Lib.hid (frb_new w4 r31 r32)
                  replace HQ := Lib.hid (HQ.out.trans (HB0.mono HQ.out.size))
                  replace Ha := Lib.hid (Ha.out.keep HQ.out)
                  replace Hb := Lib.hid (Hb.out.keep HQ.out)
                  replace Hx := Lib.hid (Hx.out.keep HQ.out)
                  replace HW := Lib.hid (HW.out.trans (HQ.out.mono HW.out.size))
                  clear hb HB0 HQ HF HG hne hfb hgb
                  have y0 := HY.out.c0
                  have y1 := HY.out.c1
                  simp only at y0 y1
                  have ka0 := Ha.out.c0
                  have ka1 := Ha.out.c1
                  have ka2 := Ha.out.c2
                  have ka3 := Ha.out.c3
                  have kb0 := Hb.out.c0
                  have kb1 := Hb.out.c1
                  have kb2 := Hb.out.c2
                  have kb3 := Hb.out.c3
                  have kx0 := Hx.out.c0
                  have kx1 := Hx.out.c1
                  have kx2 := Hx.out.c2
                  have kx3 := Hx.out.c3
                  simp only at ka0 ka1 ka2 ka3 kb0 kb1 kb2 kb3 kx0 kx1 kx2 kx3
                  go_upto_region 20 with fail
                  go_cut [8] (fun s8 wx => s8 = .bool (l || L3) ∧ wx = (w4.alloc (.cells #[.int .i64 r31, .int .i64 r32] 23)))
                  case first =>
                    cases l with
                    | true =>
                      go_wp2_with fail
                      go_meet
                      exact ⟨rfl, rfl⟩
                    | false =>
                      by_cases hz : r3e = 0
                      · cases hq1 : (r31 == x1) <;> cases hq2 : (r32 == x2)
                        all_goals
                          have hz1 : decide (r3e = 0) = true := decide_eq_true hz
                          go_wp2_with fail
                          go_meet
                          exact ⟨by rw [← hL3.out]; simp [hit, hz, hq1, hq2], rfl⟩
                      · have hz1 : decide (r3e = 0) = false := decide_eq_false hz
                        go_wp2_with fail
                        go_meet
                        exact ⟨by rw [← hL3.out]; simp [hit, hz], rfl⟩
                  case rest =>
                    obtain ⟨rfl, rfl⟩ := hcut
                    rw [← HLn.out]
                    cases m with
                    | true =>
                      go_wp2
                      refine ⟨⟨4, by decide, by decide, rfl, by rw [HHn.out]; rfl, rfl, HW, Ha, Hb, Hx⟩, ?_⟩
                      show (4 - (4 : Int)).toNat < (4 - (3 : Int)).toNat
                      decide
                    | false =>
                      by_cases hz : r3e = 0
                      · cases hq1 : (r31 == x3) <;> cases hq2 : (r32 == x4)
                        all_goals
                          have hz1 : decide (r3e = 0) = true := decide_eq_true hz
                          go_wp2
                          refine ⟨⟨4, by decide, by decide, rfl, by rw [HHn.out, ← hH3.out]; simp [hit, hz, hq1, hq2], rfl, HW, Ha, Hb, Hx⟩, ?_⟩
                          show (4 - (4 : Int)).toNat < (4 - (3 : Int)).toNat
                          decide
                      · have hz1 : decide (r3e = 0) = false := decide_eq_false hz
                        go_wp2
                        refine ⟨⟨4, by decide, by decide, rfl, by rw [HHn.out, ← hH3.out]; simp [hit, hz], rfl, HW, Ha, Hb, Hx⟩, ?_⟩
                        show (4 - (4 : Int)).toNat < (4 - (3 : Int)).toNat
                        decide
              · rw [HT1.out, HT2.out]
                have ka0 := Ha.out.c0
                have ka1 := Ha.out.c1
                have ka2 := Ha.out.c2
                have ka3 := Ha.out.c3
                have kb0 := Hb.out.c0
                have kb1 := Hb.out.c1
                have kb2 := Hb.out.c2
                have kb3 := Hb.out.c3
                have kx0 := Hx.out.c0
                have kx1 := Hx.out.c1
                have kx2 := Hx.out.c2
                have kx3 := Hx.out.c3
                simp only at ka0 ka1 ka2 ka3 kb0 kb1 kb2 kb3 kx0 kx1 kx2 kx3
                go_wp2
                refine ⟨⟨k + 1, by omega, rfl, HW, Ha, Hb⟩, ?_⟩
                show (5 - ((k : Int) + 1)).toNat < (5 - (k : Int)).toNat
                omega
          · have hd_xe : decide (xe = 0) = false := by simp [hz_xe]
            go_wp2
            refine ⟨⟨k + 1, by omega, rfl, HW, Ha, Hb⟩, ?_⟩
            show (5 - ((k : Int) + 1)).toNat < (5 - (k : Int)).toNat
            omega
        · obtain rfl : k = 5 := by omega
          have ka0 := Ha.out.c0
          have ka1 := Ha.out.c1
          have ka2 := Ha.out.c2
          have ka3 := Ha.out.c3
          have kb0 := Hb.out.c0
          have kb1 := Hb.out.c1
          have kb2 := Hb.out.c2
          have kb3 := Hb.out.c3
          simp only at ka0 ka1 ka2 ka3 kb0 kb1 kb2 kb3
          go_wp2
          go_ret
          exact ⟨rfl, HW.out⟩
end Go.Proofs.Ytbjmibaepccbeaa
