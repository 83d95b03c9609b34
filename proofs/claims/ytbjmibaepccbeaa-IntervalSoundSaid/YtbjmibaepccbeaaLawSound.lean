/- For all numbers in the operands the result of each operation is in the interval that the package computes: the law. -/
import Derived.Test.YtbjmibaepccbeaaIvE
import Derived.Test.YtbjmibaepccbeaaIvW
import Derived.Test.YtbjmibaepccbeaaBoxes
set_option linter.unusedSimpArgs false
set_option linter.unusedVariables false
namespace Go.Proofs.Ytbjmibaepccbeaa
open Go.RowKit
open Iv

theorem boxes_sound (w : World) (a1 a2 a3 a4 b1 b2 b3 b4 f1 f2 g1 g2 : Int) : AlB ((((w.alloc (.cells #[.int .i64 a1, .int .i64 a2, .int .i64 a3, .int .i64 a4] 25)).alloc (.cells #[.int .i64 b1, .int .i64 b2, .int .i64 b3, .int .i64 b4] 25)).alloc (.cells #[.int .i64 f1, .int .i64 f2] 23)).alloc (.cells #[.int .i64 g1, .int .i64 g2] 23)) (w.heap.size) ((a1, a2), (a3, a4)) ∧ AlB ((((w.alloc (.cells #[.int .i64 a1, .int .i64 a2, .int .i64 a3, .int .i64 a4] 25)).alloc (.cells #[.int .i64 b1, .int .i64 b2, .int .i64 b3, .int .i64 b4] 25)).alloc (.cells #[.int .i64 f1, .int .i64 f2] 23)).alloc (.cells #[.int .i64 g1, .int .i64 g2] 23)) (w.heap.size + 1) ((b1, b2), (b3, b4)) ∧ FrB ((((w.alloc (.cells #[.int .i64 a1, .int .i64 a2, .int .i64 a3, .int .i64 a4] 25)).alloc (.cells #[.int .i64 b1, .int .i64 b2, .int .i64 b3, .int .i64 b4] 25)).alloc (.cells #[.int .i64 f1, .int .i64 f2] 23)).alloc (.cells #[.int .i64 g1, .int .i64 g2] 23)) (w.heap.size + 1 + 1) (f1, f2) ∧ FrB ((((w.alloc (.cells #[.int .i64 a1, .int .i64 a2, .int .i64 a3, .int .i64 a4] 25)).alloc (.cells #[.int .i64 b1, .int .i64 b2, .int .i64 b3, .int .i64 b4] 25)).alloc (.cells #[.int .i64 f1, .int .i64 f2] 23)).alloc (.cells #[.int .i64 g1, .int .i64 g2] 23)) (w.heap.size + 1 + 1 + 1) (g1, g2) :=
  ⟨⟨by simp [go_sem], by simp [go_sem], by simp [go_sem], by simp [go_sem], by simp; try omega, fun o => by simp [go_sem]⟩, ⟨by simp [go_sem], by simp [go_sem], by simp [go_sem], by simp [go_sem], by simp; try omega, fun o => by simp [go_sem]⟩, ⟨by simp [go_sem], by simp [go_sem], by simp; try omega, fun o => by simp [go_sem]⟩, ⟨by simp [go_sem], by simp [go_sem], by simp; try omega, fun o => by simp [go_sem]⟩⟩
set_option maxHeartbeats 16000000 in
set_option maxRecDepth 100000 in
theorem sound_law {a : V} {b : V} {f : F} {g : F} (ha : WfV a) (hb : WfV b) (hf : Wf64 f) (hg : Wf64 g) (w : World) :
    Calls Try.prog 7 #[(.agg #[.int .i64 (a).1.1, .int .i64 (a).1.2, .int .i64 (a).2.1, .int .i64 (a).2.2]), (.agg #[.int .i64 (b).1.1, .int .i64 (b).1.2, .int .i64 (b).2.1, .int .i64 (b).2.2]), (.agg #[.int .i64 (f).1, .int .i64 (f).2]), (.agg #[.int .i64 (g).1, .int .i64 (g).2])] w fun e w' => e = .returned (.bool true) ∧ Below w.heap.size w w' := by
  have HAW := Lib.hid (fun w => awake_any w)
  have HI1 := Lib.hid (icontains_any a f ha hf)
  have HI2 := Lib.hid (icontains_any b g hb hg)
  have HD1 := Lib.hid (fun op (h : op < 5) w => do_any op h a b ha hb w)
  have HD2 := Lib.hid (fun op (h : op < 5) w => rdo_any op (by omega) f g hf hg w)
  have HIN := Lib.hid (fun op (h : op < 5) W => icontains_any (doV op a b).1 (opR op f g).1 (do_wf op h ha hb) (opR_wfa op f g hf hg) W)
  have HG := Lib.hid (fun (h1 : conV a f = true) (h2 : conV b g = true) op (h : op < 5) (h3 : (doV op a b).2 = 0) (h4 : (opR op f g).2 = 0) => do_sound h h1 h2 h3 h4)
  have HS1 := Lib.hid (iscale_any a g ha hg)
  have HS2 := Lib.hid (show ∀ W : World, Calls Try.prog 32 #[(.agg #[.int .i64 (f).1, .int .i64 (f).2]), (.agg #[.int .i64 (g).1, .int .i64 (g).2])] W fun e w' => e = .returned (.tuple #[(.agg #[.int .i64 ((opR 2 f g).1).1, .int .i64 ((opR 2 f g).1).2]), .int .i64 (opR 2 f g).2]) ∧ Below W.heap.size W w' from fun W => fr_mul f g hf hg W)
  have HS3 := Lib.hid (fun W => icontains_any (scaleV a g).1 (opR 2 f g).1 (scale_wf ha hg) (opR_wfa 2 f g hf hg) W)
  have HS4 := Lib.hid (fun (h1 : conV a f = true) (h2 : conV b g = true) (h3 : (scaleV a g).2 = 0) (h4 : (opR 2 f g).2 = 0) => scale_sound h1 h2 h3 h4)
  have HV1 := Lib.hid (idiv_any a g ha hg)
  have HV2 := Lib.hid (show ∀ W : World, Calls Try.prog 33 #[(.agg #[.int .i64 (f).1, .int .i64 (f).2]), (.agg #[.int .i64 (g).1, .int .i64 (g).2])] W fun e w' => e = .returned (.tuple #[(.agg #[.int .i64 ((opR 5 f g).1).1, .int .i64 ((opR 5 f g).1).2]), .int .i64 (opR 5 f g).2]) ∧ Below W.heap.size W w' from fun W => fr_div f g hf hg W)
  have HV3 := Lib.hid (fun W => icontains_any (divV a g).1 (opR 5 f g).1 (div_wf ha hg) (opR_wfa 5 f g hf hg) W)
  have HV4 := Lib.hid (fun (h1 : conV a f = true) (h2 : conV b g = true) (h3 : (divV a g).2 = 0) (h4 : (opR 5 f g).2 = 0) => div_sound h1 h2 h3 h4)
  clear ha hb hf hg
  obtain ⟨⟨a1, a2⟩, ⟨a3, a4⟩⟩ := a
  obtain ⟨⟨b1, b2⟩, ⟨b3, b4⟩⟩ := b
  obtain ⟨f1, f2⟩ := f
  obtain ⟨g1, g2⟩ := g
  obtain ⟨i1, e_i1⟩ : ∃ x, conV ((a1, a2), (a3, a4)) (f1, f2) = x := ⟨_, rfl⟩
  rw [e_i1] at HI1 HG HS4 HV4
  clear e_i1
  obtain ⟨i2, e_i2⟩ : ∃ x, conV ((b1, b2), (b3, b4)) (g1, g2) = x := ⟨_, rfl⟩
  rw [e_i2] at HI2 HG HS4 HV4
  clear e_i2
  have Ha := Lib.hid (boxes_sound w a1 a2 a3 a4 b1 b2 b3 b4 f1 f2 g1 g2).1
  have Hb := Lib.hid (boxes_sound w a1 a2 a3 a4 b1 b2 b3 b4 f1 f2 g1 g2).2.1
  have Hf := Lib.hid (boxes_sound w a1 a2 a3 a4 b1 b2 b3 b4 f1 f2 g1 g2).2.2.1
  have Hg := Lib.hid (boxes_sound w a1 a2 a3 a4 b1 b2 b3 b4 f1 f2 g1 g2).2.2.2
  simp only at HI1 HI2 HD1 HD2 HIN HG HS1 HS2 HS3 HS4 HV1 HV2 HV3 HV4
  go_enter Try.func7, Try.ntmps7
  go_wp2_with fail
  refine (HAW.out _).mono ?_
  rintro e w0 ⟨rfl, hb⟩
  replace Ha := Lib.hid (Ha.out.keep hb)
  replace Hb := Lib.hid (Hb.out.keep hb)
  replace Hf := Lib.hid (Hf.out.keep hb)
  replace Hg := Lib.hid (Hg.out.keep hb)
  have HW := Lib.hid (show Below w.heap.size w w0 from Below.trans (by repeat (first | with_reducible exact Below.refl _ _ | (with_reducible refine Below.setCell ?_ (by first | exact Nat.le_refl _ | omega | (simp; done) | (simp; omega)) _) | (with_reducible refine Below.alloc ?_ (by first | exact Nat.le_refl _ | omega | (simp; done) | (simp; omega)) _) | with_reducible refine Below.drew ?_ | with_reducible refine bel_drewN ?_ _ | (with_reducible refine bel_by (by with_reducible assumption) (by first | exact Nat.le_refl _ | omega | (simp; done) | (simp; omega)) ?_))) (hb.mono (by simp; omega)))
  clear hb HAW
  have ka0 := Ha.out.c0
  have ka1 := Ha.out.c1
  have ka2 := Ha.out.c2
  have ka3 := Ha.out.c3
  have kb0 := Hb.out.c0
  have kb1 := Hb.out.c1
  have kb2 := Hb.out.c2
  have kb3 := Hb.out.c3
  have kf0 := Hf.out.c0
  have kf1 := Hf.out.c1
  have kg0 := Hg.out.c0
  have kg1 := Hg.out.c1
  simp only at ka0 ka1 ka2 ka3 kb0 kb1 kb2 kb3 kf0 kf1 kg0 kg1
  go_wp2_with fail
  refine (HI1.out _).mono ?_
  rintro e w1 ⟨rfl, hb⟩
  clear ka0 ka1 ka2 ka3 kb0 kb1 kb2 kb3 kf0 kf1 kg0 kg1
  have HB1 := hb
  replace Ha := Lib.hid (Ha.out.keep HB1)
  replace Hb := Lib.hid (Hb.out.keep HB1)
  replace Hf := Lib.hid (Hf.out.keep HB1)
  replace Hg := Lib.hid (Hg.out.keep HB1)
  replace HW := Lib.hid (HW.out.trans (HB1.mono HW.out.size))
  clear hb HB1
  have ka0 := Ha.out.c0
  have ka1 := Ha.out.c1
  have ka2 := Ha.out.c2
  have ka3 := Ha.out.c3
  have kb0 := Hb.out.c0
  have kb1 := Hb.out.c1
  have kb2 := Hb.out.c2
  have kb3 := Hb.out.c3
  have kf0 := Hf.out.c0
  have kf1 := Hf.out.c1
  have kg0 := Hg.out.c0
  have kg1 := Hg.out.c1
  simp only at ka0 ka1 ka2 ka3 kb0 kb1 kb2 kb3 kf0 kf1 kg0 kg1
  cases i1 with
  | false =>
    go_wp2
    go_ret
    exact ⟨rfl, HW.out⟩
  | true =>
    go_wp2_with fail
    refine (HI2.out _).mono ?_
    rintro e w2 ⟨rfl, hb⟩
    clear ka0 ka1 ka2 ka3 kb0 kb1 kb2 kb3 kf0 kf1 kg0 kg1
    have HB2 := hb
    replace Ha := Lib.hid (Ha.out.keep HB2)
    replace Hb := Lib.hid (Hb.out.keep HB2)
    replace Hf := Lib.hid (Hf.out.keep HB2)
    replace Hg := Lib.hid (Hg.out.keep HB2)
    replace HW := Lib.hid (HW.out.trans (HB2.mono HW.out.size))
    clear hb HB2
    have ka0 := Ha.out.c0
    have ka1 := Ha.out.c1
    have ka2 := Ha.out.c2
    have ka3 := Ha.out.c3
    have kb0 := Hb.out.c0
    have kb1 := Hb.out.c1
    have kb2 := Hb.out.c2
    have kb3 := Hb.out.c3
    have kf0 := Hf.out.c0
    have kf1 := Hf.out.c1
    have kg0 := Hg.out.c0
    have kg1 := Hg.out.c1
    simp only at ka0 ka1 ka2 ka3 kb0 kb1 kb2 kb3 kf0 kf1 kg0 kg1
    cases i2 with
    | false =>
      go_wp2
      go_ret
      exact ⟨rfl, HW.out⟩
    | true =>
      go_wp2_with fail
      clear ka0 ka1 ka2 ka3 kb0 kb1 kb2 kb3 kf0 kf1 kg0 kg1
      go_loopw [9] (fun s9 wr => ∃ (k : Nat), k ≤ 5 ∧ s9 = .int .i64 (k : Int) ∧ Hid (Below w.heap.size w wr) ∧ Hid (AlB wr (w.heap.size) ((a1, a2), (a3, a4))) ∧ Hid (AlB wr (w.heap.size + 1) ((b1, b2), (b3, b4))) ∧ Hid (FrB wr (w.heap.size + 1 + 1) (f1, f2)) ∧ Hid (FrB wr (w.heap.size + 1 + 1 + 1) (g1, g2))) (fun s9 _ => (5 - (intOf s9)).toNat)
      case atStart => exact ⟨0, Nat.zero_le _, rfl, HW, Ha, Hb, Hf, Hg⟩
      case round =>
        clear HW Ha Hb Hf Hg
        obtain ⟨k, hk, rfl, HW, Ha, Hb, Hf, Hg⟩ := hrel
        by_cases hlt : k < 5
        · have l1 : (k : Int) ≤ 4 := by omega
          have ka0 := Ha.out.c0
          have ka1 := Ha.out.c1
          have ka2 := Ha.out.c2
          have ka3 := Ha.out.c3
          have kb0 := Hb.out.c0
          have kb1 := Hb.out.c1
          have kb2 := Hb.out.c2
          have kb3 := Hb.out.c3
          have kf0 := Hf.out.c0
          have kf1 := Hf.out.c1
          have kg0 := Hg.out.c0
          have kg1 := Hg.out.c1
          simp only at ka0 ka1 ka2 ka3 kb0 kb1 kb2 kb3 kf0 kf1 kg0 kg1
          have HD1k := Lib.hid (HD1.out k hlt)
          have HD2k := Lib.hid (HD2.out k hlt)
          have HINk := Lib.hid (HIN.out k hlt)
          have HGk := Lib.hid (HG.out (by first | rfl | trivial) (by first | rfl | trivial) k hlt)
          clear HD1 HD2 HIN HG HS1 HS2 HS3 HS4 HV1 HV2 HV3 HV4
          obtain ⟨X_, e_X_⟩ : ∃ x, doV k ((a1, a2), (a3, a4)) ((b1, b2), (b3, b4)) = x := ⟨_, rfl⟩
          rw [e_X_] at HD1k HINk HGk
          clear e_X_
          obtain ⟨⟨⟨x1, x2⟩, ⟨x3, x4⟩⟩, xe⟩ := X_
          simp only at HD1k HINk HGk
          obtain ⟨Y_, e_Y_⟩ : ∃ x, opR k (f1, f2) (g1, g2) = x := ⟨_, rfl⟩
          rw [e_Y_] at HD2k HINk HGk
          clear e_Y_
          obtain ⟨⟨y1, y2⟩, ye⟩ := Y_
          simp only at HD2k HINk HGk
          go_wp2_with fail
          refine (HD1k.out _).mono ?_
          rintro e w3 ⟨rfl, hb⟩
          clear ka0 ka1 ka2 ka3 kb0 kb1 kb2 kb3 kf0 kf1 kg0 kg1
          have HB3 := hb.alloc hb.size (.cells #[.int .i64 x1, .int .i64 x2, .int .i64 x3, .int .i64 x4] 25)
          have Hx := Lib.hid (al_new w3 x1 x2 x3 x4)
          replace Ha := Lib.hid (Ha.out.keep HB3)
          replace Hb := Lib.hid (Hb.out.keep HB3)
          replace Hf := Lib.hid (Hf.out.keep HB3)
          replace Hg := Lib.hid (Hg.out.keep HB3)
          replace HW := Lib.hid (HW.out.trans (HB3.mono HW.out.size))
          clear hb HB3
          have ka0 := Ha.out.c0
          have ka1 := Ha.out.c1
          have ka2 := Ha.out.c2
          have ka3 := Ha.out.c3
          have kb0 := Hb.out.c0
          have kb1 := Hb.out.c1
          have kb2 := Hb.out.c2
          have kb3 := Hb.out.c3
          have kf0 := Hf.out.c0
          have kf1 := Hf.out.c1
          have kg0 := Hg.out.c0
          have kg1 := Hg.out.c1
          have kx0 := Hx.out.c0
          have kx1 := Hx.out.c1
          have kx2 := Hx.out.c2
          have kx3 := Hx.out.c3
          simp only at ka0 ka1 ka2 ka3 kb0 kb1 kb2 kb3 kf0 kf1 kg0 kg1 kx0 kx1 kx2 kx3
          by_cases hz_xe : xe = 0
          · subst hz_xe
            go_wp2_with fail
            refine (HD2k.out _).mono ?_
            rintro e w4 ⟨rfl, hb⟩
            clear ka0 ka1 ka2 ka3 kb0 kb1 kb2 kb3 kf0 kf1 kg0 kg1 kx0 kx1 kx2 kx3
            have HB4 := hb.alloc hb.size (.cells #[.int .i64 y1, .int .i64 y2] 23)
            have Hy := Lib.hid (frb_new w4 y1 y2)
            replace Ha := Lib.hid (Ha.out.keep HB4)
            replace Hb := Lib.hid (Hb.out.keep HB4)
            replace Hf := Lib.hid (Hf.out.keep HB4)
            replace Hg := Lib.hid (Hg.out.keep HB4)
            replace Hx := Lib.hid (Hx.out.keep HB4)
            replace HW := Lib.hid (HW.out.trans (HB4.mono HW.out.size))
            clear hb HB4
            have ka0 := Ha.out.c0
            have ka1 := Ha.out.c1
            have ka2 := Ha.out.c2
            have ka3 := Ha.out.c3
            have kb0 := Hb.out.c0
            have kb1 := Hb.out.c1
            have kb2 := Hb.out.c2
            have kb3 := Hb.out.c3
            have kf0 := Hf.out.c0
            have kf1 := Hf.out.c1
            have kg0 := Hg.out.c0
            have kg1 := Hg.out.c1
            have kx0 := Hx.out.c0
            have kx1 := Hx.out.c1
            have kx2 := Hx.out.c2
            have kx3 := Hx.out.c3
            have ky0 := Hy.out.c0
            have ky1 := Hy.out.c1
            simp only at ka0 ka1 ka2 ka3 kb0 kb1 kb2 kb3 kf0 kf1 kg0 kg1 kx0 kx1 kx2 kx3 ky0 ky1
            by_cases hz_ye : ye = 0
            · subst hz_ye
              have hg := HGk.out (by first | rfl | trivial) (by first | rfl | trivial)
              rw [hg] at HINk
              go_wp2_with fail
              refine (HINk.out _).mono ?_
              rintro e w5 ⟨rfl, hb⟩
              clear ka0 ka1 ka2 ka3 kb0 kb1 kb2 kb3 kf0 kf1 kg0 kg1 kx0 kx1 kx2 kx3 ky0 ky1
              have HB5 := hb
              replace Ha := Lib.hid (Ha.out.keep HB5)
              replace Hb := Lib.hid (Hb.out.keep HB5)
              replace Hf := Lib.hid (Hf.out.keep HB5)
              replace Hg := Lib.hid (Hg.out.keep HB5)
              replace Hx := Lib.hid (Hx.out.keep HB5)
              replace Hy := Lib.hid (Hy.out.keep HB5)
              replace HW := Lib.hid (HW.out.trans (HB5.mono HW.out.size))
              clear hb HB5
              have ka0 := Ha.out.c0
              have ka1 := Ha.out.c1
              have ka2 := Ha.out.c2
              have ka3 := Ha.out.c3
              have kb0 := Hb.out.c0
              have kb1 := Hb.out.c1
              have kb2 := Hb.out.c2
              have kb3 := Hb.out.c3
              have kf0 := Hf.out.c0
              have kf1 := Hf.out.c1
              have kg0 := Hg.out.c0
              have kg1 := Hg.out.c1
              have kx0 := Hx.out.c0
              have kx1 := Hx.out.c1
              have kx2 := Hx.out.c2
              have kx3 := Hx.out.c3
              have ky0 := Hy.out.c0
              have ky1 := Hy.out.c1
              simp only at ka0 ka1 ka2 ka3 kb0 kb1 kb2 kb3 kf0 kf1 kg0 kg1 kx0 kx1 kx2 kx3 ky0 ky1
              go_wp2
              refine ⟨⟨k + 1, by omega, rfl, HW, Ha, Hb, Hf, Hg⟩, ?_⟩
              show (5 - ((k : Int) + 1)).toNat < (5 - (k : Int)).toNat
              omega
            · have hd_ye : decide (ye = 0) = false := by simp [hz_ye]
              go_wp2
              refine ⟨⟨k + 1, by omega, rfl, HW, Ha, Hb, Hf, Hg⟩, ?_⟩
              show (5 - ((k : Int) + 1)).toNat < (5 - (k : Int)).toNat
              omega
          · have hd_xe : decide (xe = 0) = false := by simp [hz_xe]
            go_wp2
            refine ⟨⟨k + 1, by omega, rfl, HW, Ha, Hb, Hf, Hg⟩, ?_⟩
            show (5 - ((k : Int) + 1)).toNat < (5 - (k : Int)).toNat
            omega
        · obtain rfl : k = 5 := by omega
          have ka0 := Ha.out.c0
          have ka1 := Ha.out.c1
          have ka2 := Ha.out.c2
          have ka3 := Ha.out.c3
          have kb0 := Hb.out.c0
          have kb1 := Hb.out.c1
          have kb2 := Hb.out.c2
          have kb3 := Hb.out.c3
          have kf0 := Hf.out.c0
          have kf1 := Hf.out.c1
          have kg0 := Hg.out.c0
          have kg1 := Hg.out.c1
          simp only at ka0 ka1 ka2 ka3 kb0 kb1 kb2 kb3 kf0 kf1 kg0 kg1
          have HS5 := Lib.hid (HS4.out (by first | rfl | trivial) (by first | rfl | trivial))
          have HV5 := Lib.hid (HV4.out (by first | rfl | trivial) (by first | rfl | trivial))
          clear HD1 HD2 HIN HG HS4 HV4
          obtain ⟨X_, e_X_⟩ : ∃ x, scaleV ((a1, a2), (a3, a4)) (g1, g2) = x := ⟨_, rfl⟩
          rw [e_X_] at HS1 HS3 HS5
          clear e_X_
          obtain ⟨⟨⟨x1, x2⟩, ⟨x3, x4⟩⟩, xe⟩ := X_
          simp only at HS1 HS3 HS5
          obtain ⟨Y_, e_Y_⟩ : ∃ x, opR 2 (f1, f2) (g1, g2) = x := ⟨_, rfl⟩
          rw [e_Y_] at HS2 HS3 HS5
          clear e_Y_
          obtain ⟨⟨y1, y2⟩, ye⟩ := Y_
          simp only at HS2 HS3 HS5
          obtain ⟨Z_, e_Z_⟩ : ∃ x, divV ((a1, a2), (a3, a4)) (g1, g2) = x := ⟨_, rfl⟩
          rw [e_Z_] at HV1 HV3 HV5
          clear e_Z_
          obtain ⟨⟨⟨z1, z2⟩, ⟨z3, z4⟩⟩, ze⟩ := Z_
          simp only at HV1 HV3 HV5
          obtain ⟨Q_, e_Q_⟩ : ∃ x, opR 5 (f1, f2) (g1, g2) = x := ⟨_, rfl⟩
          rw [e_Q_] at HV2 HV3 HV5
          clear e_Q_
          obtain ⟨⟨q1, q2⟩, qe⟩ := Q_
          simp only at HV2 HV3 HV5
          go_wp2_with fail
          refine (HS1.out _).mono ?_
          rintro e w3 ⟨rfl, hb⟩
          clear ka0 ka1 ka2 ka3 kb0 kb1 kb2 kb3 kf0 kf1 kg0 kg1
          have HB3 := hb.alloc hb.size (.cells #[.int .i64 x1, .int .i64 x2, .int .i64 x3, .int .i64 x4] 25)
          have Hx := Lib.hid (al_new w3 x1 x2 x3 x4)
          replace Ha := Lib.hid (Ha.out.keep HB3)
          replace Hb := Lib.hid (Hb.out.keep HB3)
          replace Hf := Lib.hid (Hf.out.keep HB3)
          replace Hg := Lib.hid (Hg.out.keep HB3)
          replace HW := Lib.hid (HW.out.trans (HB3.mono HW.out.size))
          clear hb HB3
          have ka0 := Ha.out.c0
          have ka1 := Ha.out.c1
          have ka2 := Ha.out.c2
          have ka3 := Ha.out.c3
          have kb0 := Hb.out.c0
          have kb1 := Hb.out.c1
          have kb2 := Hb.out.c2
          have kb3 := Hb.out.c3
          have kf0 := Hf.out.c0
          have kf1 := Hf.out.c1
          have kg0 := Hg.out.c0
          have kg1 := Hg.out.c1
          have kx0 := Hx.out.c0
          have kx1 := Hx.out.c1
          have kx2 := Hx.out.c2
          have kx3 := Hx.out.c3
          simp only at ka0 ka1 ka2 ka3 kb0 kb1 kb2 kb3 kf0 kf1 kg0 kg1 kx0 kx1 kx2 kx3
          go_wp2_with fail
          refine (HS2.out _).mono ?_
          rintro e w4 ⟨rfl, hb⟩
          clear ka0 ka1 ka2 ka3 kb0 kb1 kb2 kb3 kf0 kf1 kg0 kg1 kx0 kx1 kx2 kx3
          have HB4 := hb.alloc hb.size (.cells #[.int .i64 y1, .int .i64 y2] 23)
          have Hy := Lib.hid (frb_new w4 y1 y2)
          replace Ha := Lib.hid (Ha.out.keep HB4)
          replace Hb := Lib.hid (Hb.out.keep HB4)
          replace Hf := Lib.hid (Hf.out.keep HB4)
          replace Hg := Lib.hid (Hg.out.keep HB4)
          replace Hx := Lib.hid (Hx.out.keep HB4)
          replace HW := Lib.hid (HW.out.trans (HB4.mono HW.out.size))
          clear hb HB4
          have ka0 := Ha.out.c0
          have ka1 := Ha.out.c1
          have ka2 := Ha.out.c2
          have ka3 := Ha.out.c3
          have kb0 := Hb.out.c0
          have kb1 := Hb.out.c1
          have kb2 := Hb.out.c2
          have kb3 := Hb.out.c3
          have kf0 := Hf.out.c0
          have kf1 := Hf.out.c1
          have kg0 := Hg.out.c0
          have kg1 := Hg.out.c1
          have kx0 := Hx.out.c0
          have kx1 := Hx.out.c1
          have kx2 := Hx.out.c2
          have kx3 := Hx.out.c3
          have ky0 := Hy.out.c0
          have ky1 := Hy.out.c1
          simp only at ka0 ka1 ka2 ka3 kb0 kb1 kb2 kb3 kf0 kf1 kg0 kg1 kx0 kx1 kx2 kx3 ky0 ky1
          by_cases hz_xe : xe = 0
          · subst hz_xe
            by_cases hz_ye : ye = 0
            · subst hz_ye
              have hg := HS5.out (by first | rfl | trivial) (by first | rfl | trivial)
              rw [hg] at HS3
              go_wp2_with fail
              refine (HS3.out _).mono ?_
              rintro e w5 ⟨rfl, hb⟩
              clear ka0 ka1 ka2 ka3 kb0 kb1 kb2 kb3 kf0 kf1 kg0 kg1 kx0 kx1 kx2 kx3 ky0 ky1
              have HB5 := hb
              replace Ha := Lib.hid (Ha.out.keep HB5)
              replace Hb := Lib.hid (Hb.out.keep HB5)
              replace Hf := Lib.hid (Hf.out.keep HB5)
              replace Hg := Lib.hid (Hg.out.keep HB5)
              replace Hx := Lib.hid (Hx.out.keep HB5)
              replace Hy := Lib.hid (Hy.out.keep HB5)
              replace HW := Lib.hid (HW.out.trans (HB5.mono HW.out.size))
              clear hb HB5
              have ka0 := Ha.out.c0
              have ka1 := Ha.out.c1
              have ka2 := Ha.out.c2
              have ka3 := Ha.out.c3
              have kb0 := Hb.out.c0
              have kb1 := Hb.out.c1
              have kb2 := Hb.out.c2
              have kb3 := Hb.out.c3
              have kf0 := Hf.out.c0
              have kf1 := Hf.out.c1
              have kg0 := Hg.out.c0
              have kg1 := Hg.out.c1
              have kx0 := Hx.out.c0
              have kx1 := Hx.out.c1
              have kx2 := Hx.out.c2
              have kx3 := Hx.out.c3
              have ky0 := Hy.out.c0
              have ky1 := Hy.out.c1
              simp only at ka0 ka1 ka2 ka3 kb0 kb1 kb2 kb3 kf0 kf1 kg0 kg1 kx0 kx1 kx2 kx3 ky0 ky1
              go_wp2_with fail
              refine (HV1.out _).mono ?_
              rintro e w6 ⟨rfl, hb⟩
              clear ka0 ka1 ka2 ka3 kb0 kb1 kb2 kb3 kf0 kf1 kg0 kg1 kx0 kx1 kx2 kx3 ky0 ky1
              have HB6 := hb.alloc hb.size (.cells #[.int .i64 z1, .int .i64 z2, .int .i64 z3, .int .i64 z4] 25)
              have Hz := Lib.hid (al_new w6 z1 z2 z3 z4)
              replace Ha := Lib.hid (Ha.out.keep HB6)
              replace Hb := Lib.hid (Hb.out.keep HB6)
              replace Hf := Lib.hid (Hf.out.keep HB6)
              replace Hg := Lib.hid (Hg.out.keep HB6)
              replace Hx := Lib.hid (Hx.out.keep HB6)
              replace Hy := Lib.hid (Hy.out.keep HB6)
              replace HW := Lib.hid (HW.out.trans (HB6.mono HW.out.size))
              clear hb HB6
              have ka0 := Ha.out.c0
              have ka1 := Ha.out.c1
              have ka2 := Ha.out.c2
              have ka3 := Ha.out.c3
              have kb0 := Hb.out.c0
              have kb1 := Hb.out.c1
              have kb2 := Hb.out.c2
              have kb3 := Hb.out.c3
              have kf0 := Hf.out.c0
              have kf1 := Hf.out.c1
              have kg0 := Hg.out.c0
              have kg1 := Hg.out.c1
              have kx0 := Hx.out.c0
              have kx1 := Hx.out.c1
              have kx2 := Hx.out.c2
              have kx3 := Hx.out.c3
              have ky0 := Hy.out.c0
              have ky1 := Hy.out.c1
              have kz0 := Hz.out.c0
              have kz1 := Hz.out.c1
              have kz2 := Hz.out.c2
              have kz3 := Hz.out.c3
              simp only at ka0 ka1 ka2 ka3 kb0 kb1 kb2 kb3 kf0 kf1 kg0 kg1 kx0 kx1 kx2 kx3 ky0 ky1 kz0 kz1 kz2 kz3
              go_wp2_with fail
              refine (HV2.out _).mono ?_
              rintro e w7 ⟨rfl, hb⟩
              clear ka0 ka1 ka2 ka3 kb0 kb1 kb2 kb3 kf0 kf1 kg0 kg1 kx0 kx1 kx2 kx3 ky0 ky1 kz0 kz1 kz2 kz3
              have HB7 := hb.alloc hb.size (.cells #[.int .i64 q1, .int .i64 q2] 23)
              have Hq := Lib.hid (frb_new w7 q1 q2)
              replace Ha := Lib.hid (Ha.out.keep HB7)
              replace Hb := Lib.hid (Hb.out.keep HB7)
              replace Hf := Lib.hid (Hf.out.keep HB7)
              replace Hg := Lib.hid (Hg.out.keep HB7)
              replace Hx := Lib.hid (Hx.out.keep HB7)
              replace Hy := Lib.hid (Hy.out.keep HB7)
              replace Hz := Lib.hid (Hz.out.keep HB7)
              replace HW := Lib.hid (HW.out.trans (HB7.mono HW.out.size))
              clear hb HB7
              have ka0 := Ha.out.c0
              have ka1 := Ha.out.c1
              have ka2 := Ha.out.c2
              have ka3 := Ha.out.c3
              have kb0 := Hb.out.c0
              have kb1 := Hb.out.c1
              have kb2 := Hb.out.c2
              have kb3 := Hb.out.c3
              have kf0 := Hf.out.c0
              have kf1 := Hf.out.c1
              have kg0 := Hg.out.c0
              have kg1 := Hg.out.c1
              have kx0 := Hx.out.c0
              have kx1 := Hx.out.c1
              have kx2 := Hx.out.c2
              have kx3 := Hx.out.c3
              have ky0 := Hy.out.c0
              have ky1 := Hy.out.c1
              have kz0 := Hz.out.c0
              have kz1 := Hz.out.c1
              have kz2 := Hz.out.c2
              have kz3 := Hz.out.c3
              have kq0 := Hq.out.c0
              have kq1 := Hq.out.c1
              simp only at ka0 ka1 ka2 ka3 kb0 kb1 kb2 kb3 kf0 kf1 kg0 kg1 kx0 kx1 kx2 kx3 ky0 ky1 kz0 kz1 kz2 kz3 kq0 kq1
              by_cases hz_ze : ze = 0
              · subst hz_ze
                by_cases hz_qe : qe = 0
                · subst hz_qe
                  have hg := HV5.out (by first | rfl | trivial) (by first | rfl | trivial)
                  rw [hg] at HV3
                  go_wp2_with fail
                  refine (HV3.out _).mono ?_
                  rintro e w8 ⟨rfl, hb⟩
                  clear ka0 ka1 ka2 ka3 kb0 kb1 kb2 kb3 kf0 kf1 kg0 kg1 kx0 kx1 kx2 kx3 ky0 ky1 kz0 kz1 kz2 kz3 kq0 kq1
                  have HB8 := hb
                  replace Ha := Lib.hid (Ha.out.keep HB8)
                  replace Hb := Lib.hid (Hb.out.keep HB8)
                  replace Hf := Lib.hid (Hf.out.keep HB8)
                  replace Hg := Lib.hid (Hg.out.keep HB8)
                  replace Hx := Lib.hid (Hx.out.keep HB8)
                  replace Hy := Lib.hid (Hy.out.keep HB8)
                  replace Hz := Lib.hid (Hz.out.keep HB8)
                  replace Hq := Lib.hid (Hq.out.keep HB8)
                  replace HW := Lib.hid (HW.out.trans (HB8.mono HW.out.size))
                  clear hb HB8
                  have ka0 := Ha.out.c0
                  have ka1 := Ha.out.c1
                  have ka2 := Ha.out.c2
                  have ka3 := Ha.out.c3
                  have kb0 := Hb.out.c0
                  have kb1 := Hb.out.c1
                  have kb2 := Hb.out.c2
                  have kb3 := Hb.out.c3
                  have kf0 := Hf.out.c0
                  have kf1 := Hf.out.c1
                  have kg0 := Hg.out.c0
                  have kg1 := Hg.out.c1
                  have kx0 := Hx.out.c0
                  have kx1 := Hx.out.c1
                  have kx2 := Hx.out.c2
                  have kx3 := Hx.out.c3
                  have ky0 := Hy.out.c0
                  have ky1 := Hy.out.c1
                  have kz0 := Hz.out.c0
                  have kz1 := Hz.out.c1
                  have kz2 := Hz.out.c2
                  have kz3 := Hz.out.c3
                  have kq0 := Hq.out.c0
                  have kq1 := Hq.out.c1
                  simp only at ka0 ka1 ka2 ka3 kb0 kb1 kb2 kb3 kf0 kf1 kg0 kg1 kx0 kx1 kx2 kx3 ky0 ky1 kz0 kz1 kz2 kz3 kq0 kq1
                  go_wp2
                  go_ret
                  exact ⟨rfl, HW.out⟩
                · have hd_qe : decide (qe = 0) = false := by simp [hz_qe]
                  go_wp2
                  go_ret
                  exact ⟨rfl, HW.out⟩
              · have hd_ze : decide (ze = 0) = false := by simp [hz_ze]
                go_wp2
                go_ret
                exact ⟨rfl, HW.out⟩
            · have hd_ye : decide (ye = 0) = false := by simp [hz_ye]
              go_wp2_with fail
              refine (HV1.out _).mono ?_
              rintro e w5 ⟨rfl, hb⟩
              clear ka0 ka1 ka2 ka3 kb0 kb1 kb2 kb3 kf0 kf1 kg0 kg1 kx0 kx1 kx2 kx3 ky0 ky1
              have HB5 := hb.alloc hb.size (.cells #[.int .i64 z1, .int .i64 z2, .int .i64 z3, .int .i64 z4] 25)
              have Hz := Lib.hid (al_new w5 z1 z2 z3 z4)
              replace Ha := Lib.hid (Ha.out.keep HB5)
              replace Hb := Lib.hid (Hb.out.keep HB5)
              replace Hf := Lib.hid (Hf.out.keep HB5)
              replace Hg := Lib.hid (Hg.out.keep HB5)
              replace Hx := Lib.hid (Hx.out.keep HB5)
              replace Hy := Lib.hid (Hy.out.keep HB5)
              replace HW := Lib.hid (HW.out.trans (HB5.mono HW.out.size))
              clear hb HB5
              have ka0 := Ha.out.c0
              have ka1 := Ha.out.c1
              have ka2 := Ha.out.c2
              have ka3 := Ha.out.c3
              have kb0 := Hb.out.c0
              have kb1 := Hb.out.c1
              have kb2 := Hb.out.c2
              have kb3 := Hb.out.c3
              have kf0 := Hf.out.c0
              have kf1 := Hf.out.c1
              have kg0 := Hg.out.c0
              have kg1 := Hg.out.c1
              have kx0 := Hx.out.c0
              have kx1 := Hx.out.c1
              have kx2 := Hx.out.c2
              have kx3 := Hx.out.c3
              have ky0 := Hy.out.c0
              have ky1 := Hy.out.c1
              have kz0 := Hz.out.c0
              have kz1 := Hz.out.c1
              have kz2 := Hz.out.c2
              have kz3 := Hz.out.c3
              simp only at ka0 ka1 ka2 ka3 kb0 kb1 kb2 kb3 kf0 kf1 kg0 kg1 kx0 kx1 kx2 kx3 ky0 ky1 kz0 kz1 kz2 kz3
              go_wp2_with fail
              refine (HV2.out _).mono ?_
              rintro e w6 ⟨rfl, hb⟩
              clear ka0 ka1 ka2 ka3 kb0 kb1 kb2 kb3 kf0 kf1 kg0 kg1 kx0 kx1 kx2 kx3 ky0 ky1 kz0 kz1 kz2 kz3
              have HB6 := hb.alloc hb.size (.cells #[.int .i64 q1, .int .i64 q2] 23)
              have Hq := Lib.hid (frb_new w6 q1 q2)
              replace Ha := Lib.hid (Ha.out.keep HB6)
              replace Hb := Lib.hid (Hb.out.keep HB6)
              replace Hf := Lib.hid (Hf.out.keep HB6)
              replace Hg := Lib.hid (Hg.out.keep HB6)
              replace Hx := Lib.hid (Hx.out.keep HB6)
              replace Hy := Lib.hid (Hy.out.keep HB6)
              replace Hz := Lib.hid (Hz.out.keep HB6)
              replace HW := Lib.hid (HW.out.trans (HB6.mono HW.out.size))
              clear hb HB6
              have ka0 := Ha.out.c0
              have ka1 := Ha.out.c1
              have ka2 := Ha.out.c2
              have ka3 := Ha.out.c3
              have kb0 := Hb.out.c0
              have kb1 := Hb.out.c1
              have kb2 := Hb.out.c2
              have kb3 := Hb.out.c3
              have kf0 := Hf.out.c0
              have kf1 := Hf.out.c1
              have kg0 := Hg.out.c0
              have kg1 := Hg.out.c1
              have kx0 := Hx.out.c0
              have kx1 := Hx.out.c1
              have kx2 := Hx.out.c2
              have kx3 := Hx.out.c3
              have ky0 := Hy.out.c0
              have ky1 := Hy.out.c1
              have kz0 := Hz.out.c0
              have kz1 := Hz.out.c1
              have kz2 := Hz.out.c2
              have kz3 := Hz.out.c3
              have kq0 := Hq.out.c0
              have kq1 := Hq.out.c1
              simp only at ka0 ka1 ka2 ka3 kb0 kb1 kb2 kb3 kf0 kf1 kg0 kg1 kx0 kx1 kx2 kx3 ky0 ky1 kz0 kz1 kz2 kz3 kq0 kq1
              by_cases hz_ze : ze = 0
              · subst hz_ze
                by_cases hz_qe : qe = 0
                · subst hz_qe
                  have hg := HV5.out (by first | rfl | trivial) (by first | rfl | trivial)
                  rw [hg] at HV3
                  go_wp2_with fail
                  refine (HV3.out _).mono ?_
                  rintro e w7 ⟨rfl, hb⟩
                  clear ka0 ka1 ka2 ka3 kb0 kb1 kb2 kb3 kf0 kf1 kg0 kg1 kx0 kx1 kx2 kx3 ky0 ky1 kz0 kz1 kz2 kz3 kq0 kq1
                  have HB7 := hb
                  replace Ha := Lib.hid (Ha.out.keep HB7)
                  replace Hb := Lib.hid (Hb.out.keep HB7)
                  replace Hf := Lib.hid (Hf.out.keep HB7)
                  replace Hg := Lib.hid (Hg.out.keep HB7)
                  replace Hx := Lib.hid (Hx.out.keep HB7)
                  replace Hy := Lib.hid (Hy.out.keep HB7)
                  replace Hz := Lib.hid (Hz.out.keep HB7)
                  replace Hq := Lib.hid (Hq.out.keep HB7)
                  replace HW := Lib.hid (HW.out.trans (HB7.mono HW.out.size))
                  clear hb HB7
                  have ka0 := Ha.out.c0
                  have ka1 := Ha.out.c1
                  have ka2 := Ha.out.c2
                  have ka3 := Ha.out.c3
                  have kb0 := Hb.out.c0
                  have kb1 := Hb.out.c1
                  have kb2 := Hb.out.c2
                  have kb3 := Hb.out.c3
                  have kf0 := Hf.out.c0
                  have kf1 := Hf.out.c1
                  have kg0 := Hg.out.c0
                  have kg1 := Hg.out.c1
                  have kx0 := Hx.out.c0
                  have kx1 := Hx.out.c1
                  have kx2 := Hx.out.c2
                  have kx3 := Hx.out.c3
                  have ky0 := Hy.out.c0
                  have ky1 := Hy.out.c1
                  have kz0 := Hz.out.c0
                  have kz1 := Hz.out.c1
                  have kz2 := Hz.out.c2
                  have kz3 := Hz.out.c3
                  have kq0 := Hq.out.c0
                  have kq1 := Hq.out.c1
                  simp only at ka0 ka1 ka2 ka3 kb0 kb1 kb2 kb3 kf0 kf1 kg0 kg1 kx0 kx1 kx2 kx3 ky0 ky1 kz0 kz1 kz2 kz3 kq0 kq1
                  go_wp2
                  go_ret
                  exact ⟨rfl, HW.out⟩
                · have hd_qe : decide (qe = 0) = false := by simp [hz_qe]
                  go_wp2
                  go_ret
                  exact ⟨rfl, HW.out⟩
              · have hd_ze : decide (ze = 0) = false := by simp [hz_ze]
                go_wp2
                go_ret
                exact ⟨rfl, HW.out⟩
          · have hd_xe : decide (xe = 0) = false := by simp [hz_xe]
            go_wp2_with fail
            refine (HV1.out _).mono ?_
            rintro e w5 ⟨rfl, hb⟩
            clear ka0 ka1 ka2 ka3 kb0 kb1 kb2 kb3 kf0 kf1 kg0 kg1 kx0 kx1 kx2 kx3 ky0 ky1
            have HB5 := hb.alloc hb.size (.cells #[.int .i64 z1, .int .i64 z2, .int .i64 z3, .int .i64 z4] 25)
            have Hz := Lib.hid (al_new w5 z1 z2 z3 z4)
            replace Ha := Lib.hid (Ha.out.keep HB5)
            replace Hb := Lib.hid (Hb.out.keep HB5)
            replace Hf := Lib.hid (Hf.out.keep HB5)
            replace Hg := Lib.hid (Hg.out.keep HB5)
            replace Hx := Lib.hid (Hx.out.keep HB5)
            replace Hy := Lib.hid (Hy.out.keep HB5)
            replace HW := Lib.hid (HW.out.trans (HB5.mono HW.out.size))
            clear hb HB5
            have ka0 := Ha.out.c0
            have ka1 := Ha.out.c1
            have ka2 := Ha.out.c2
            have ka3 := Ha.out.c3
            have kb0 := Hb.out.c0
            have kb1 := Hb.out.c1
            have kb2 := Hb.out.c2
            have kb3 := Hb.out.c3
            have kf0 := Hf.out.c0
            have kf1 := Hf.out.c1
            have kg0 := Hg.out.c0
            have kg1 := Hg.out.c1
            have kx0 := Hx.out.c0
            have kx1 := Hx.out.c1
            have kx2 := Hx.out.c2
            have kx3 := Hx.out.c3
            have ky0 := Hy.out.c0
            have ky1 := Hy.out.c1
            have kz0 := Hz.out.c0
            have kz1 := Hz.out.c1
            have kz2 := Hz.out.c2
            have kz3 := Hz.out.c3
            simp only at ka0 ka1 ka2 ka3 kb0 kb1 kb2 kb3 kf0 kf1 kg0 kg1 kx0 kx1 kx2 kx3 ky0 ky1 kz0 kz1 kz2 kz3
            go_wp2_with fail
            refine (HV2.out _).mono ?_
            rintro e w6 ⟨rfl, hb⟩
            clear ka0 ka1 ka2 ka3 kb0 kb1 kb2 kb3 kf0 kf1 kg0 kg1 kx0 kx1 kx2 kx3 ky0 ky1 kz0 kz1 kz2 kz3
            have HB6 := hb.alloc hb.size (.cells #[.int .i64 q1, .int .i64 q2] 23)
            have Hq := Lib.hid (frb_new w6 q1 q2)
            replace Ha := Lib.hid (Ha.out.keep HB6)
            replace Hb := Lib.hid (Hb.out.keep HB6)
            replace Hf := Lib.hid (Hf.out.keep HB6)
            replace Hg := Lib.hid (Hg.out.keep HB6)
            replace Hx := Lib.hid (Hx.out.keep HB6)
            replace Hy := Lib.hid (Hy.out.keep HB6)
            replace Hz := Lib.hid (Hz.out.keep HB6)
            replace HW := Lib.hid (HW.out.trans (HB6.mono HW.out.size))
            clear hb HB6
            have ka0 := Ha.out.c0
            have ka1 := Ha.out.c1
            have ka2 := Ha.out.c2
            have ka3 := Ha.out.c3
            have kb0 := Hb.out.c0
            have kb1 := Hb.out.c1
            have kb2 := Hb.out.c2
            have kb3 := Hb.out.c3
            have kf0 := Hf.out.c0
            have kf1 := Hf.out.c1
            have kg0 := Hg.out.c0
            have kg1 := Hg.out.c1
            have kx0 := Hx.out.c0
            have kx1 := Hx.out.c1
            have kx2 := Hx.out.c2
            have kx3 := Hx.out.c3
            have ky0 := Hy.out.c0
            have ky1 := Hy.out.c1
            have kz0 := Hz.out.c0
            have kz1 := Hz.out.c1
            have kz2 := Hz.out.c2
            have kz3 := Hz.out.c3
            have kq0 := Hq.out.c0
            have kq1 := Hq.out.c1
            simp only at ka0 ka1 ka2 ka3 kb0 kb1 kb2 kb3 kf0 kf1 kg0 kg1 kx0 kx1 kx2 kx3 ky0 ky1 kz0 kz1 kz2 kz3 kq0 kq1
            by_cases hz_ze : ze = 0
            · subst hz_ze
              by_cases hz_qe : qe = 0
              · subst hz_qe
                have hg := HV5.out (by first | rfl | trivial) (by first | rfl | trivial)
                rw [hg] at HV3
                go_wp2_with fail
                refine (HV3.out _).mono ?_
                rintro e w7 ⟨rfl, hb⟩
                clear ka0 ka1 ka2 ka3 kb0 kb1 kb2 kb3 kf0 kf1 kg0 kg1 kx0 kx1 kx2 kx3 ky0 ky1 kz0 kz1 kz2 kz3 kq0 kq1
                have HB7 := hb
                replace Ha := Lib.hid (Ha.out.keep HB7)
                replace Hb := Lib.hid (Hb.out.keep HB7)
                replace Hf := Lib.hid (Hf.out.keep HB7)
                replace Hg := Lib.hid (Hg.out.keep HB7)
                replace Hx := Lib.hid (Hx.out.keep HB7)
                replace Hy := Lib.hid (Hy.out.keep HB7)
                replace Hz := Lib.hid (Hz.out.keep HB7)
                replace Hq := Lib.hid (Hq.out.keep HB7)
                replace HW := Lib.hid (HW.out.trans (HB7.mono HW.out.size))
                clear hb HB7
                have ka0 := Ha.out.c0
                have ka1 := Ha.out.c1
                have ka2 := Ha.out.c2
                have ka3 := Ha.out.c3
                have kb0 := Hb.out.c0
                have kb1 := Hb.out.c1
                have kb2 := Hb.out.c2
                have kb3 := Hb.out.c3
                have kf0 := Hf.out.c0
                have kf1 := Hf.out.c1
                have kg0 := Hg.out.c0
                have kg1 := Hg.out.c1
                have kx0 := Hx.out.c0
                have kx1 := Hx.out.c1
                have kx2 := Hx.out.c2
                have kx3 := Hx.out.c3
                have ky0 := Hy.out.c0
                have ky1 := Hy.out.c1
                have kz0 := Hz.out.c0
                have kz1 := Hz.out.c1
                have kz2 := Hz.out.c2
                have kz3 := Hz.out.c3
                have kq0 := Hq.out.c0
                have kq1 := Hq.out.c1
                simp only at ka0 ka1 ka2 ka3 kb0 kb1 kb2 kb3 kf0 kf1 kg0 kg1 kx0 kx1 kx2 kx3 ky0 ky1 kz0 kz1 kz2 kz3 kq0 kq1
                go_wp2
                go_ret
                exact ⟨rfl, HW.out⟩
              · have hd_qe : decide (qe = 0) = false := by simp [hz_qe]
                go_wp2
                go_ret
                exact ⟨rfl, HW.out⟩
            · have hd_ze : decide (ze = 0) = false := by simp [hz_ze]
              go_wp2
              go_ret
              exact ⟨rfl, HW.out⟩
end Go.Proofs.Ytbjmibaepccbeaa
