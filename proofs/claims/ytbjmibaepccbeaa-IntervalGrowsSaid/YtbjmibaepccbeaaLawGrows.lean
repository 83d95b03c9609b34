/- If the operands are parts of others, the result is a part of theirs: the law. -/
import Derived.Test.YtbjmibaepccbeaaIvE
import Derived.Test.YtbjmibaepccbeaaIvW
import Derived.Test.YtbjmibaepccbeaaBoxes
set_option linter.unusedSimpArgs false
set_option linter.unusedVariables false
namespace Go.Proofs.Ytbjmibaepccbeaa
open Go.RowKit
open Iv

theorem boxes_grows (w : World) (a1 a2 a3 a4 b1 b2 b3 b4 c1 c2 c3 c4 d1 d2 d3 d4 : Int) : AlB ((((w.alloc (.cells #[.int .i64 a1, .int .i64 a2, .int .i64 a3, .int .i64 a4] 25)).alloc (.cells #[.int .i64 b1, .int .i64 b2, .int .i64 b3, .int .i64 b4] 25)).alloc (.cells #[.int .i64 c1, .int .i64 c2, .int .i64 c3, .int .i64 c4] 25)).alloc (.cells #[.int .i64 d1, .int .i64 d2, .int .i64 d3, .int .i64 d4] 25)) (w.heap.size) ((a1, a2), (a3, a4)) ∧ AlB ((((w.alloc (.cells #[.int .i64 a1, .int .i64 a2, .int .i64 a3, .int .i64 a4] 25)).alloc (.cells #[.int .i64 b1, .int .i64 b2, .int .i64 b3, .int .i64 b4] 25)).alloc (.cells #[.int .i64 c1, .int .i64 c2, .int .i64 c3, .int .i64 c4] 25)).alloc (.cells #[.int .i64 d1, .int .i64 d2, .int .i64 d3, .int .i64 d4] 25)) (w.heap.size + 1) ((b1, b2), (b3, b4)) ∧ AlB ((((w.alloc (.cells #[.int .i64 a1, .int .i64 a2, .int .i64 a3, .int .i64 a4] 25)).alloc (.cells #[.int .i64 b1, .int .i64 b2, .int .i64 b3, .int .i64 b4] 25)).alloc (.cells #[.int .i64 c1, .int .i64 c2, .int .i64 c3, .int .i64 c4] 25)).alloc (.cells #[.int .i64 d1, .int .i64 d2, .int .i64 d3, .int .i64 d4] 25)) (w.heap.size + 1 + 1) ((c1, c2), (c3, c4)) ∧ AlB ((((w.alloc (.cells #[.int .i64 a1, .int .i64 a2, .int .i64 a3, .int .i64 a4] 25)).alloc (.cells #[.int .i64 b1, .int .i64 b2, .int .i64 b3, .int .i64 b4] 25)).alloc (.cells #[.int .i64 c1, .int .i64 c2, .int .i64 c3, .int .i64 c4] 25)).alloc (.cells #[.int .i64 d1, .int .i64 d2, .int .i64 d3, .int .i64 d4] 25)) (w.heap.size + 1 + 1 + 1) ((d1, d2), (d3, d4)) :=
  ⟨⟨by simp [go_sem], by simp [go_sem], by simp [go_sem], by simp [go_sem], by simp; try omega, fun o => by simp [go_sem]⟩, ⟨by simp [go_sem], by simp [go_sem], by simp [go_sem], by simp [go_sem], by simp; try omega, fun o => by simp [go_sem]⟩, ⟨by simp [go_sem], by simp [go_sem], by simp [go_sem], by simp [go_sem], by simp; try omega, fun o => by simp [go_sem]⟩, ⟨by simp [go_sem], by simp [go_sem], by simp [go_sem], by simp [go_sem], by simp; try omega, fun o => by simp [go_sem]⟩⟩
set_option maxHeartbeats 16000000 in
set_option maxRecDepth 100000 in
theorem grows_law {a : V} {b : V} {c : V} {d : V} (ha : WfV a) (hb : WfV b) (hc : WfV c) (hd : WfV d) (w : World) :
    Calls Try.prog 9 #[(.agg #[.int .i64 (a).1.1, .int .i64 (a).1.2, .int .i64 (a).2.1, .int .i64 (a).2.2]), (.agg #[.int .i64 (b).1.1, .int .i64 (b).1.2, .int .i64 (b).2.1, .int .i64 (b).2.2]), (.agg #[.int .i64 (c).1.1, .int .i64 (c).1.2, .int .i64 (c).2.1, .int .i64 (c).2.2]), (.agg #[.int .i64 (d).1.1, .int .i64 (d).1.2, .int .i64 (d).2.1, .int .i64 (d).2.2])] w fun e w' => e = .returned (.bool true) ∧ Below w.heap.size w w' := by
  have HAW := Lib.hid (fun w => awake_any w)
  have HI1 := Lib.hid (iinside_any a c ha hc)
  have HI2 := Lib.hid (iinside_any b d hb hd)
  have HD1 := Lib.hid (fun op (h : op < 5) w => do_any op h a b ha hb w)
  have HD2 := Lib.hid (fun op (h : op < 5) w => do_any op h c d hc hd w)
  have HIN := Lib.hid (fun op (h : op < 5) W => iinside_any (doV op a b).1 (doV op c d).1 (do_wf op h ha hb) (do_wf op h hc hd) W)
  have HG := Lib.hid (fun (h1 : insV a c = true) (h2 : insV b d = true) op (h : op < 5) (h3 : (doV op a b).2 = 0) (h4 : (doV op c d).2 = 0) => do_grows h h1 h2 h3 h4)
  have HX1 := Lib.hid (iwidth_any a ha)
  have HX2 := Lib.hid (iwidth_any c hc)
  have HCM := Lib.hid (fun W => rcmF_any (widthV a).1 (widthV c).1 (width_wf ha) (width_wf hc) W)
  have HWG := Lib.hid (fun (h1 : insV a c = true) (h2 : (widthV a).2 = 0) (h3 : (widthV c).2 = 0) => width_grows h1 h2 h3)
  clear ha hb hc hd
  obtain ⟨⟨a1, a2⟩, ⟨a3, a4⟩⟩ := a
  obtain ⟨⟨b1, b2⟩, ⟨b3, b4⟩⟩ := b
  obtain ⟨⟨c1, c2⟩, ⟨c3, c4⟩⟩ := c
  obtain ⟨⟨d1, d2⟩, ⟨d3, d4⟩⟩ := d
  obtain ⟨i1, e_i1⟩ : ∃ x, insV ((a1, a2), (a3, a4)) ((c1, c2), (c3, c4)) = x := ⟨_, rfl⟩
  rw [e_i1] at HI1 HG HWG
  clear e_i1
  obtain ⟨i2, e_i2⟩ : ∃ x, insV ((b1, b2), (b3, b4)) ((d1, d2), (d3, d4)) = x := ⟨_, rfl⟩
  rw [e_i2] at HI2 HG
  clear e_i2
  have Ha := Lib.hid (boxes_grows w a1 a2 a3 a4 b1 b2 b3 b4 c1 c2 c3 c4 d1 d2 d3 d4).1
  have Hb := Lib.hid (boxes_grows w a1 a2 a3 a4 b1 b2 b3 b4 c1 c2 c3 c4 d1 d2 d3 d4).2.1
  have Hc := Lib.hid (boxes_grows w a1 a2 a3 a4 b1 b2 b3 b4 c1 c2 c3 c4 d1 d2 d3 d4).2.2.1
  have Hd := Lib.hid (boxes_grows w a1 a2 a3 a4 b1 b2 b3 b4 c1 c2 c3 c4 d1 d2 d3 d4).2.2.2
  simp only at HI1 HI2 HD1 HD2 HIN HG HX1 HX2 HCM HWG
  go_enter Try.func9, Try.ntmps9
  go_wp2_with fail
  refine (HAW.out _).mono ?_
  rintro e w0 ⟨rfl, hb⟩
  replace Ha := Lib.hid (Ha.out.keep hb)
  replace Hb := Lib.hid (Hb.out.keep hb)
  replace Hc := Lib.hid (Hc.out.keep hb)
  replace Hd := Lib.hid (Hd.out.keep hb)
  have HW := Lib.hid (show Below w.heap.size w w0 from Below.trans (by repeat (first | with_reducible exact Below.refl _ _ | (with_reducible refine Below.setCell ?_ (by first | exact Nat.le_refl _ | omega | (simp; done) | (simp; omega)) _) | (with_reducible refine Below.alloc ?_ (by first | exact Nat.le_refl _ | omega | (simp; done) | (simp; omega)) _) | with_reducible refine Below.drew ?_ | with_reducible refine bel_drewN ?_ _ | (with_reducible refine bel_by (by with_reducible assumption) (by first | exact Nat.le_refl _ | omega | (simp; done) | (simp; omega)) ?_))) (hb.mono (by simp; omega)))
  clear hb HAW
  have ka0 := Ha.out.c0
  have ka1 := Ha.out.c1
  have ka2 := Ha.out.c2
  have ka3 := Ha.out.c3
  have kb0 := Hb.out.c0
  have kb1 := Hb.out.c1
  have kb2 := Hb.out.c2
  have kb3 := Hb.out.c3
  have kc0 := Hc.out.c0
  have kc1 := Hc.out.c1
  have kc2 := Hc.out.c2
  have kc3 := Hc.out.c3
  have kd0 := Hd.out.c0
  have kd1 := Hd.out.c1
  have kd2 := Hd.out.c2
  have kd3 := Hd.out.c3
  simp only at ka0 ka1 ka2 ka3 kb0 kb1 kb2 kb3 kc0 kc1 kc2 kc3 kd0 kd1 kd2 kd3
  go_wp2_with fail
  refine (HI1.out _).mono ?_
  rintro e w1 ⟨rfl, hb⟩
  clear ka0 ka1 ka2 ka3 kb0 kb1 kb2 kb3 kc0 kc1 kc2 kc3 kd0 kd1 kd2 kd3
  have HB1 := hb
  replace Ha := Lib.hid (Ha.out.keep HB1)
  replace Hb := Lib.hid (Hb.out.keep HB1)
  replace Hc := Lib.hid (Hc.out.keep HB1)
  replace Hd := Lib.hid (Hd.out.keep HB1)
  replace HW := Lib.hid (HW.out.trans (HB1.mono HW.out.size))
  clear hb HB1
  have ka0 := Ha.out.c0
  have ka1 := Ha.out.c1
  have ka2 := Ha.out.c2
  have ka3 := Ha.out.c3
  have kb0 := Hb.out.c0
  have kb1 := Hb.out.c1
  have kb2 := Hb.out.c2
  have kb3 := Hb.out.c3
  have kc0 := Hc.out.c0
  have kc1 := Hc.out.c1
  have kc2 := Hc.out.c2
  have kc3 := Hc.out.c3
  have kd0 := Hd.out.c0
  have kd1 := Hd.out.c1
  have kd2 := Hd.out.c2
  have kd3 := Hd.out.c3
  simp only at ka0 ka1 ka2 ka3 kb0 kb1 kb2 kb3 kc0 kc1 kc2 kc3 kd0 kd1 kd2 kd3
  cases i1 with
  | false =>
    go_wp2
    go_ret
    exact ⟨rfl, HW.out⟩
  | true =>
    go_wp2_with fail
    refine (HI2.out _).mono ?_
    rintro e w2 ⟨rfl, hb⟩
    clear ka0 ka1 ka2 ka3 kb0 kb1 kb2 kb3 kc0 kc1 kc2 kc3 kd0 kd1 kd2 kd3
    have HB2 := hb
    replace Ha := Lib.hid (Ha.out.keep HB2)
    replace Hb := Lib.hid (Hb.out.keep HB2)
    replace Hc := Lib.hid (Hc.out.keep HB2)
    replace Hd := Lib.hid (Hd.out.keep HB2)
    replace HW := Lib.hid (HW.out.trans (HB2.mono HW.out.size))
    clear hb HB2
    have ka0 := Ha.out.c0
    have ka1 := Ha.out.c1
    have ka2 := Ha.out.c2
    have ka3 := Ha.out.c3
    have kb0 := Hb.out.c0
    have kb1 := Hb.out.c1
    have kb2 := Hb.out.c2
    have kb3 := Hb.out.c3
    have kc0 := Hc.out.c0
    have kc1 := Hc.out.c1
    have kc2 := Hc.out.c2
    have kc3 := Hc.out.c3
    have kd0 := Hd.out.c0
    have kd1 := Hd.out.c1
    have kd2 := Hd.out.c2
    have kd3 := Hd.out.c3
    simp only at ka0 ka1 ka2 ka3 kb0 kb1 kb2 kb3 kc0 kc1 kc2 kc3 kd0 kd1 kd2 kd3
    cases i2 with
    | false =>
      go_wp2
      go_ret
      exact ⟨rfl, HW.out⟩
    | true =>
      go_wp2_with fail
      clear ka0 ka1 ka2 ka3 kb0 kb1 kb2 kb3 kc0 kc1 kc2 kc3 kd0 kd1 kd2 kd3
      go_loopw [9] (fun s9 wr => ∃ (k : Nat), k ≤ 5 ∧ s9 = .int .i64 (k : Int) ∧ Hid (Below w.heap.size w wr) ∧ Hid (AlB wr (w.heap.size) ((a1, a2), (a3, a4))) ∧ Hid (AlB wr (w.heap.size + 1) ((b1, b2), (b3, b4))) ∧ Hid (AlB wr (w.heap.size + 1 + 1) ((c1, c2), (c3, c4))) ∧ Hid (AlB wr (w.heap.size + 1 + 1 + 1) ((d1, d2), (d3, d4)))) (fun s9 _ => (5 - (intOf s9)).toNat)
      case atStart => exact ⟨0, Nat.zero_le _, rfl, HW, Ha, Hb, Hc, Hd⟩
      case round =>
        clear HW Ha Hb Hc Hd
        obtain ⟨k, hk, rfl, HW, Ha, Hb, Hc, Hd⟩ := hrel
        by_cases hlt : k < 5
        · have l1 : (k : Int) ≤ 4 := by omega
          have ka0 := Ha.out.c0
          have ka1 := Ha.out.c1
          have ka2 := Ha.out.c2
          have ka3 := Ha.out.c3
          have kb0 := Hb.out.c0
          have kb1 := Hb.out.c1
          have kb2 := Hb.out.c2
          have kb3 := Hb.out.c3
          have kc0 := Hc.out.c0
          have kc1 := Hc.out.c1
          have kc2 := Hc.out.c2
          have kc3 := Hc.out.c3
          have kd0 := Hd.out.c0
          have kd1 := Hd.out.c1
          have kd2 := Hd.out.c2
          have kd3 := Hd.out.c3
          simp only at ka0 ka1 ka2 ka3 kb0 kb1 kb2 kb3 kc0 kc1 kc2 kc3 kd0 kd1 kd2 kd3
          have HD1k := Lib.hid (HD1.out k hlt)
          have HD2k := Lib.hid (HD2.out k hlt)
          have HINk := Lib.hid (HIN.out k hlt)
          have HGk := Lib.hid (HG.out (by first | rfl | trivial) (by first | rfl | trivial) k hlt)
          clear HD1 HD2 HIN HG HX1 HX2 HCM HWG
          obtain ⟨X_, e_X_⟩ : ∃ x, doV k ((a1, a2), (a3, a4)) ((b1, b2), (b3, b4)) = x := ⟨_, rfl⟩
          rw [e_X_] at HD1k HINk HGk
          clear e_X_
          obtain ⟨⟨⟨x1, x2⟩, ⟨x3, x4⟩⟩, xe⟩ := X_
          simp only at HD1k HINk HGk
          obtain ⟨Y_, e_Y_⟩ : ∃ x, doV k ((c1, c2), (c3, c4)) ((d1, d2), (d3, d4)) = x := ⟨_, rfl⟩
          rw [e_Y_] at HD2k HINk HGk
          clear e_Y_
          obtain ⟨⟨⟨y1, y2⟩, ⟨y3, y4⟩⟩, ye⟩ := Y_
          simp only at HD2k HINk HGk
          go_wp2_with fail
          refine (HD1k.out _).mono ?_
          rintro e w3 ⟨rfl, hb⟩
          clear ka0 ka1 ka2 ka3 kb0 kb1 kb2 kb3 kc0 kc1 kc2 kc3 kd0 kd1 kd2 kd3
          have HB3 := hb.alloc hb.size (.cells #[.int .i64 x1, .int .i64 x2, .int .i64 x3, .int .i64 x4] 25)
          have Hx := Lib.hid (al_new w3 x1 x2 x3 x4)
          replace Ha := Lib.hid (Ha.out.keep HB3)
          replace Hb := Lib.hid (Hb.out.keep HB3)
          replace Hc := Lib.hid (Hc.out.keep HB3)
          replace Hd := Lib.hid (Hd.out.keep HB3)
          replace HW := Lib.hid (HW.out.trans (HB3.mono HW.out.size))
          clear hb HB3
          have ka0 := Ha.out.c0
          have ka1 := Ha.out.c1
          have ka2 := Ha.out.c2
          have ka3 := Ha.out.c3
          have kb0 := Hb.out.c0
          have kb1 := Hb.out.c1
          have kb2 := Hb.out.c2
          have kb3 := Hb.out.c3
          have kc0 := Hc.out.c0
          have kc1 := Hc.out.c1
          have kc2 := Hc.out.c2
          have kc3 := Hc.out.c3
          have kd0 := Hd.out.c0
          have kd1 := Hd.out.c1
          have kd2 := Hd.out.c2
          have kd3 := Hd.out.c3
          have kx0 := Hx.out.c0
          have kx1 := Hx.out.c1
          have kx2 := Hx.out.c2
          have kx3 := Hx.out.c3
          simp only at ka0 ka1 ka2 ka3 kb0 kb1 kb2 kb3 kc0 kc1 kc2 kc3 kd0 kd1 kd2 kd3 kx0 kx1 kx2 kx3
          go_wp2_with fail
          refine (HD2k.out _).mono ?_
          rintro e w4 ⟨rfl, hb⟩
          clear ka0 ka1 ka2 ka3 kb0 kb1 kb2 kb3 kc0 kc1 kc2 kc3 kd0 kd1 kd2 kd3 kx0 kx1 kx2 kx3
          have HB4 := hb.alloc hb.size (.cells #[.int .i64 y1, .int .i64 y2, .int .i64 y3, .int .i64 y4] 25)
          have Hy := Lib.hid (al_new w4 y1 y2 y3 y4)
          replace Ha := Lib.hid (Ha.out.keep HB4)
          replace Hb := Lib.hid (Hb.out.keep HB4)
          replace Hc := Lib.hid (Hc.out.keep HB4)
          replace Hd := Lib.hid (Hd.out.keep HB4)
          replace Hx := Lib.hid (Hx.out.keep HB4)
          replace HW := Lib.hid (HW.out.trans (HB4.mono HW.out.size))
          clear hb HB4
          have ka0 := Ha.out.c0
          have ka1 := Ha.out.c1
          have ka2 := Ha.out.c2
          have ka3 := Ha.out.c3
          have kb0 := Hb.out.c0
          have kb1 := Hb.out.c1
          have kb2 := Hb.out.c2
          have kb3 := Hb.out.c3
          have kc0 := Hc.out.c0
          have kc1 := Hc.out.c1
          have kc2 := Hc.out.c2
          have kc3 := Hc.out.c3
          have kd0 := Hd.out.c0
          have kd1 := Hd.out.c1
          have kd2 := Hd.out.c2
          have kd3 := Hd.out.c3
          have kx0 := Hx.out.c0
          have kx1 := Hx.out.c1
          have kx2 := Hx.out.c2
          have kx3 := Hx.out.c3
          have ky0 := Hy.out.c0
          have ky1 := Hy.out.c1
          have ky2 := Hy.out.c2
          have ky3 := Hy.out.c3
          simp only at ka0 ka1 ka2 ka3 kb0 kb1 kb2 kb3 kc0 kc1 kc2 kc3 kd0 kd1 kd2 kd3 kx0 kx1 kx2 kx3 ky0 ky1 ky2 ky3
          by_cases hz_xe : xe = 0
          · subst hz_xe
            by_cases hz_ye : ye = 0
            · subst hz_ye
              have hg := HGk.out (by first | rfl | trivial) (by first | rfl | trivial)
              rw [hg] at HINk
              go_wp2_with fail
              refine (HINk.out _).mono ?_
              rintro e w5 ⟨rfl, hb⟩
              clear ka0 ka1 ka2 ka3 kb0 kb1 kb2 kb3 kc0 kc1 kc2 kc3 kd0 kd1 kd2 kd3 kx0 kx1 kx2 kx3 ky0 ky1 ky2 ky3
              have HB5 := hb
              replace Ha := Lib.hid (Ha.out.keep HB5)
              replace Hb := Lib.hid (Hb.out.keep HB5)
              replace Hc := Lib.hid (Hc.out.keep HB5)
              replace Hd := Lib.hid (Hd.out.keep HB5)
              replace Hx := Lib.hid (Hx.out.keep HB5)
              replace Hy := Lib.hid (Hy.out.keep HB5)
              replace HW := Lib.hid (HW.out.trans (HB5.mono HW.out.size))
              clear hb HB5
              have ka0 := Ha.out.c0
              have ka1 := Ha.out.c1
              have ka2 := Ha.out.c2
              have ka3 := Ha.out.c3
              have kb0 := Hb.out.c0
              have kb1 := Hb.out.c1
              have kb2 := Hb.out.c2
              have kb3 := Hb.out.c3
              have kc0 := Hc.out.c0
              have kc1 := Hc.out.c1
              have kc2 := Hc.out.c2
              have kc3 := Hc.out.c3
              have kd0 := Hd.out.c0
              have kd1 := Hd.out.c1
              have kd2 := Hd.out.c2
              have kd3 := Hd.out.c3
              have kx0 := Hx.out.c0
              have kx1 := Hx.out.c1
              have kx2 := Hx.out.c2
              have kx3 := Hx.out.c3
              have ky0 := Hy.out.c0
              have ky1 := Hy.out.c1
              have ky2 := Hy.out.c2
              have ky3 := Hy.out.c3
              simp only at ka0 ka1 ka2 ka3 kb0 kb1 kb2 kb3 kc0 kc1 kc2 kc3 kd0 kd1 kd2 kd3 kx0 kx1 kx2 kx3 ky0 ky1 ky2 ky3
              go_wp2
              refine ⟨⟨k + 1, by omega, rfl, HW, Ha, Hb, Hc, Hd⟩, ?_⟩
              show (5 - ((k : Int) + 1)).toNat < (5 - (k : Int)).toNat
              omega
            · have hd_ye : decide (ye = 0) = false := by simp [hz_ye]
              go_wp2
              refine ⟨⟨k + 1, by omega, rfl, HW, Ha, Hb, Hc, Hd⟩, ?_⟩
              show (5 - ((k : Int) + 1)).toNat < (5 - (k : Int)).toNat
              omega
          · have hd_xe : decide (xe = 0) = false := by simp [hz_xe]
            go_wp2
            refine ⟨⟨k + 1, by omega, rfl, HW, Ha, Hb, Hc, Hd⟩, ?_⟩
            show (5 - ((k : Int) + 1)).toNat < (5 - (k : Int)).toNat
            omega
        · obtain rfl : k = 5 := by omega
          have ka0 := Ha.out.c0
          have ka1 := Ha.out.c1
          have ka2 := Ha.out.c2
          have ka3 := Ha.out.c3
          have kb0 := Hb.out.c0
          have kb1 := Hb.out.c1
          have kb2 := Hb.out.c2
          have kb3 := Hb.out.c3
          have kc0 := Hc.out.c0
          have kc1 := Hc.out.c1
          have kc2 := Hc.out.c2
          have kc3 := Hc.out.c3
          have kd0 := Hd.out.c0
          have kd1 := Hd.out.c1
          have kd2 := Hd.out.c2
          have kd3 := Hd.out.c3
          simp only at ka0 ka1 ka2 ka3 kb0 kb1 kb2 kb3 kc0 kc1 kc2 kc3 kd0 kd1 kd2 kd3
          have HWk := Lib.hid (HWG.out (by first | rfl | trivial))
          clear HD1 HD2 HIN HG HWG
          obtain ⟨V_, e_V_⟩ : ∃ x, widthV ((a1, a2), (a3, a4)) = x := ⟨_, rfl⟩
          rw [e_V_] at HX1 HCM HWk
          clear e_V_
          obtain ⟨⟨v1, v2⟩, ve⟩ := V_
          simp only at HX1 HCM HWk
          obtain ⟨U_, e_U_⟩ : ∃ x, widthV ((c1, c2), (c3, c4)) = x := ⟨_, rfl⟩
          rw [e_U_] at HX2 HCM HWk
          clear e_U_
          obtain ⟨⟨u1, u2⟩, ue⟩ := U_
          simp only at HX2 HCM HWk
          obtain ⟨m, e_m⟩ : ∃ x, cmF (v1, v2) (u1, u2) = x := ⟨_, rfl⟩
          rw [e_m] at HCM HWk
          clear e_m
          go_wp2_with fail
          refine (HX1.out _).mono ?_
          rintro e w3 ⟨rfl, hb⟩
          clear ka0 ka1 ka2 ka3 kb0 kb1 kb2 kb3 kc0 kc1 kc2 kc3 kd0 kd1 kd2 kd3
          have HB3 := hb.alloc hb.size (.cells #[.int .i64 v1, .int .i64 v2] 23)
          have Hv := Lib.hid (frb_new w3 v1 v2)
          replace Ha := Lib.hid (Ha.out.keep HB3)
          replace Hb := Lib.hid (Hb.out.keep HB3)
          replace Hc := Lib.hid (Hc.out.keep HB3)
          replace Hd := Lib.hid (Hd.out.keep HB3)
          replace HW := Lib.hid (HW.out.trans (HB3.mono HW.out.size))
          clear hb HB3
          have ka0 := Ha.out.c0
          have ka1 := Ha.out.c1
          have ka2 := Ha.out.c2
          have ka3 := Ha.out.c3
          have kb0 := Hb.out.c0
          have kb1 := Hb.out.c1
          have kb2 := Hb.out.c2
          have kb3 := Hb.out.c3
          have kc0 := Hc.out.c0
          have kc1 := Hc.out.c1
          have kc2 := Hc.out.c2
          have kc3 := Hc.out.c3
          have kd0 := Hd.out.c0
          have kd1 := Hd.out.c1
          have kd2 := Hd.out.c2
          have kd3 := Hd.out.c3
          have kv0 := Hv.out.c0
          have kv1 := Hv.out.c1
          simp only at ka0 ka1 ka2 ka3 kb0 kb1 kb2 kb3 kc0 kc1 kc2 kc3 kd0 kd1 kd2 kd3 kv0 kv1
          go_wp2_with fail
          refine (HX2.out _).mono ?_
          rintro e w4 ⟨rfl, hb⟩
          clear ka0 ka1 ka2 ka3 kb0 kb1 kb2 kb3 kc0 kc1 kc2 kc3 kd0 kd1 kd2 kd3 kv0 kv1
          have HB4 := hb.alloc hb.size (.cells #[.int .i64 u1, .int .i64 u2] 23)
          have Hu := Lib.hid (frb_new w4 u1 u2)
          replace Ha := Lib.hid (Ha.out.keep HB4)
          replace Hb := Lib.hid (Hb.out.keep HB4)
          replace Hc := Lib.hid (Hc.out.keep HB4)
          replace Hd := Lib.hid (Hd.out.keep HB4)
          replace Hv := Lib.hid (Hv.out.keep HB4)
          replace HW := Lib.hid (HW.out.trans (HB4.mono HW.out.size))
          clear hb HB4
          have ka0 := Ha.out.c0
          have ka1 := Ha.out.c1
          have ka2 := Ha.out.c2
          have ka3 := Ha.out.c3
          have kb0 := Hb.out.c0
          have kb1 := Hb.out.c1
          have kb2 := Hb.out.c2
          have kb3 := Hb.out.c3
          have kc0 := Hc.out.c0
          have kc1 := Hc.out.c1
          have kc2 := Hc.out.c2
          have kc3 := Hc.out.c3
          have kd0 := Hd.out.c0
          have kd1 := Hd.out.c1
          have kd2 := Hd.out.c2
          have kd3 := Hd.out.c3
          have kv0 := Hv.out.c0
          have kv1 := Hv.out.c1
          have ku0 := Hu.out.c0
          have ku1 := Hu.out.c1
          simp only at ka0 ka1 ka2 ka3 kb0 kb1 kb2 kb3 kc0 kc1 kc2 kc3 kd0 kd1 kd2 kd3 kv0 kv1 ku0 ku1
          by_cases hz_ve : ve = 0
          · subst hz_ve
            by_cases hz_ue : ue = 0
            · subst hz_ue
              have hm : m ≤ 0 := HWk.out (by first | rfl | trivial) (by first | rfl | trivial)
              go_wp2_with fail
              refine (HCM.out _).mono ?_
              rintro e w5 ⟨rfl, hb⟩
              clear ka0 ka1 ka2 ka3 kb0 kb1 kb2 kb3 kc0 kc1 kc2 kc3 kd0 kd1 kd2 kd3 kv0 kv1 ku0 ku1
              have HB5 := hb
              replace Ha := Lib.hid (Ha.out.keep HB5)
              replace Hb := Lib.hid (Hb.out.keep HB5)
              replace Hc := Lib.hid (Hc.out.keep HB5)
              replace Hd := Lib.hid (Hd.out.keep HB5)
              replace Hv := Lib.hid (Hv.out.keep HB5)
              replace Hu := Lib.hid (Hu.out.keep HB5)
              replace HW := Lib.hid (HW.out.trans (HB5.mono HW.out.size))
              clear hb HB5
              have ka0 := Ha.out.c0
              have ka1 := Ha.out.c1
              have ka2 := Ha.out.c2
              have ka3 := Ha.out.c3
              have kb0 := Hb.out.c0
              have kb1 := Hb.out.c1
              have kb2 := Hb.out.c2
              have kb3 := Hb.out.c3
              have kc0 := Hc.out.c0
              have kc1 := Hc.out.c1
              have kc2 := Hc.out.c2
              have kc3 := Hc.out.c3
              have kd0 := Hd.out.c0
              have kd1 := Hd.out.c1
              have kd2 := Hd.out.c2
              have kd3 := Hd.out.c3
              have kv0 := Hv.out.c0
              have kv1 := Hv.out.c1
              have ku0 := Hu.out.c0
              have ku1 := Hu.out.c1
              simp only at ka0 ka1 ka2 ka3 kb0 kb1 kb2 kb3 kc0 kc1 kc2 kc3 kd0 kd1 kd2 kd3 kv0 kv1 ku0 ku1
              go_wp2
              go_ret
              exact ⟨rfl, HW.out⟩
            · have hd_ue : decide (ue = 0) = false := by simp [hz_ue]
              go_wp2
              go_ret
              exact ⟨rfl, HW.out⟩
          · have hd_ve : decide (ve = 0) = false := by simp [hz_ve]
            go_wp2
            go_ret
            exact ⟨rfl, HW.out⟩
end Go.Proofs.Ytbjmibaepccbeaa
