/- Hull and Intersect return the specified intervals or errors, and are least and greatest: the law. -/
import Derived.Test.YtbjmibaepccbeaaIvE
import Derived.Test.YtbjmibaepccbeaaIvW
import Derived.Test.YtbjmibaepccbeaaBoxes
set_option linter.unusedSimpArgs false
set_option linter.unusedVariables false
namespace Go.Proofs.Ytbjmibaepccbeaa
open Go.RowKit
open Iv

theorem boxes_lattice (w : World) (a1 a2 a3 a4 b1 b2 b3 b4 c1 c2 c3 c4 : Int) : AlB (((w.alloc (.cells #[.int .i64 a1, .int .i64 a2, .int .i64 a3, .int .i64 a4] 25)).alloc (.cells #[.int .i64 b1, .int .i64 b2, .int .i64 b3, .int .i64 b4] 25)).alloc (.cells #[.int .i64 c1, .int .i64 c2, .int .i64 c3, .int .i64 c4] 25)) (w.heap.size) ((a1, a2), (a3, a4)) ∧ AlB (((w.alloc (.cells #[.int .i64 a1, .int .i64 a2, .int .i64 a3, .int .i64 a4] 25)).alloc (.cells #[.int .i64 b1, .int .i64 b2, .int .i64 b3, .int .i64 b4] 25)).alloc (.cells #[.int .i64 c1, .int .i64 c2, .int .i64 c3, .int .i64 c4] 25)) (w.heap.size + 1) ((b1, b2), (b3, b4)) ∧ AlB (((w.alloc (.cells #[.int .i64 a1, .int .i64 a2, .int .i64 a3, .int .i64 a4] 25)).alloc (.cells #[.int .i64 b1, .int .i64 b2, .int .i64 b3, .int .i64 b4] 25)).alloc (.cells #[.int .i64 c1, .int .i64 c2, .int .i64 c3, .int .i64 c4] 25)) (w.heap.size + 1 + 1) ((c1, c2), (c3, c4)) :=
  ⟨⟨by simp [go_sem], by simp [go_sem], by simp [go_sem], by simp [go_sem], by simp; try omega, fun o => by simp [go_sem]⟩, ⟨by simp [go_sem], by simp [go_sem], by simp [go_sem], by simp [go_sem], by simp; try omega, fun o => by simp [go_sem]⟩, ⟨by simp [go_sem], by simp [go_sem], by simp [go_sem], by simp [go_sem], by simp; try omega, fun o => by simp [go_sem]⟩⟩
set_option maxHeartbeats 16000000 in
set_option maxRecDepth 100000 in
theorem lattice_law {a : V} {b : V} {c : V} (ha : WfV a) (hb : WfV b) (hc : WfV c) (w : World) :
    Calls Try.prog 6 #[(.agg #[.int .i64 (a).1.1, .int .i64 (a).1.2, .int .i64 (a).2.1, .int .i64 (a).2.2]), (.agg #[.int .i64 (b).1.1, .int .i64 (b).1.2, .int .i64 (b).2.1, .int .i64 (b).2.2]), (.agg #[.int .i64 (c).1.1, .int .i64 (c).1.2, .int .i64 (c).2.1, .int .i64 (c).2.2])] w fun e w' => e = .returned (.bool true) ∧ Below w.heap.size w w' := by
  have HAW := Lib.hid (fun w => awake_any w)
  have HH := Lib.hid (ihull_any a b ha hb)
  have HN := Lib.hid (iinter_any a b ha hb)
  have HRH := Lib.hid (rhull_any a b ha hb)
  have HRN := Lib.hid (rinter_any a b ha hb)
  have HVC := Lib.hid (rok_any c hc)
  have H1 := Lib.hid (iinside_any a (hullV a b).1 ha (hull_wf ha hb))
  have H2 := Lib.hid (iinside_any b (hullV a b).1 hb (hull_wf ha hb))
  have H3 := Lib.hid (iinside_any a c ha hc)
  have H4 := Lib.hid (iinside_any b c hb hc)
  have H5 := Lib.hid (iinside_any (hullV a b).1 c (hull_wf ha hb) hc)
  have H6 := Lib.hid (iinside_any c a hc ha)
  have H7 := Lib.hid (iinside_any c b hc hb)
  have H8 := Lib.hid (iinside_any c (interV a b).1 hc (inter_wf ha hb))
  have HT := Lib.hid (fun (h : (hullV a b).2 = 0) => hull_two h)
  have HL := Lib.hid (fun (h : (hullV a b).2 = 0) (h1 : insV a c = true) (h2 : insV b c = true) => hull_least h h1 h2)
  have HA := Lib.hid (fun (h : (hullV a b).2 = 0) (h1 : okV c = true) => inter_all (hull_ok h) h1)
  clear ha hb hc
  obtain ⟨⟨a1, a2⟩, ⟨a3, a4⟩⟩ := a
  obtain ⟨⟨b1, b2⟩, ⟨b3, b4⟩⟩ := b
  obtain ⟨⟨c1, c2⟩, ⟨c3, c4⟩⟩ := c
  obtain ⟨Xx, e_X⟩ : ∃ x, hullV ((a1, a2), (a3, a4)) ((b1, b2), (b3, b4)) = x := ⟨_, rfl⟩
  rw [e_X] at HH HRH H1 H2 H5 HT HL HA
  clear e_X
  obtain ⟨⟨⟨x1, x2⟩, ⟨x3, x4⟩⟩, xe⟩ := Xx
  obtain ⟨Yy, e_Y⟩ : ∃ x, interV ((a1, a2), (a3, a4)) ((b1, b2), (b3, b4)) = x := ⟨_, rfl⟩
  rw [e_Y] at HN HRN H8 HA
  clear e_Y
  obtain ⟨⟨⟨y1, y2⟩, ⟨y3, y4⟩⟩, ye⟩ := Yy
  simp only at HH HRH HN HRN H1 H2 H5 H8 HT HL HA
  obtain ⟨vc, e_vc⟩ : ∃ x, okV ((c1, c2), (c3, c4)) = x := ⟨_, rfl⟩
  rw [e_vc] at HVC HA
  clear e_vc
  obtain ⟨t1, e_t1⟩ : ∃ x, insV ((a1, a2), (a3, a4)) ((x1, x2), (x3, x4)) = x := ⟨_, rfl⟩
  rw [e_t1] at H1 HT
  clear e_t1
  obtain ⟨t2, e_t2⟩ : ∃ x, insV ((b1, b2), (b3, b4)) ((x1, x2), (x3, x4)) = x := ⟨_, rfl⟩
  rw [e_t2] at H2 HT
  clear e_t2
  obtain ⟨i1, e_i1⟩ : ∃ x, insV ((a1, a2), (a3, a4)) ((c1, c2), (c3, c4)) = x := ⟨_, rfl⟩
  rw [e_i1] at H3 HL
  clear e_i1
  obtain ⟨i2, e_i2⟩ : ∃ x, insV ((b1, b2), (b3, b4)) ((c1, c2), (c3, c4)) = x := ⟨_, rfl⟩
  rw [e_i2] at H4 HL
  clear e_i2
  obtain ⟨t3, e_t3⟩ : ∃ x, insV ((x1, x2), (x3, x4)) ((c1, c2), (c3, c4)) = x := ⟨_, rfl⟩
  rw [e_t3] at H5 HL
  clear e_t3
  obtain ⟨j1, e_j1⟩ : ∃ x, insV ((c1, c2), (c3, c4)) ((a1, a2), (a3, a4)) = x := ⟨_, rfl⟩
  rw [e_j1] at H6 HA
  clear e_j1
  obtain ⟨j2, e_j2⟩ : ∃ x, insV ((c1, c2), (c3, c4)) ((b1, b2), (b3, b4)) = x := ⟨_, rfl⟩
  rw [e_j2] at H7 HA
  clear e_j2
  obtain ⟨j3, e_j3⟩ : ∃ x, insV ((c1, c2), (c3, c4)) ((y1, y2), (y3, y4)) = x := ⟨_, rfl⟩
  rw [e_j3] at H8 HA
  clear e_j3
  have Ha := Lib.hid (boxes_lattice w a1 a2 a3 a4 b1 b2 b3 b4 c1 c2 c3 c4).1
  have Hb := Lib.hid (boxes_lattice w a1 a2 a3 a4 b1 b2 b3 b4 c1 c2 c3 c4).2.1
  have Hc := Lib.hid (boxes_lattice w a1 a2 a3 a4 b1 b2 b3 b4 c1 c2 c3 c4).2.2
  go_enter Try.func6, Try.ntmps6
  go_wp2_with fail
  refine (HAW.out _).mono ?_
  rintro e w0 ⟨rfl, hb⟩
  replace Ha := Lib.hid (Ha.out.keep hb)
  replace Hb := Lib.hid (Hb.out.keep hb)
  replace Hc := Lib.hid (Hc.out.keep hb)
  have HW := Lib.hid (show Below w.heap.size w w0 from Below.trans (by repeat (first | with_reducible exact Below.refl _ _ | (with_reducible refine Below.setCell ?_ (by first | exact Nat.le_refl _ | omega | (simp; done) | (simp; omega)) _) | (with_reducible refine Below.alloc ?_ (by first | exact Nat.le_refl _ | omega | (simp; done) | (simp; omega)) _) | with_reducible refine Below.drew ?_ | with_reducible refine bel_drewN ?_ _ | (with_reducible refine bel_by (by with_reducible assumption) (by first | exact Nat.le_refl _ | omega | (simp; done) | (simp; omega)) ?_))) (hb.mono (by simp; omega)))
  clear hb HAW
  have ka0 := Ha.out.c0
  have ka1 := Ha.out.c1
  have ka2 := Ha.out.c2
  have ka3 := Ha.out.c3
  have kb0 := Hb.out.c0
  have kb1 := Hb.out.c1
  have kb2 := Hb.out.c2
  have kb3 := Hb.out.c3
  have kc0 := Hc.out.c0
  have kc1 := Hc.out.c1
  have kc2 := Hc.out.c2
  have kc3 := Hc.out.c3
  simp only at ka0 ka1 ka2 ka3 kb0 kb1 kb2 kb3 kc0 kc1 kc2 kc3
  go_wp2_with fail
  refine (HH.out _).mono ?_
  rintro e w1 ⟨rfl, hb⟩
  clear ka0 ka1 ka2 ka3 kb0 kb1 kb2 kb3 kc0 kc1 kc2 kc3
  have HB1 := hb.alloc hb.size (.cells #[.int .i64 x1, .int .i64 x2, .int .i64 x3, .int .i64 x4] 25)
  have Hx := Lib.hid (al_new w1 x1 x2 x3 x4)
  replace Ha := Lib.hid (Ha.out.keep HB1)
  replace Hb := Lib.hid (Hb.out.keep HB1)
  replace Hc := Lib.hid (Hc.out.keep HB1)
  replace HW := Lib.hid (HW.out.trans (HB1.mono HW.out.size))
  clear hb HB1
  have ka0 := Ha.out.c0
  have ka1 := Ha.out.c1
  have ka2 := Ha.out.c2
  have ka3 := Ha.out.c3
  have kb0 := Hb.out.c0
  have kb1 := Hb.out.c1
  have kb2 := Hb.out.c2
  have kb3 := Hb.out.c3
  have kc0 := Hc.out.c0
  have kc1 := Hc.out.c1
  have kc2 := Hc.out.c2
  have kc3 := Hc.out.c3
  have kx0 := Hx.out.c0
  have kx1 := Hx.out.c1
  have kx2 := Hx.out.c2
  have kx3 := Hx.out.c3
  simp only at ka0 ka1 ka2 ka3 kb0 kb1 kb2 kb3 kc0 kc1 kc2 kc3 kx0 kx1 kx2 kx3
  go_wp2_with fail
  refine (HN.out _).mono ?_
  rintro e w2 ⟨rfl, hb⟩
  clear ka0 ka1 ka2 ka3 kb0 kb1 kb2 kb3 kc0 kc1 kc2 kc3 kx0 kx1 kx2 kx3
  have HB2 := hb.alloc hb.size (.cells #[.int .i64 y1, .int .i64 y2, .int .i64 y3, .int .i64 y4] 25)
  have Hy := Lib.hid (al_new w2 y1 y2 y3 y4)
  replace Ha := Lib.hid (Ha.out.keep HB2)
  replace Hb := Lib.hid (Hb.out.keep HB2)
  replace Hc := Lib.hid (Hc.out.keep HB2)
  replace Hx := Lib.hid (Hx.out.keep HB2)
  replace HW := Lib.hid (HW.out.trans (HB2.mono HW.out.size))
  clear hb HB2
  have ka0 := Ha.out.c0
  have ka1 := Ha.out.c1
  have ka2 := Ha.out.c2
  have ka3 := Ha.out.c3
  have kb0 := Hb.out.c0
  have kb1 := Hb.out.c1
  have kb2 := Hb.out.c2
  have kb3 := Hb.out.c3
  have kc0 := Hc.out.c0
  have kc1 := Hc.out.c1
  have kc2 := Hc.out.c2
  have kc3 := Hc.out.c3
  have kx0 := Hx.out.c0
  have kx1 := Hx.out.c1
  have kx2 := Hx.out.c2
  have kx3 := Hx.out.c3
  have ky0 := Hy.out.c0
  have ky1 := Hy.out.c1
  have ky2 := Hy.out.c2
  have ky3 := Hy.out.c3
  simp only at ka0 ka1 ka2 ka3 kb0 kb1 kb2 kb3 kc0 kc1 kc2 kc3 kx0 kx1 kx2 kx3 ky0 ky1 ky2 ky3
  go_wp2_with fail
  refine (HRH.out _).mono ?_
  rintro e w3 ⟨rfl, hb⟩
  clear ka0 ka1 ka2 ka3 kb0 kb1 kb2 kb3 kc0 kc1 kc2 kc3 kx0 kx1 kx2 kx3 ky0 ky1 ky2 ky3
  have HB3 := hb.alloc hb.size (.cells #[.int .i64 x1, .int .i64 x2, .int .i64 x3, .int .i64 x4] 25)
  have Hp := Lib.hid (al_new w3 x1 x2 x3 x4)
  replace Ha := Lib.hid (Ha.out.keep HB3)
  replace Hb := Lib.hid (Hb.out.keep HB3)
  replace Hc := Lib.hid (Hc.out.keep HB3)
  replace Hx := Lib.hid (Hx.out.keep HB3)
  replace Hy := Lib.hid (Hy.out.keep HB3)
  replace HW := Lib.hid (HW.out.trans (HB3.mono HW.out.size))
  clear hb HB3
  have ka0 := Ha.out.c0
  have ka1 := Ha.out.c1
  have ka2 := Ha.out.c2
  have ka3 := Ha.out.c3
  have kb0 := Hb.out.c0
  have kb1 := Hb.out.c1
  have kb2 := Hb.out.c2
  have kb3 := Hb.out.c3
  have kc0 := Hc.out.c0
  have kc1 := Hc.out.c1
  have kc2 := Hc.out.c2
  have kc3 := Hc.out.c3
  have kx0 := Hx.out.c0
  have kx1 := Hx.out.c1
  have kx2 := Hx.out.c2
  have kx3 := Hx.out.c3
  have ky0 := Hy.out.c0
  have ky1 := Hy.out.c1
  have ky2 := Hy.out.c2
  have ky3 := Hy.out.c3
  have kp0 := Hp.out.c0
  have kp1 := Hp.out.c1
  have kp2 := Hp.out.c2
  have kp3 := Hp.out.c3
  simp only at ka0 ka1 ka2 ka3 kb0 kb1 kb2 kb3 kc0 kc1 kc2 kc3 kx0 kx1 kx2 kx3 ky0 ky1 ky2 ky3 kp0 kp1 kp2 kp3
  go_wp2_with fail
  refine (HRN.out _).mono ?_
  rintro e w4 ⟨rfl, hb⟩
  clear ka0 ka1 ka2 ka3 kb0 kb1 kb2 kb3 kc0 kc1 kc2 kc3 kx0 kx1 kx2 kx3 ky0 ky1 ky2 ky3 kp0 kp1 kp2 kp3
  have HB4 := hb.alloc hb.size (.cells #[.int .i64 y1, .int .i64 y2, .int .i64 y3, .int .i64 y4] 25)
  have Hq := Lib.hid (al_new w4 y1 y2 y3 y4)
  replace Ha := Lib.hid (Ha.out.keep HB4)
  replace Hb := Lib.hid (Hb.out.keep HB4)
  replace Hc := Lib.hid (Hc.out.keep HB4)
  replace Hx := Lib.hid (Hx.out.keep HB4)
  replace Hy := Lib.hid (Hy.out.keep HB4)
  replace Hp := Lib.hid (Hp.out.keep HB4)
  replace HW := Lib.hid (HW.out.trans (HB4.mono HW.out.size))
  clear hb HB4
  have ka0 := Ha.out.c0
  have ka1 := Ha.out.c1
  have ka2 := Ha.out.c2
  have ka3 := Ha.out.c3
  have kb0 := Hb.out.c0
  have kb1 := Hb.out.c1
  have kb2 := Hb.out.c2
  have kb3 := Hb.out.c3
  have kc0 := Hc.out.c0
  have kc1 := Hc.out.c1
  have kc2 := Hc.out.c2
  have kc3 := Hc.out.c3
  have kx0 := Hx.out.c0
  have kx1 := Hx.out.c1
  have kx2 := Hx.out.c2
  have kx3 := Hx.out.c3
  have ky0 := Hy.out.c0
  have ky1 := Hy.out.c1
  have ky2 := Hy.out.c2
  have ky3 := Hy.out.c3
  have kp0 := Hp.out.c0
  have kp1 := Hp.out.c1
  have kp2 := Hp.out.c2
  have kp3 := Hp.out.c3
  have kq0 := Hq.out.c0
  have kq1 := Hq.out.c1
  have kq2 := Hq.out.c2
  have kq3 := Hq.out.c3
  simp only at ka0 ka1 ka2 ka3 kb0 kb1 kb2 kb3 kc0 kc1 kc2 kc3 kx0 kx1 kx2 kx3 ky0 ky1 ky2 ky3 kp0 kp1 kp2 kp3 kq0 kq1 kq2 kq3
  by_cases hz_xe : xe = 0
  · subst hz_xe
    have HTk := HT.out (by first | rfl | trivial)
    obtain ⟨rfl, rfl⟩ := HTk
    have HLk := Lib.hid (HL.out (by first | rfl | trivial))
    have HAk := Lib.hid (HA.out (by first | rfl | trivial))
    clear HT HL HA
    go_wp2_with fail
    refine (HVC.out _).mono ?_
    rintro e w5 ⟨rfl, hb⟩
    clear ka0 ka1 ka2 ka3 kb0 kb1 kb2 kb3 kc0 kc1 kc2 kc3 kx0 kx1 kx2 kx3 ky0 ky1 ky2 ky3 kp0 kp1 kp2 kp3 kq0 kq1 kq2 kq3
    have HB5 := hb
    replace Ha := Lib.hid (Ha.out.keep HB5)
    replace Hb := Lib.hid (Hb.out.keep HB5)
    replace Hc := Lib.hid (Hc.out.keep HB5)
    replace Hx := Lib.hid (Hx.out.keep HB5)
    replace Hy := Lib.hid (Hy.out.keep HB5)
    replace Hp := Lib.hid (Hp.out.keep HB5)
    replace Hq := Lib.hid (Hq.out.keep HB5)
    replace HW := Lib.hid (HW.out.trans (HB5.mono HW.out.size))
    clear hb HB5
    have ka0 := Ha.out.c0
    have ka1 := Ha.out.c1
    have ka2 := Ha.out.c2
    have ka3 := Ha.out.c3
    have kb0 := Hb.out.c0
    have kb1 := Hb.out.c1
    have kb2 := Hb.out.c2
    have kb3 := Hb.out.c3
    have kc0 := Hc.out.c0
    have kc1 := Hc.out.c1
    have kc2 := Hc.out.c2
    have kc3 := Hc.out.c3
    have kx0 := Hx.out.c0
    have kx1 := Hx.out.c1
    have kx2 := Hx.out.c2
    have kx3 := Hx.out.c3
    have ky0 := Hy.out.c0
    have ky1 := Hy.out.c1
    have ky2 := Hy.out.c2
    have ky3 := Hy.out.c3
    have kp0 := Hp.out.c0
    have kp1 := Hp.out.c1
    have kp2 := Hp.out.c2
    have kp3 := Hp.out.c3
    have kq0 := Hq.out.c0
    have kq1 := Hq.out.c1
    have kq2 := Hq.out.c2
    have kq3 := Hq.out.c3
    simp only at ka0 ka1 ka2 ka3 kb0 kb1 kb2 kb3 kc0 kc1 kc2 kc3 kx0 kx1 kx2 kx3 ky0 ky1 ky2 ky3 kp0 kp1 kp2 kp3 kq0 kq1 kq2 kq3
    cases vc with
    | false =>
      go_wp2
      go_ret
      exact ⟨rfl, HW.out⟩
    | true =>
      have HJ := Lib.hid (HAk.out (by first | rfl | trivial))
      clear HAk
      go_wp2_with fail
      refine (H1.out _).mono ?_
      rintro e w6 ⟨rfl, hb⟩
      clear ka0 ka1 ka2 ka3 kb0 kb1 kb2 kb3 kc0 kc1 kc2 kc3 kx0 kx1 kx2 kx3 ky0 ky1 ky2 ky3 kp0 kp1 kp2 kp3 kq0 kq1 kq2 kq3
      have HB6 := hb
      replace Ha := Lib.hid (Ha.out.keep HB6)
      replace Hb := Lib.hid (Hb.out.keep HB6)
      replace Hc := Lib.hid (Hc.out.keep HB6)
      replace Hx := Lib.hid (Hx.out.keep HB6)
      replace Hy := Lib.hid (Hy.out.keep HB6)
      replace Hp := Lib.hid (Hp.out.keep HB6)
      replace Hq := Lib.hid (Hq.out.keep HB6)
      replace HW := Lib.hid (HW.out.trans (HB6.mono HW.out.size))
      clear hb HB6
      have ka0 := Ha.out.c0
      have ka1 := Ha.out.c1
      have ka2 := Ha.out.c2
      have ka3 := Ha.out.c3
      have kb0 := Hb.out.c0
      have kb1 := Hb.out.c1
      have kb2 := Hb.out.c2
      have kb3 := Hb.out.c3
      have kc0 := Hc.out.c0
      have kc1 := Hc.out.c1
      have kc2 := Hc.out.c2
      have kc3 := Hc.out.c3
      have kx0 := Hx.out.c0
      have kx1 := Hx.out.c1
      have kx2 := Hx.out.c2
      have kx3 := Hx.out.c3
      have ky0 := Hy.out.c0
      have ky1 := Hy.out.c1
      have ky2 := Hy.out.c2
      have ky3 := Hy.out.c3
      have kp0 := Hp.out.c0
      have kp1 := Hp.out.c1
      have kp2 := Hp.out.c2
      have kp3 := Hp.out.c3
      have kq0 := Hq.out.c0
      have kq1 := Hq.out.c1
      have kq2 := Hq.out.c2
      have kq3 := Hq.out.c3
      simp only at ka0 ka1 ka2 ka3 kb0 kb1 kb2 kb3 kc0 kc1 kc2 kc3 kx0 kx1 kx2 kx3 ky0 ky1 ky2 ky3 kp0 kp1 kp2 kp3 kq0 kq1 kq2 kq3
      go_wp2_with fail
      refine (H2.out _).mono ?_
      rintro e w7 ⟨rfl, hb⟩
      clear ka0 ka1 ka2 ka3 kb0 kb1 kb2 kb3 kc0 kc1 kc2 kc3 kx0 kx1 kx2 kx3 ky0 ky1 ky2 ky3 kp0 kp1 kp2 kp3 kq0 kq1 kq2 kq3
      have HB7 := hb
      replace Ha := Lib.hid (Ha.out.keep HB7)
      replace Hb := Lib.hid (Hb.out.keep HB7)
      replace Hc := Lib.hid (Hc.out.keep HB7)
      replace Hx := Lib.hid (Hx.out.keep HB7)
      replace Hy := Lib.hid (Hy.out.keep HB7)
      replace Hp := Lib.hid (Hp.out.keep HB7)
      replace Hq := Lib.hid (Hq.out.keep HB7)
      replace HW := Lib.hid (HW.out.trans (HB7.mono HW.out.size))
      clear hb HB7
      have ka0 := Ha.out.c0
      have ka1 := Ha.out.c1
      have ka2 := Ha.out.c2
      have ka3 := Ha.out.c3
      have kb0 := Hb.out.c0
      have kb1 := Hb.out.c1
      have kb2 := Hb.out.c2
      have kb3 := Hb.out.c3
      have kc0 := Hc.out.c0
      have kc1 := Hc.out.c1
      have kc2 := Hc.out.c2
      have kc3 := Hc.out.c3
      have kx0 := Hx.out.c0
      have kx1 := Hx.out.c1
      have kx2 := Hx.out.c2
      have kx3 := Hx.out.c3
      have ky0 := Hy.out.c0
      have ky1 := Hy.out.c1
      have ky2 := Hy.out.c2
      have ky3 := Hy.out.c3
      have kp0 := Hp.out.c0
      have kp1 := Hp.out.c1
      have kp2 := Hp.out.c2
      have kp3 := Hp.out.c3
      have kq0 := Hq.out.c0
      have kq1 := Hq.out.c1
      have kq2 := Hq.out.c2
      have kq3 := Hq.out.c3
      simp only at ka0 ka1 ka2 ka3 kb0 kb1 kb2 kb3 kc0 kc1 kc2 kc3 kx0 kx1 kx2 kx3 ky0 ky1 ky2 ky3 kp0 kp1 kp2 kp3 kq0 kq1 kq2 kq3
      go_wp2_with fail
      refine (H3.out _).mono ?_
      rintro e w8 ⟨rfl, hb⟩
      clear ka0 ka1 ka2 ka3 kb0 kb1 kb2 kb3 kc0 kc1 kc2 kc3 kx0 kx1 kx2 kx3 ky0 ky1 ky2 ky3 kp0 kp1 kp2 kp3 kq0 kq1 kq2 kq3
      have HB8 := hb
      replace Ha := Lib.hid (Ha.out.keep HB8)
      replace Hb := Lib.hid (Hb.out.keep HB8)
      replace Hc := Lib.hid (Hc.out.keep HB8)
      replace Hx := Lib.hid (Hx.out.keep HB8)
      replace Hy := Lib.hid (Hy.out.keep HB8)
      replace Hp := Lib.hid (Hp.out.keep HB8)
      replace Hq := Lib.hid (Hq.out.keep HB8)
      replace HW := Lib.hid (HW.out.trans (HB8.mono HW.out.size))
      clear hb HB8
      have ka0 := Ha.out.c0
      have ka1 := Ha.out.c1
      have ka2 := Ha.out.c2
      have ka3 := Ha.out.c3
      have kb0 := Hb.out.c0
      have kb1 := Hb.out.c1
      have kb2 := Hb.out.c2
      have kb3 := Hb.out.c3
      have kc0 := Hc.out.c0
      have kc1 := Hc.out.c1
      have kc2 := Hc.out.c2
      have kc3 := Hc.out.c3
      have kx0 := Hx.out.c0
      have kx1 := Hx.out.c1
      have kx2 := Hx.out.c2
      have kx3 := Hx.out.c3
      have ky0 := Hy.out.c0
      have ky1 := Hy.out.c1
      have ky2 := Hy.out.c2
      have ky3 := Hy.out.c3
      have kp0 := Hp.out.c0
      have kp1 := Hp.out.c1
      have kp2 := Hp.out.c2
      have kp3 := Hp.out.c3
      have kq0 := Hq.out.c0
      have kq1 := Hq.out.c1
      have kq2 := Hq.out.c2
      have kq3 := Hq.out.c3
      simp only at ka0 ka1 ka2 ka3 kb0 kb1 kb2 kb3 kc0 kc1 kc2 kc3 kx0 kx1 kx2 kx3 ky0 ky1 ky2 ky3 kp0 kp1 kp2 kp3 kq0 kq1 kq2 kq3
      cases i1 with
      | false =>
        go_wp2_with fail
        refine (H6.out _).mono ?_
        rintro e w9 ⟨rfl, hb⟩
        clear ka0 ka1 ka2 ka3 kb0 kb1 kb2 kb3 kc0 kc1 kc2 kc3 kx0 kx1 kx2 kx3 ky0 ky1 ky2 ky3 kp0 kp1 kp2 kp3 kq0 kq1 kq2 kq3
        have HB9 := hb
        replace Ha := Lib.hid (Ha.out.keep HB9)
        replace Hb := Lib.hid (Hb.out.keep HB9)
        replace Hc := Lib.hid (Hc.out.keep HB9)
        replace Hx := Lib.hid (Hx.out.keep HB9)
        replace Hy := Lib.hid (Hy.out.keep HB9)
        replace Hp := Lib.hid (Hp.out.keep HB9)
        replace Hq := Lib.hid (Hq.out.keep HB9)
        replace HW := Lib.hid (HW.out.trans (HB9.mono HW.out.size))
        clear hb HB9
        have ka0 := Ha.out.c0
        have ka1 := Ha.out.c1
        have ka2 := Ha.out.c2
        have ka3 := Ha.out.c3
        have kb0 := Hb.out.c0
        have kb1 := Hb.out.c1
        have kb2 := Hb.out.c2
        have kb3 := Hb.out.c3
        have kc0 := Hc.out.c0
        have kc1 := Hc.out.c1
        have kc2 := Hc.out.c2
        have kc3 := Hc.out.c3
        have kx0 := Hx.out.c0
        have kx1 := Hx.out.c1
        have kx2 := Hx.out.c2
        have kx3 := Hx.out.c3
        have ky0 := Hy.out.c0
        have ky1 := Hy.out.c1
        have ky2 := Hy.out.c2
        have ky3 := Hy.out.c3
        have kp0 := Hp.out.c0
        have kp1 := Hp.out.c1
        have kp2 := Hp.out.c2
        have kp3 := Hp.out.c3
        have kq0 := Hq.out.c0
        have kq1 := Hq.out.c1
        have kq2 := Hq.out.c2
        have kq3 := Hq.out.c3
        simp only at ka0 ka1 ka2 ka3 kb0 kb1 kb2 kb3 kc0 kc1 kc2 kc3 kx0 kx1 kx2 kx3 ky0 ky1 ky2 ky3 kp0 kp1 kp2 kp3 kq0 kq1 kq2 kq3
        cases j1 with
        | false =>
          by_cases hz_ye : ye = 0
          · subst hz_ye
            have hj := HJ.out
            obtain rfl : j3 = false := by simpa using hj.symm
            go_wp2_with fail
            refine (H8.out _).mono ?_
            rintro e w10 ⟨rfl, hb⟩
            clear ka0 ka1 ka2 ka3 kb0 kb1 kb2 kb3 kc0 kc1 kc2 kc3 kx0 kx1 kx2 kx3 ky0 ky1 ky2 ky3 kp0 kp1 kp2 kp3 kq0 kq1 kq2 kq3
            have HB10 := hb
            replace Ha := Lib.hid (Ha.out.keep HB10)
            replace Hb := Lib.hid (Hb.out.keep HB10)
            replace Hc := Lib.hid (Hc.out.keep HB10)
            replace Hx := Lib.hid (Hx.out.keep HB10)
            replace Hy := Lib.hid (Hy.out.keep HB10)
            replace Hp := Lib.hid (Hp.out.keep HB10)
            replace Hq := Lib.hid (Hq.out.keep HB10)
            replace HW := Lib.hid (HW.out.trans (HB10.mono HW.out.size))
            clear hb HB10
            have ka0 := Ha.out.c0
            have ka1 := Ha.out.c1
            have ka2 := Ha.out.c2
            have ka3 := Ha.out.c3
            have kb0 := Hb.out.c0
            have kb1 := Hb.out.c1
            have kb2 := Hb.out.c2
            have kb3 := Hb.out.c3
            have kc0 := Hc.out.c0
            have kc1 := Hc.out.c1
            have kc2 := Hc.out.c2
            have kc3 := Hc.out.c3
            have kx0 := Hx.out.c0
            have kx1 := Hx.out.c1
            have kx2 := Hx.out.c2
            have kx3 := Hx.out.c3
            have ky0 := Hy.out.c0
            have ky1 := Hy.out.c1
            have ky2 := Hy.out.c2
            have ky3 := Hy.out.c3
            have kp0 := Hp.out.c0
            have kp1 := Hp.out.c1
            have kp2 := Hp.out.c2
            have kp3 := Hp.out.c3
            have kq0 := Hq.out.c0
            have kq1 := Hq.out.c1
            have kq2 := Hq.out.c2
            have kq3 := Hq.out.c3
            simp only at ka0 ka1 ka2 ka3 kb0 kb1 kb2 kb3 kc0 kc1 kc2 kc3 kx0 kx1 kx2 kx3 ky0 ky1 ky2 ky3 kp0 kp1 kp2 kp3 kq0 kq1 kq2 kq3
            go_wp2
            go_ret
            exact ⟨rfl, HW.out⟩
          · have hd_ye : decide (ye = 0) = false := by simp [hz_ye]
            have hj := HJ.out
            go_wp2
            go_ret
            exact ⟨rfl, HW.out⟩
        | true =>
          go_wp2_with fail
          refine (H7.out _).mono ?_
          rintro e w10 ⟨rfl, hb⟩
          clear ka0 ka1 ka2 ka3 kb0 kb1 kb2 kb3 kc0 kc1 kc2 kc3 kx0 kx1 kx2 kx3 ky0 ky1 ky2 ky3 kp0 kp1 kp2 kp3 kq0 kq1 kq2 kq3
          have HB10 := hb
          replace Ha := Lib.hid (Ha.out.keep HB10)
          replace Hb := Lib.hid (Hb.out.keep HB10)
          replace Hc := Lib.hid (Hc.out.keep HB10)
          replace Hx := Lib.hid (Hx.out.keep HB10)
          replace Hy := Lib.hid (Hy.out.keep HB10)
          replace Hp := Lib.hid (Hp.out.keep HB10)
          replace Hq := Lib.hid (Hq.out.keep HB10)
          replace HW := Lib.hid (HW.out.trans (HB10.mono HW.out.size))
          clear hb HB10
          have ka0 := Ha.out.c0
          have ka1 := Ha.out.c1
          have ka2 := Ha.out.c2
          have ka3 := Ha.out.c3
          have kb0 := Hb.out.c0
          have kb1 := Hb.out.c1
          have kb2 := Hb.out.c2
          have kb3 := Hb.out.c3
          have kc0 := Hc.out.c0
          have kc1 := Hc.out.c1
          have kc2 := Hc.out.c2
          have kc3 := Hc.out.c3
          have kx0 := Hx.out.c0
          have kx1 := Hx.out.c1
          have kx2 := Hx.out.c2
          have kx3 := Hx.out.c3
          have ky0 := Hy.out.c0
          have ky1 := Hy.out.c1
          have ky2 := Hy.out.c2
          have ky3 := Hy.out.c3
          have kp0 := Hp.out.c0
          have kp1 := Hp.out.c1
          have kp2 := Hp.out.c2
          have kp3 := Hp.out.c3
          have kq0 := Hq.out.c0
          have kq1 := Hq.out.c1
          have kq2 := Hq.out.c2
          have kq3 := Hq.out.c3
          simp only at ka0 ka1 ka2 ka3 kb0 kb1 kb2 kb3 kc0 kc1 kc2 kc3 kx0 kx1 kx2 kx3 ky0 ky1 ky2 ky3 kp0 kp1 kp2 kp3 kq0 kq1 kq2 kq3
          cases j2 with
          | false =>
            by_cases hz_ye : ye = 0
            · subst hz_ye
              have hj := HJ.out
              obtain rfl : j3 = false := by simpa using hj.symm
              go_wp2_with fail
              refine (H8.out _).mono ?_
              rintro e w11 ⟨rfl, hb⟩
              clear ka0 ka1 ka2 ka3 kb0 kb1 kb2 kb3 kc0 kc1 kc2 kc3 kx0 kx1 kx2 kx3 ky0 ky1 ky2 ky3 kp0 kp1 kp2 kp3 kq0 kq1 kq2 kq3
              have HB11 := hb
              replace Ha := Lib.hid (Ha.out.keep HB11)
              replace Hb := Lib.hid (Hb.out.keep HB11)
              replace Hc := Lib.hid (Hc.out.keep HB11)
              replace Hx := Lib.hid (Hx.out.keep HB11)
              replace Hy := Lib.hid (Hy.out.keep HB11)
              replace Hp := Lib.hid (Hp.out.keep HB11)
              replace Hq := Lib.hid (Hq.out.keep HB11)
              replace HW := Lib.hid (HW.out.trans (HB11.mono HW.out.size))
              clear hb HB11
              have ka0 := Ha.out.c0
              have ka1 := Ha.out.c1
              have ka2 := Ha.out.c2
              have ka3 := Ha.out.c3
              have kb0 := Hb.out.c0
              have kb1 := Hb.out.c1
              have kb2 := Hb.out.c2
              have kb3 := Hb.out.c3
              have kc0 := Hc.out.c0
              have kc1 := Hc.out.c1
              have kc2 := Hc.out.c2
              have kc3 := Hc.out.c3
              have kx0 := Hx.out.c0
              have kx1 := Hx.out.c1
              have kx2 := Hx.out.c2
              have kx3 := Hx.out.c3
              have ky0 := Hy.out.c0
              have ky1 := Hy.out.c1
              have ky2 := Hy.out.c2
              have ky3 := Hy.out.c3
              have kp0 := Hp.out.c0
              have kp1 := Hp.out.c1
              have kp2 := Hp.out.c2
              have kp3 := Hp.out.c3
              have kq0 := Hq.out.c0
              have kq1 := Hq.out.c1
              have kq2 := Hq.out.c2
              have kq3 := Hq.out.c3
              simp only at ka0 ka1 ka2 ka3 kb0 kb1 kb2 kb3 kc0 kc1 kc2 kc3 kx0 kx1 kx2 kx3 ky0 ky1 ky2 ky3 kp0 kp1 kp2 kp3 kq0 kq1 kq2 kq3
              go_wp2
              go_ret
              exact ⟨rfl, HW.out⟩
            · have hd_ye : decide (ye = 0) = false := by simp [hz_ye]
              have hj := HJ.out
              go_wp2
              go_ret
              exact ⟨rfl, HW.out⟩
          | true =>
            by_cases hz_ye : ye = 0
            · subst hz_ye
              have hj := HJ.out
              obtain rfl : j3 = true := by simpa using hj.symm
              go_wp2_with fail
              refine (H8.out _).mono ?_
              rintro e w11 ⟨rfl, hb⟩
              clear ka0 ka1 ka2 ka3 kb0 kb1 kb2 kb3 kc0 kc1 kc2 kc3 kx0 kx1 kx2 kx3 ky0 ky1 ky2 ky3 kp0 kp1 kp2 kp3 kq0 kq1 kq2 kq3
              have HB11 := hb
              replace Ha := Lib.hid (Ha.out.keep HB11)
              replace Hb := Lib.hid (Hb.out.keep HB11)
              replace Hc := Lib.hid (Hc.out.keep HB11)
              replace Hx := Lib.hid (Hx.out.keep HB11)
              replace Hy := Lib.hid (Hy.out.keep HB11)
              replace Hp := Lib.hid (Hp.out.keep HB11)
              replace Hq := Lib.hid (Hq.out.keep HB11)
              replace HW := Lib.hid (HW.out.trans (HB11.mono HW.out.size))
              clear hb HB11
              have ka0 := Ha.out.c0
              have ka1 := Ha.out.c1
              have ka2 := Ha.out.c2
              have ka3 := Ha.out.c3
              have kb0 := Hb.out.c0
              have kb1 := Hb.out.c1
              have kb2 := Hb.out.c2
              have kb3 := Hb.out.c3
              have kc0 := Hc.out.c0
              have kc1 := Hc.out.c1
              have kc2 := Hc.out.c2
              have kc3 := Hc.out.c3
              have kx0 := Hx.out.c0
              have kx1 := Hx.out.c1
              have kx2 := Hx.out.c2
              have kx3 := Hx.out.c3
              have ky0 := Hy.out.c0
              have ky1 := Hy.out.c1
              have ky2 := Hy.out.c2
              have ky3 := Hy.out.c3
              have kp0 := Hp.out.c0
              have kp1 := Hp.out.c1
              have kp2 := Hp.out.c2
              have kp3 := Hp.out.c3
              have kq0 := Hq.out.c0
              have kq1 := Hq.out.c1
              have kq2 := Hq.out.c2
              have kq3 := Hq.out.c3
              simp only at ka0 ka1 ka2 ka3 kb0 kb1 kb2 kb3 kc0 kc1 kc2 kc3 kx0 kx1 kx2 kx3 ky0 ky1 ky2 ky3 kp0 kp1 kp2 kp3 kq0 kq1 kq2 kq3
              go_wp2
              go_ret
              exact ⟨rfl, HW.out⟩
            · have hd_ye : decide (ye = 0) = false := by simp [hz_ye]
              have hj := HJ.out
              exact absurd hj (by simp [hz_ye])
      | true =>
        go_wp2_with fail
        refine (H4.out _).mono ?_
        rintro e w9 ⟨rfl, hb⟩
        clear ka0 ka1 ka2 ka3 kb0 kb1 kb2 kb3 kc0 kc1 kc2 kc3 kx0 kx1 kx2 kx3 ky0 ky1 ky2 ky3 kp0 kp1 kp2 kp3 kq0 kq1 kq2 kq3
        have HB9 := hb
        replace Ha := Lib.hid (Ha.out.keep HB9)
        replace Hb := Lib.hid (Hb.out.keep HB9)
        replace Hc := Lib.hid (Hc.out.keep HB9)
        replace Hx := Lib.hid (Hx.out.keep HB9)
        replace Hy := Lib.hid (Hy.out.keep HB9)
        replace Hp := Lib.hid (Hp.out.keep HB9)
        replace Hq := Lib.hid (Hq.out.keep HB9)
        replace HW := Lib.hid (HW.out.trans (HB9.mono HW.out.size))
        clear hb HB9
        have ka0 := Ha.out.c0
        have ka1 := Ha.out.c1
        have ka2 := Ha.out.c2
        have ka3 := Ha.out.c3
        have kb0 := Hb.out.c0
        have kb1 := Hb.out.c1
        have kb2 := Hb.out.c2
        have kb3 := Hb.out.c3
        have kc0 := Hc.out.c0
        have kc1 := Hc.out.c1
        have kc2 := Hc.out.c2
        have kc3 := Hc.out.c3
        have kx0 := Hx.out.c0
        have kx1 := Hx.out.c1
        have kx2 := Hx.out.c2
        have kx3 := Hx.out.c3
        have ky0 := Hy.out.c0
        have ky1 := Hy.out.c1
        have ky2 := Hy.out.c2
        have ky3 := Hy.out.c3
        have kp0 := Hp.out.c0
        have kp1 := Hp.out.c1
        have kp2 := Hp.out.c2
        have kp3 := Hp.out.c3
        have kq0 := Hq.out.c0
        have kq1 := Hq.out.c1
        have kq2 := Hq.out.c2
        have kq3 := Hq.out.c3
        simp only at ka0 ka1 ka2 ka3 kb0 kb1 kb2 kb3 kc0 kc1 kc2 kc3 kx0 kx1 kx2 kx3 ky0 ky1 ky2 ky3 kp0 kp1 kp2 kp3 kq0 kq1 kq2 kq3
        cases i2 with
        | false =>
          go_wp2_with fail
          refine (H6.out _).mono ?_
          rintro e w10 ⟨rfl, hb⟩
          clear ka0 ka1 ka2 ka3 kb0 kb1 kb2 kb3 kc0 kc1 kc2 kc3 kx0 kx1 kx2 kx3 ky0 ky1 ky2 ky3 kp0 kp1 kp2 kp3 kq0 kq1 kq2 kq3
          have HB10 := hb
          replace Ha := Lib.hid (Ha.out.keep HB10)
          replace Hb := Lib.hid (Hb.out.keep HB10)
          replace Hc := Lib.hid (Hc.out.keep HB10)
          replace Hx := Lib.hid (Hx.out.keep HB10)
          replace Hy := Lib.hid (Hy.out.keep HB10)
          replace Hp := Lib.hid (Hp.out.keep HB10)
          replace Hq := Lib.hid (Hq.out.keep HB10)
          replace HW := Lib.hid (HW.out.trans (HB10.mono HW.out.size))
          clear hb HB10
          have ka0 := Ha.out.c0
          have ka1 := Ha.out.c1
          have ka2 := Ha.out.c2
          have ka3 := Ha.out.c3
          have kb0 := Hb.out.c0
          have kb1 := Hb.out.c1
          have kb2 := Hb.out.c2
          have kb3 := Hb.out.c3
          have kc0 := Hc.out.c0
          have kc1 := Hc.out.c1
          have kc2 := Hc.out.c2
          have kc3 := Hc.out.c3
          have kx0 := Hx.out.c0
          have kx1 := Hx.out.c1
          have kx2 := Hx.out.c2
          have kx3 := Hx.out.c3
          have ky0 := Hy.out.c0
          have ky1 := Hy.out.c1
          have ky2 := Hy.out.c2
          have ky3 := Hy.out.c3
          have kp0 := Hp.out.c0
          have kp1 := Hp.out.c1
          have kp2 := Hp.out.c2
          have kp3 := Hp.out.c3
          have kq0 := Hq.out.c0
          have kq1 := Hq.out.c1
          have kq2 := Hq.out.c2
          have kq3 := Hq.out.c3
          simp only at ka0 ka1 ka2 ka3 kb0 kb1 kb2 kb3 kc0 kc1 kc2 kc3 kx0 kx1 kx2 kx3 ky0 ky1 ky2 ky3 kp0 kp1 kp2 kp3 kq0 kq1 kq2 kq3
          cases j1 with
          | false =>
            by_cases hz_ye : ye = 0
            · subst hz_ye
              have hj := HJ.out
              obtain rfl : j3 = false := by simpa using hj.symm
              go_wp2_with fail
              refine (H8.out _).mono ?_
              rintro e w11 ⟨rfl, hb⟩
              clear ka0 ka1 ka2 ka3 kb0 kb1 kb2 kb3 kc0 kc1 kc2 kc3 kx0 kx1 kx2 kx3 ky0 ky1 ky2 ky3 kp0 kp1 kp2 kp3 kq0 kq1 kq2 kq3
              have HB11 := hb
              replace Ha := Lib.hid (Ha.out.keep HB11)
              replace Hb := Lib.hid (Hb.out.keep HB11)
              replace Hc := Lib.hid (Hc.out.keep HB11)
              replace Hx := Lib.hid (Hx.out.keep HB11)
              replace Hy := Lib.hid (Hy.out.keep HB11)
              replace Hp := Lib.hid (Hp.out.keep HB11)
              replace Hq := Lib.hid (Hq.out.keep HB11)
              replace HW := Lib.hid (HW.out.trans (HB11.mono HW.out.size))
              clear hb HB11
              have ka0 := Ha.out.c0
              have ka1 := Ha.out.c1
              have ka2 := Ha.out.c2
              have ka3 := Ha.out.c3
              have kb0 := Hb.out.c0
              have kb1 := Hb.out.c1
              have kb2 := Hb.out.c2
              have kb3 := Hb.out.c3
              have kc0 := Hc.out.c0
              have kc1 := Hc.out.c1
              have kc2 := Hc.out.c2
              have kc3 := Hc.out.c3
              have kx0 := Hx.out.c0
              have kx1 := Hx.out.c1
              have kx2 := Hx.out.c2
              have kx3 := Hx.out.c3
              have ky0 := Hy.out.c0
              have ky1 := Hy.out.c1
              have ky2 := Hy.out.c2
              have ky3 := Hy.out.c3
              have kp0 := Hp.out.c0
              have kp1 := Hp.out.c1
              have kp2 := Hp.out.c2
              have kp3 := Hp.out.c3
              have kq0 := Hq.out.c0
              have kq1 := Hq.out.c1
              have kq2 := Hq.out.c2
              have kq3 := Hq.out.c3
              simp only at ka0 ka1 ka2 ka3 kb0 kb1 kb2 kb3 kc0 kc1 kc2 kc3 kx0 kx1 kx2 kx3 ky0 ky1 ky2 ky3 kp0 kp1 kp2 kp3 kq0 kq1 kq2 kq3
              go_wp2
              go_ret
              exact ⟨rfl, HW.out⟩
            · have hd_ye : decide (ye = 0) = false := by simp [hz_ye]
              have hj := HJ.out
              go_wp2
              go_ret
              exact ⟨rfl, HW.out⟩
          | true =>
            go_wp2_with fail
            refine (H7.out _).mono ?_
            rintro e w11 ⟨rfl, hb⟩
            clear ka0 ka1 ka2 ka3 kb0 kb1 kb2 kb3 kc0 kc1 kc2 kc3 kx0 kx1 kx2 kx3 ky0 ky1 ky2 ky3 kp0 kp1 kp2 kp3 kq0 kq1 kq2 kq3
            have HB11 := hb
            replace Ha := Lib.hid (Ha.out.keep HB11)
            replace Hb := Lib.hid (Hb.out.keep HB11)
            replace Hc := Lib.hid (Hc.out.keep HB11)
            replace Hx := Lib.hid (Hx.out.keep HB11)
            replace Hy := Lib.hid (Hy.out.keep HB11)
            replace Hp := Lib.hid (Hp.out.keep HB11)
            replace Hq := Lib.hid (Hq.out.keep HB11)
            replace HW := Lib.hid (HW.out.trans (HB11.mono HW.out.size))
            clear hb HB11
            have ka0 := Ha.out.c0
            have ka1 := Ha.out.c1
            have ka2 := Ha.out.c2
            have ka3 := Ha.out.c3
            have kb0 := Hb.out.c0
            have kb1 := Hb.out.c1
            have kb2 := Hb.out.c2
            have kb3 := Hb.out.c3
            have kc0 := Hc.out.c0
            have kc1 := Hc.out.c1
            have kc2 := Hc.out.c2
            have kc3 := Hc.out.c3
            have kx0 := Hx.out.c0
            have kx1 := Hx.out.c1
            have kx2 := Hx.out.c2
            have kx3 := Hx.out.c3
            have ky0 := Hy.out.c0
            have ky1 := Hy.out.c1
            have ky2 := Hy.out.c2
            have ky3 := Hy.out.c3
            have kp0 := Hp.out.c0
            have kp1 := Hp.out.c1
            have kp2 := Hp.out.c2
            have kp3 := Hp.out.c3
            have kq0 := Hq.out.c0
            have kq1 := Hq.out.c1
            have kq2 := Hq.out.c2
            have kq3 := Hq.out.c3
            simp only at ka0 ka1 ka2 ka3 kb0 kb1 kb2 kb3 kc0 kc1 kc2 kc3 kx0 kx1 kx2 kx3 ky0 ky1 ky2 ky3 kp0 kp1 kp2 kp3 kq0 kq1 kq2 kq3
            cases j2 with
            | false =>
              by_cases hz_ye : ye = 0
              · subst hz_ye
                have hj := HJ.out
                obtain rfl : j3 = false := by simpa using hj.symm
                go_wp2_with fail
                refine (H8.out _).mono ?_
                rintro e w12 ⟨rfl, hb⟩
                clear ka0 ka1 ka2 ka3 kb0 kb1 kb2 kb3 kc0 kc1 kc2 kc3 kx0 kx1 kx2 kx3 ky0 ky1 ky2 ky3 kp0 kp1 kp2 kp3 kq0 kq1 kq2 kq3
                have HB12 := hb
                replace Ha := Lib.hid (Ha.out.keep HB12)
                replace Hb := Lib.hid (Hb.out.keep HB12)
                replace Hc := Lib.hid (Hc.out.keep HB12)
                replace Hx := Lib.hid (Hx.out.keep HB12)
                replace Hy := Lib.hid (Hy.out.keep HB12)
                replace Hp := Lib.hid (Hp.out.keep HB12)
                replace Hq := Lib.hid (Hq.out.keep HB12)
                replace HW := Lib.hid (HW.out.trans (HB12.mono HW.out.size))
                clear hb HB12
                have ka0 := Ha.out.c0
                have ka1 := Ha.out.c1
                have ka2 := Ha.out.c2
                have ka3 := Ha.out.c3
                have kb0 := Hb.out.c0
                have kb1 := Hb.out.c1
                have kb2 := Hb.out.c2
                have kb3 := Hb.out.c3
                have kc0 := Hc.out.c0
                have kc1 := Hc.out.c1
                have kc2 := Hc.out.c2
                have kc3 := Hc.out.c3
                have kx0 := Hx.out.c0
                have kx1 := Hx.out.c1
                have kx2 := Hx.out.c2
                have kx3 := Hx.out.c3
                have ky0 := Hy.out.c0
                have ky1 := Hy.out.c1
                have ky2 := Hy.out.c2
                have ky3 := Hy.out.c3
                have kp0 := Hp.out.c0
                have kp1 := Hp.out.c1
                have kp2 := Hp.out.c2
                have kp3 := Hp.out.c3
                have kq0 := Hq.out.c0
                have kq1 := Hq.out.c1
                have kq2 := Hq.out.c2
                have kq3 := Hq.out.c3
                simp only at ka0 ka1 ka2 ka3 kb0 kb1 kb2 kb3 kc0 kc1 kc2 kc3 kx0 kx1 kx2 kx3 ky0 ky1 ky2 ky3 kp0 kp1 kp2 kp3 kq0 kq1 kq2 kq3
                go_wp2
                go_ret
                exact ⟨rfl, HW.out⟩
              · have hd_ye : decide (ye = 0) = false := by simp [hz_ye]
                have hj := HJ.out
                go_wp2
                go_ret
                exact ⟨rfl, HW.out⟩
            | true =>
              by_cases hz_ye : ye = 0
              · subst hz_ye
                have hj := HJ.out
                obtain rfl : j3 = true := by simpa using hj.symm
                go_wp2_with fail
                refine (H8.out _).mono ?_
                rintro e w12 ⟨rfl, hb⟩
                clear ka0 ka1 ka2 ka3 kb0 kb1 kb2 kb3 kc0 kc1 kc2 kc3 kx0 kx1 kx2 kx3 ky0 ky1 ky2 ky3 kp0 kp1 kp2 kp3 kq0 kq1 kq2 kq3
                have HB12 := hb
                replace Ha := Lib.hid (Ha.out.keep HB12)
                replace Hb := Lib.hid (Hb.out.keep HB12)
                replace Hc := Lib.hid (Hc.out.keep HB12)
                replace Hx := Lib.hid (Hx.out.keep HB12)
                replace Hy := Lib.hid (Hy.out.keep HB12)
                replace Hp := Lib.hid (Hp.out.keep HB12)
                replace Hq := Lib.hid (Hq.out.keep HB12)
                replace HW := Lib.hid (HW.out.trans (HB12.mono HW.out.size))
                clear hb HB12
                have ka0 := Ha.out.c0
                have ka1 := Ha.out.c1
                have ka2 := Ha.out.c2
                have ka3 := Ha.out.c3
                have kb0 := Hb.out.c0
                have kb1 := Hb.out.c1
                have kb2 := Hb.out.c2
                have kb3 := Hb.out.c3
                have kc0 := Hc.out.c0
                have kc1 := Hc.out.c1
                have kc2 := Hc.out.c2
                have kc3 := Hc.out.c3
                have kx0 := Hx.out.c0
                have kx1 := Hx.out.c1
                have kx2 := Hx.out.c2
                have kx3 := Hx.out.c3
                have ky0 := Hy.out.c0
                have ky1 := Hy.out.c1
                have ky2 := Hy.out.c2
                have ky3 := Hy.out.c3
                have kp0 := Hp.out.c0
                have kp1 := Hp.out.c1
                have kp2 := Hp.out.c2
                have kp3 := Hp.out.c3
                have kq0 := Hq.out.c0
                have kq1 := Hq.out.c1
                have kq2 := Hq.out.c2
                have kq3 := Hq.out.c3
                simp only at ka0 ka1 ka2 ka3 kb0 kb1 kb2 kb3 kc0 kc1 kc2 kc3 kx0 kx1 kx2 kx3 ky0 ky1 ky2 ky3 kp0 kp1 kp2 kp3 kq0 kq1 kq2 kq3
                go_wp2
                go_ret
                exact ⟨rfl, HW.out⟩
              · have hd_ye : decide (ye = 0) = false := by simp [hz_ye]
                have hj := HJ.out
                exact absurd hj (by simp [hz_ye])
        | true =>
          obtain rfl : t3 = true := HLk.out (by first | rfl | trivial) (by first | rfl | trivial)
          go_wp2_with fail
          refine (H5.out _).mono ?_
          rintro e w10 ⟨rfl, hb⟩
          clear ka0 ka1 ka2 ka3 kb0 kb1 kb2 kb3 kc0 kc1 kc2 kc3 kx0 kx1 kx2 kx3 ky0 ky1 ky2 ky3 kp0 kp1 kp2 kp3 kq0 kq1 kq2 kq3
          have HB10 := hb
          replace Ha := Lib.hid (Ha.out.keep HB10)
          replace Hb := Lib.hid (Hb.out.keep HB10)
          replace Hc := Lib.hid (Hc.out.keep HB10)
          replace Hx := Lib.hid (Hx.out.keep HB10)
          replace Hy := Lib.hid (Hy.out.keep HB10)
          replace Hp := Lib.hid (Hp.out.keep HB10)
          replace Hq := Lib.hid (Hq.out.keep HB10)
          replace HW := Lib.hid (HW.out.trans (HB10.mono HW.out.size))
          clear hb HB10
          have ka0 := Ha.out.c0
          have ka1 := Ha.out.c1
          have ka2 := Ha.out.c2
          have ka3 := Ha.out.c3
          have kb0 := Hb.out.c0
          have kb1 := Hb.out.c1
          have kb2 := Hb.out.c2
          have kb3 := Hb.out.c3
          have kc0 := Hc.out.c0
          have kc1 := Hc.out.c1
          have kc2 := Hc.out.c2
          have kc3 := Hc.out.c3
          have kx0 := Hx.out.c0
          have kx1 := Hx.out.c1
          have kx2 := Hx.out.c2
          have kx3 := Hx.out.c3
          have ky0 := Hy.out.c0
          have ky1 := Hy.out.c1
          have ky2 := Hy.out.c2
          have ky3 := Hy.out.c3
          have kp0 := Hp.out.c0
          have kp1 := Hp.out.c1
          have kp2 := Hp.out.c2
          have kp3 := Hp.out.c3
          have kq0 := Hq.out.c0
          have kq1 := Hq.out.c1
          have kq2 := Hq.out.c2
          have kq3 := Hq.out.c3
          simp only at ka0 ka1 ka2 ka3 kb0 kb1 kb2 kb3 kc0 kc1 kc2 kc3 kx0 kx1 kx2 kx3 ky0 ky1 ky2 ky3 kp0 kp1 kp2 kp3 kq0 kq1 kq2 kq3
          go_wp2_with fail
          refine (H6.out _).mono ?_
          rintro e w11 ⟨rfl, hb⟩
          clear ka0 ka1 ka2 ka3 kb0 kb1 kb2 kb3 kc0 kc1 kc2 kc3 kx0 kx1 kx2 kx3 ky0 ky1 ky2 ky3 kp0 kp1 kp2 kp3 kq0 kq1 kq2 kq3
          have HB11 := hb
          replace Ha := Lib.hid (Ha.out.keep HB11)
          replace Hb := Lib.hid (Hb.out.keep HB11)
          replace Hc := Lib.hid (Hc.out.keep HB11)
          replace Hx := Lib.hid (Hx.out.keep HB11)
          replace Hy := Lib.hid (Hy.out.keep HB11)
          replace Hp := Lib.hid (Hp.out.keep HB11)
          replace Hq := Lib.hid (Hq.out.keep HB11)
          replace HW := Lib.hid (HW.out.trans (HB11.mono HW.out.size))
          clear hb HB11
          have ka0 := Ha.out.c0
          have ka1 := Ha.out.c1
          have ka2 := Ha.out.c2
          have ka3 := Ha.out.c3
          have kb0 := Hb.out.c0
          have kb1 := Hb.out.c1
          have kb2 := Hb.out.c2
          have kb3 := Hb.out.c3
          have kc0 := Hc.out.c0
          have kc1 := Hc.out.c1
          have kc2 := Hc.out.c2
          have kc3 := Hc.out.c3
          have kx0 := Hx.out.c0
          have kx1 := Hx.out.c1
          have kx2 := Hx.out.c2
          have kx3 := Hx.out.c3
          have ky0 := Hy.out.c0
          have ky1 := Hy.out.c1
          have ky2 := Hy.out.c2
          have ky3 := Hy.out.c3
          have kp0 := Hp.out.c0
          have kp1 := Hp.out.c1
          have kp2 := Hp.out.c2
          have kp3 := Hp.out.c3
          have kq0 := Hq.out.c0
          have kq1 := Hq.out.c1
          have kq2 := Hq.out.c2
          have kq3 := Hq.out.c3
          simp only at ka0 ka1 ka2 ka3 kb0 kb1 kb2 kb3 kc0 kc1 kc2 kc3 kx0 kx1 kx2 kx3 ky0 ky1 ky2 ky3 kp0 kp1 kp2 kp3 kq0 kq1 kq2 kq3
          cases j1 with
          | false =>
            by_cases hz_ye : ye = 0
            · subst hz_ye
              have hj := HJ.out
              obtain rfl : j3 = false := by simpa using hj.symm
              go_wp2_with fail
              refine (H8.out _).mono ?_
              rintro e w12 ⟨rfl, hb⟩
              clear ka0 ka1 ka2 ka3 kb0 kb1 kb2 kb3 kc0 kc1 kc2 kc3 kx0 kx1 kx2 kx3 ky0 ky1 ky2 ky3 kp0 kp1 kp2 kp3 kq0 kq1 kq2 kq3
              have HB12 := hb
              replace Ha := Lib.hid (Ha.out.keep HB12)
              replace Hb := Lib.hid (Hb.out.keep HB12)
              replace Hc := Lib.hid (Hc.out.keep HB12)
              replace Hx := Lib.hid (Hx.out.keep HB12)
              replace Hy := Lib.hid (Hy.out.keep HB12)
              replace Hp := Lib.hid (Hp.out.keep HB12)
              replace Hq := Lib.hid (Hq.out.keep HB12)
              replace HW := Lib.hid (HW.out.trans (HB12.mono HW.out.size))
              clear hb HB12
              have ka0 := Ha.out.c0
              have ka1 := Ha.out.c1
              have ka2 := Ha.out.c2
              have ka3 := Ha.out.c3
              have kb0 := Hb.out.c0
              have kb1 := Hb.out.c1
              have kb2 := Hb.out.c2
              have kb3 := Hb.out.c3
              have kc0 := Hc.out.c0
              have kc1 := Hc.out.c1
              have kc2 := Hc.out.c2
              have kc3 := Hc.out.c3
              have kx0 := Hx.out.c0
              have kx1 := Hx.out.c1
              have kx2 := Hx.out.c2
              have kx3 := Hx.out.c3
              have ky0 := Hy.out.c0
              have ky1 := Hy.out.c1
              have ky2 := Hy.out.c2
              have ky3 := Hy.out.c3
              have kp0 := Hp.out.c0
              have kp1 := Hp.out.c1
              have kp2 := Hp.out.c2
              have kp3 := Hp.out.c3
              have kq0 := Hq.out.c0
              have kq1 := Hq.out.c1
              have kq2 := Hq.out.c2
              have kq3 := Hq.out.c3
              simp only at ka0 ka1 ka2 ka3 kb0 kb1 kb2 kb3 kc0 kc1 kc2 kc3 kx0 kx1 kx2 kx3 ky0 ky1 ky2 ky3 kp0 kp1 kp2 kp3 kq0 kq1 kq2 kq3
              go_wp2
              go_ret
              exact ⟨rfl, HW.out⟩
            · have hd_ye : decide (ye = 0) = false := by simp [hz_ye]
              have hj := HJ.out
              go_wp2
              go_ret
              exact ⟨rfl, HW.out⟩
          | true =>
            go_wp2_with fail
            refine (H7.out _).mono ?_
            rintro e w12 ⟨rfl, hb⟩
            clear ka0 ka1 ka2 ka3 kb0 kb1 kb2 kb3 kc0 kc1 kc2 kc3 kx0 kx1 kx2 kx3 ky0 ky1 ky2 ky3 kp0 kp1 kp2 kp3 kq0 kq1 kq2 kq3
            have HB12 := hb
            replace Ha := Lib.hid (Ha.out.keep HB12)
            replace Hb := Lib.hid (Hb.out.keep HB12)
            replace Hc := Lib.hid (Hc.out.keep HB12)
            replace Hx := Lib.hid (Hx.out.keep HB12)
            replace Hy := Lib.hid (Hy.out.keep HB12)
            replace Hp := Lib.hid (Hp.out.keep HB12)
            replace Hq := Lib.hid (Hq.out.keep HB12)
            replace HW := Lib.hid (HW.out.trans (HB12.mono HW.out.size))
            clear hb HB12
            have ka0 := Ha.out.c0
            have ka1 := Ha.out.c1
            have ka2 := Ha.out.c2
            have ka3 := Ha.out.c3
            have kb0 := Hb.out.c0
            have kb1 := Hb.out.c1
            have kb2 := Hb.out.c2
            have kb3 := Hb.out.c3
            have kc0 := Hc.out.c0
            have kc1 := Hc.out.c1
            have kc2 := Hc.out.c2
            have kc3 := Hc.out.c3
            have kx0 := Hx.out.c0
            have kx1 := Hx.out.c1
            have kx2 := Hx.out.c2
            have kx3 := Hx.out.c3
            have ky0 := Hy.out.c0
            have ky1 := Hy.out.c1
            have ky2 := Hy.out.c2
            have ky3 := Hy.out.c3
            have kp0 := Hp.out.c0
            have kp1 := Hp.out.c1
            have kp2 := Hp.out.c2
            have kp3 := Hp.out.c3
            have kq0 := Hq.out.c0
            have kq1 := Hq.out.c1
            have kq2 := Hq.out.c2
            have kq3 := Hq.out.c3
            simp only at ka0 ka1 ka2 ka3 kb0 kb1 kb2 kb3 kc0 kc1 kc2 kc3 kx0 kx1 kx2 kx3 ky0 ky1 ky2 ky3 kp0 kp1 kp2 kp3 kq0 kq1 kq2 kq3
            cases j2 with
            | false =>
              by_cases hz_ye : ye = 0
              · subst hz_ye
                have hj := HJ.out
                obtain rfl : j3 = false := by simpa using hj.symm
                go_wp2_with fail
                refine (H8.out _).mono ?_
                rintro e w13 ⟨rfl, hb⟩
                clear ka0 ka1 ka2 ka3 kb0 kb1 kb2 kb3 kc0 kc1 kc2 kc3 kx0 kx1 kx2 kx3 ky0 ky1 ky2 ky3 kp0 kp1 kp2 kp3 kq0 kq1 kq2 kq3
                have HB13 := hb
                replace Ha := Lib.hid (Ha.out.keep HB13)
                replace Hb := Lib.hid (Hb.out.keep HB13)
                replace Hc := Lib.hid (Hc.out.keep HB13)
                replace Hx := Lib.hid (Hx.out.keep HB13)
                replace Hy := Lib.hid (Hy.out.keep HB13)
                replace Hp := Lib.hid (Hp.out.keep HB13)
                replace Hq := Lib.hid (Hq.out.keep HB13)
                replace HW := Lib.hid (HW.out.trans (HB13.mono HW.out.size))
                clear hb HB13
                have ka0 := Ha.out.c0
                have ka1 := Ha.out.c1
                have ka2 := Ha.out.c2
                have ka3 := Ha.out.c3
                have kb0 := Hb.out.c0
                have kb1 := Hb.out.c1
                have kb2 := Hb.out.c2
                have kb3 := Hb.out.c3
                have kc0 := Hc.out.c0
                have kc1 := Hc.out.c1
                have kc2 := Hc.out.c2
                have kc3 := Hc.out.c3
                have kx0 := Hx.out.c0
                have kx1 := Hx.out.c1
                have kx2 := Hx.out.c2
                have kx3 := Hx.out.c3
                have ky0 := Hy.out.c0
                have ky1 := Hy.out.c1
                have ky2 := Hy.out.c2
                have ky3 := Hy.out.c3
                have kp0 := Hp.out.c0
                have kp1 := Hp.out.c1
                have kp2 := Hp.out.c2
                have kp3 := Hp.out.c3
                have kq0 := Hq.out.c0
                have kq1 := Hq.out.c1
                have kq2 := Hq.out.c2
                have kq3 := Hq.out.c3
                simp only at ka0 ka1 ka2 ka3 kb0 kb1 kb2 kb3 kc0 kc1 kc2 kc3 kx0 kx1 kx2 kx3 ky0 ky1 ky2 ky3 kp0 kp1 kp2 kp3 kq0 kq1 kq2 kq3
                go_wp2
                go_ret
                exact ⟨rfl, HW.out⟩
              · have hd_ye : decide (ye = 0) = false := by simp [hz_ye]
                have hj := HJ.out
                go_wp2
                go_ret
                exact ⟨rfl, HW.out⟩
            | true =>
              by_cases hz_ye : ye = 0
              · subst hz_ye
                have hj := HJ.out
                obtain rfl : j3 = true := by simpa using hj.symm
                go_wp2_with fail
                refine (H8.out _).mono ?_
                rintro e w13 ⟨rfl, hb⟩
                clear ka0 ka1 ka2 ka3 kb0 kb1 kb2 kb3 kc0 kc1 kc2 kc3 kx0 kx1 kx2 kx3 ky0 ky1 ky2 ky3 kp0 kp1 kp2 kp3 kq0 kq1 kq2 kq3
                have HB13 := hb
                replace Ha := Lib.hid (Ha.out.keep HB13)
                replace Hb := Lib.hid (Hb.out.keep HB13)
                replace Hc := Lib.hid (Hc.out.keep HB13)
                replace Hx := Lib.hid (Hx.out.keep HB13)
                replace Hy := Lib.hid (Hy.out.keep HB13)
                replace Hp := Lib.hid (Hp.out.keep HB13)
                replace Hq := Lib.hid (Hq.out.keep HB13)
                replace HW := Lib.hid (HW.out.trans (HB13.mono HW.out.size))
                clear hb HB13
                have ka0 := Ha.out.c0
                have ka1 := Ha.out.c1
                have ka2 := Ha.out.c2
                have ka3 := Ha.out.c3
                have kb0 := Hb.out.c0
                have kb1 := Hb.out.c1
                have kb2 := Hb.out.c2
                have kb3 := Hb.out.c3
                have kc0 := Hc.out.c0
                have kc1 := Hc.out.c1
                have kc2 := Hc.out.c2
                have kc3 := Hc.out.c3
                have kx0 := Hx.out.c0
                have kx1 := Hx.out.c1
                have kx2 := Hx.out.c2
                have kx3 := Hx.out.c3
                have ky0 := Hy.out.c0
                have ky1 := Hy.out.c1
                have ky2 := Hy.out.c2
                have ky3 := Hy.out.c3
                have kp0 := Hp.out.c0
                have kp1 := Hp.out.c1
                have kp2 := Hp.out.c2
                have kp3 := Hp.out.c3
                have kq0 := Hq.out.c0
                have kq1 := Hq.out.c1
                have kq2 := Hq.out.c2
                have kq3 := Hq.out.c3
                simp only at ka0 ka1 ka2 ka3 kb0 kb1 kb2 kb3 kc0 kc1 kc2 kc3 kx0 kx1 kx2 kx3 ky0 ky1 ky2 ky3 kp0 kp1 kp2 kp3 kq0 kq1 kq2 kq3
                go_wp2
                go_ret
                exact ⟨rfl, HW.out⟩
              · have hd_ye : decide (ye = 0) = false := by simp [hz_ye]
                have hj := HJ.out
                exact absurd hj (by simp [hz_ye])
  · have hd_xe : decide (xe = 0) = false := by simp [hz_xe]
    go_wp2
    go_ret
    exact ⟨rfl, HW.out⟩
end Go.Proofs.Ytbjmibaepccbeaa
