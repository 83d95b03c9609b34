/- Neg, Scale, Div and Width return the specified result or error: the law. -/
import Derived.Test.YtbjmibaepccbeaaIvE
import Derived.Test.YtbjmibaepccbeaaIvW
import Derived.Test.YtbjmibaepccbeaaBoxes
import Derived.Test.YtbjmibaepccbeaaRgn
set_option linter.unusedSimpArgs false
set_option linter.unusedVariables false
namespace Go.Proofs.Ytbjmibaepccbeaa
open Go.RowKit
open Iv

theorem boxes_scales (w : World) (a1 a2 a3 a4 f1 f2 : Int) : AlB ((w.alloc (.cells #[.int .i64 a1, .int .i64 a2, .int .i64 a3, .int .i64 a4] 25)).alloc (.cells #[.int .i64 f1, .int .i64 f2] 23)) (w.heap.size) ((a1, a2), (a3, a4)) ∧ FrB ((w.alloc (.cells #[.int .i64 a1, .int .i64 a2, .int .i64 a3, .int .i64 a4] 25)).alloc (.cells #[.int .i64 f1, .int .i64 f2] 23)) (w.heap.size + 1) (f1, f2) :=
  ⟨⟨by simp [go_sem], by simp [go_sem], by simp [go_sem], by simp [go_sem], by simp; try omega, fun o => by simp [go_sem]⟩, ⟨by simp [go_sem], by simp [go_sem], by simp; try omega, fun o => by simp [go_sem]⟩⟩
set_option maxHeartbeats 16000000 in
set_option maxRecDepth 100000 in
theorem scales_law {a : V} {f : F} (ha : WfV a) (hf : Wf64 f) (w : World) :
    Calls Try.prog 5 #[(.agg #[.int .i64 (a).1.1, .int .i64 (a).1.2, .int .i64 (a).2.1, .int .i64 (a).2.2]), (.agg #[.int .i64 (f).1, .int .i64 (f).2])] w fun e w' => e = .returned (.bool true) ∧ Below w.heap.size w w' := by
  have HAW := Lib.hid (fun w => awake_any w)
  have HS1 := Lib.hid (iscale_any a f ha hf)
  have HV1 := Lib.hid (idiv_any a f ha hf)
  have HX1 := Lib.hid (iwidth_any a ha)
  have HN1 := Lib.hid (ineg_any a ha)
  have HN2 := Lib.hid (rneg8_any a ha)
  have HX2 := Lib.hid (show ∀ W : World, Calls Try.prog 25 #[(.agg #[.int .i64 (a).1.1, .int .i64 (a).1.2, .int .i64 (a).2.1, .int .i64 (a).2.2])] W fun e w' => e = .returned (.tuple #[(.agg #[.int .i64 ((widthV a).1).1, .int .i64 ((widthV a).1).2]), .int .i64 (widthV a).2]) ∧ Below W.heap.size W w' from fun W => by rw [width_of]; exact rwidth_any a ha W)
  have HS2 := Lib.hid (show ∀ W : World, Calls Try.prog 19 #[.int .i64 2, (.agg #[.int .i64 (a).1.1, .int .i64 (a).1.2, .int .i64 (a).2.1, .int .i64 (a).2.2]), (.agg #[.int .i64 (((f, f) : V)).1.1, .int .i64 (((f, f) : V)).1.2, .int .i64 (((f, f) : V)).2.1, .int .i64 (((f, f) : V)).2.2])] W fun e w' => e = .returned (.tuple #[(.agg #[.int .i64 ((scaleV a f).1).1.1, .int .i64 ((scaleV a f).1).1.2, .int .i64 ((scaleV a f).1).2.1, .int .i64 ((scaleV a f).1).2.2]), .int .i64 (scaleV a f).2]) ∧ Below W.heap.size W w' from fun W => by rw [scale_of]; exact rof_any 2 (by decide) a (f, f) ha ⟨hf, hf⟩ W)
  have HV2 := Lib.hid (show ∀ W : World, Calls Try.prog 19 #[.int .i64 5, (.agg #[.int .i64 (a).1.1, .int .i64 (a).1.2, .int .i64 (a).2.1, .int .i64 (a).2.2]), (.agg #[.int .i64 (((f, f) : V)).1.1, .int .i64 (((f, f) : V)).1.2, .int .i64 (((f, f) : V)).2.1, .int .i64 (((f, f) : V)).2.2])] W fun e w' => e = .returned (.tuple #[(.agg #[.int .i64 ((divV a f).1).1.1, .int .i64 ((divV a f).1).1.2, .int .i64 ((divV a f).1).2.1, .int .i64 ((divV a f).1).2.2]), .int .i64 (divV a f).2]) ∧ Below W.heap.size W w' from fun W => by rw [div_of]; exact rof_any 5 (by decide) a (f, f) ha ⟨hf, hf⟩ W)
  have HP := Lib.hid (rpoint_any f)
  clear ha hf
  obtain ⟨⟨a1, a2⟩, ⟨a3, a4⟩⟩ := a
  obtain ⟨f1, f2⟩ := f
  simp only at HS1 HV1 HX1 HN1 HN2 HX2 HS2 HV2 HP
  obtain ⟨X_, e_X_⟩ : ∃ x, scaleV ((a1, a2), (a3, a4)) (f1, f2) = x := ⟨_, rfl⟩
  rw [e_X_] at HS1 HS2
  clear e_X_
  obtain ⟨⟨⟨x1, x2⟩, ⟨x3, x4⟩⟩, xe⟩ := X_
  simp only at HS1 HS2
  obtain ⟨Y_, e_Y_⟩ : ∃ x, divV ((a1, a2), (a3, a4)) (f1, f2) = x := ⟨_, rfl⟩
  rw [e_Y_] at HV1 HV2
  clear e_Y_
  obtain ⟨⟨⟨y1, y2⟩, ⟨y3, y4⟩⟩, ye⟩ := Y_
  simp only at HV1 HV2
  obtain ⟨V_, e_V_⟩ : ∃ x, widthV ((a1, a2), (a3, a4)) = x := ⟨_, rfl⟩
  rw [e_V_] at HX1 HX2
  clear e_V_
  obtain ⟨⟨v1, v2⟩, ve⟩ := V_
  simp only at HX1 HX2
  obtain ⟨N_, e_N_⟩ : ∃ x, negV ((a1, a2), (a3, a4)) = x := ⟨_, rfl⟩
  rw [e_N_] at HN1 HN2
  clear e_N_
  obtain ⟨⟨⟨n1, n2⟩, ⟨n3, n4⟩⟩, ne⟩ := N_
  simp only at HN1 HN2
  have Ha := Lib.hid (boxes_scales w a1 a2 a3 a4 f1 f2).1
  have Hf := Lib.hid (boxes_scales w a1 a2 a3 a4 f1 f2).2
  go_enter Try.func5, Try.ntmps5
  go_wp2_with fail
  refine (HAW.out _).mono ?_
  rintro e w0 ⟨rfl, hb⟩
  replace Ha := Lib.hid (Ha.out.keep hb)
  replace Hf := Lib.hid (Hf.out.keep hb)
  have HW := Lib.hid (show Below w.heap.size w w0 from Below.trans (by repeat (first | with_reducible exact Below.refl _ _ | (with_reducible refine Below.setCell ?_ (by first | exact Nat.le_refl _ | omega | (simp; done) | (simp; omega)) _) | (with_reducible refine Below.alloc ?_ (by first | exact Nat.le_refl _ | omega | (simp; done) | (simp; omega)) _) | with_reducible refine Below.drew ?_ | with_reducible refine bel_drewN ?_ _ | (with_reducible refine bel_by (by with_reducible assumption) (by first | exact Nat.le_refl _ | omega | (simp; done) | (simp; omega)) ?_))) (hb.mono (by simp; omega)))
  clear hb HAW
  have ka0 := Ha.out.c0
  have ka1 := Ha.out.c1
  have ka2 := Ha.out.c2
  have ka3 := Ha.out.c3
  have kf0 := Hf.out.c0
  have kf1 := Hf.out.c1
  simp only at ka0 ka1 ka2 ka3 kf0 kf1
  go_wp2_with fail
  refine (HS1.out _).mono ?_
  rintro e w1 ⟨rfl, hb⟩
  clear ka0 ka1 ka2 ka3 kf0 kf1
  have HB1 := hb.alloc hb.size (.cells #[.int .i64 x1, .int .i64 x2, .int .i64 x3, .int .i64 x4] 25)
  have Hx := Lib.hid (al_new w1 x1 x2 x3 x4)
  replace Ha := Lib.hid (Ha.out.keep HB1)
  replace Hf := Lib.hid (Hf.out.keep HB1)
  replace HW := Lib.hid (HW.out.trans (HB1.mono HW.out.size))
  clear hb HB1
  have ka0 := Ha.out.c0
  have ka1 := Ha.out.c1
  have ka2 := Ha.out.c2
  have ka3 := Ha.out.c3
  have kf0 := Hf.out.c0
  have kf1 := Hf.out.c1
  have kx0 := Hx.out.c0
  have kx1 := Hx.out.c1
  have kx2 := Hx.out.c2
  have kx3 := Hx.out.c3
  simp only at ka0 ka1 ka2 ka3 kf0 kf1 kx0 kx1 kx2 kx3
  go_wp2_with fail
  refine (HV1.out _).mono ?_
  rintro e w2 ⟨rfl, hb⟩
  clear ka0 ka1 ka2 ka3 kf0 kf1 kx0 kx1 kx2 kx3
  have HB2 := hb.alloc hb.size (.cells #[.int .i64 y1, .int .i64 y2, .int .i64 y3, .int .i64 y4] 25)
  have Hy := Lib.hid (al_new w2 y1 y2 y3 y4)
  replace Ha := Lib.hid (Ha.out.keep HB2)
  replace Hf := Lib.hid (Hf.out.keep HB2)
  replace Hx := Lib.hid (Hx.out.keep HB2)
  replace HW := Lib.hid (HW.out.trans (HB2.mono HW.out.size))
  clear hb HB2
  have ka0 := Ha.out.c0
  have ka1 := Ha.out.c1
  have ka2 := Ha.out.c2
  have ka3 := Ha.out.c3
  have kf0 := Hf.out.c0
  have kf1 := Hf.out.c1
  have kx0 := Hx.out.c0
  have kx1 := Hx.out.c1
  have kx2 := Hx.out.c2
  have kx3 := Hx.out.c3
  have ky0 := Hy.out.c0
  have ky1 := Hy.out.c1
  have ky2 := Hy.out.c2
  have ky3 := Hy.out.c3
  simp only at ka0 ka1 ka2 ka3 kf0 kf1 kx0 kx1 kx2 kx3 ky0 ky1 ky2 ky3
  go_wp2_with fail
  refine (HX1.out _).mono ?_
  rintro e w3 ⟨rfl, hb⟩
  clear ka0 ka1 ka2 ka3 kf0 kf1 kx0 kx1 kx2 kx3 ky0 ky1 ky2 ky3
  have HB3 := hb.alloc hb.size (.cells #[.int .i64 v1, .int .i64 v2] 23)
  have Hv := Lib.hid (frb_new w3 v1 v2)
  replace Ha := Lib.hid (Ha.out.keep HB3)
  replace Hf := Lib.hid (Hf.out.keep HB3)
  replace Hx := Lib.hid (Hx.out.keep HB3)
  replace Hy := Lib.hid (Hy.out.keep HB3)
  replace HW := Lib.hid (HW.out.trans (HB3.mono HW.out.size))
  clear hb HB3
  have ka0 := Ha.out.c0
  have ka1 := Ha.out.c1
  have ka2 := Ha.out.c2
  have ka3 := Ha.out.c3
  have kf0 := Hf.out.c0
  have kf1 := Hf.out.c1
  have kx0 := Hx.out.c0
  have kx1 := Hx.out.c1
  have kx2 := Hx.out.c2
  have kx3 := Hx.out.c3
  have ky0 := Hy.out.c0
  have ky1 := Hy.out.c1
  have ky2 := Hy.out.c2
  have ky3 := Hy.out.c3
  have kv0 := Hv.out.c0
  have kv1 := Hv.out.c1
  simp only at ka0 ka1 ka2 ka3 kf0 kf1 kx0 kx1 kx2 kx3 ky0 ky1 ky2 ky3 kv0 kv1
  go_wp2_with fail
  refine (HN1.out _).mono ?_
  rintro e w4 ⟨rfl, hb⟩
  clear ka0 ka1 ka2 ka3 kf0 kf1 kx0 kx1 kx2 kx3 ky0 ky1 ky2 ky3 kv0 kv1
  have HB4 := hb.alloc hb.size (.cells #[.int .i64 n1, .int .i64 n2, .int .i64 n3, .int .i64 n4] 25)
  have Hn := Lib.hid (al_new w4 n1 n2 n3 n4)
  replace Ha := Lib.hid (Ha.out.keep HB4)
  replace Hf := Lib.hid (Hf.out.keep HB4)
  replace Hx := Lib.hid (Hx.out.keep HB4)
  replace Hy := Lib.hid (Hy.out.keep HB4)
  replace Hv := Lib.hid (Hv.out.keep HB4)
  replace HW := Lib.hid (HW.out.trans (HB4.mono HW.out.size))
  clear hb HB4
  have ka0 := Ha.out.c0
  have ka1 := Ha.out.c1
  have ka2 := Ha.out.c2
  have ka3 := Ha.out.c3
  have kf0 := Hf.out.c0
  have kf1 := Hf.out.c1
  have kx0 := Hx.out.c0
  have kx1 := Hx.out.c1
  have kx2 := Hx.out.c2
  have kx3 := Hx.out.c3
  have ky0 := Hy.out.c0
  have ky1 := Hy.out.c1
  have ky2 := Hy.out.c2
  have ky3 := Hy.out.c3
  have kv0 := Hv.out.c0
  have kv1 := Hv.out.c1
  have kn0 := Hn.out.c0
  have kn1 := Hn.out.c1
  have kn2 := Hn.out.c2
  have kn3 := Hn.out.c3
  simp only at ka0 ka1 ka2 ka3 kf0 kf1 kx0 kx1 kx2 kx3 ky0 ky1 ky2 ky3 kv0 kv1 kn0 kn1 kn2 kn3
  go_wp2_with fail
  go_cut [13, 14] (fun s13 s14 wx => ∃ nb, s13 = .pointer (some ⟨nb, 0, none⟩) ∧ s14 = .int .i64 xe ∧ Hid (AlB wx nb ((x1, x2), (x3, x4))) ∧ Hid (Below (w4.alloc (.cells #[.int .i64 n1, .int .i64 n2, .int .i64 n3, .int .i64 n4] 25)).heap.size (w4.alloc (.cells #[.int .i64 n1, .int .i64 n2, .int .i64 n3, .int .i64 n4] 25)) wx))
  case first =>
    refine wp_region_s (fun w' => w'.cell? ⟨w.heap.size, 0, none⟩ = some (.int .i64 a1) ∧ w'.cell? ⟨w.heap.size, 1, none⟩ = some (.int .i64 a2) ∧ w'.cell? ⟨w.heap.size, 2, none⟩ = some (.int .i64 a3) ∧ w'.cell? ⟨w.heap.size, 3, none⟩ = some (.int .i64 a4) ∧ w'.cell? ⟨w.heap.size + 1, 0, none⟩ = some (.int .i64 f1) ∧ w'.cell? ⟨w.heap.size + 1, 1, none⟩ = some (.int .i64 f2)) 3 (by kernel_rfl) ?_
    refine AnyS.take (i := 0) (v := (.agg #[.int .i64 a1, .int .i64 a2, .int .i64 a3, .int .i64 a4])) [3] rfl (by kernel_rfl) (by kernel_rfl) (by kernel_rfl) (by kernel_rfl) (fun _ _ _ h => h) ⟨ka0, ka1, ka2, ka3, kf0, kf1⟩ (Or.inl ⟨by rfl, fun w' hw' => (by obtain ⟨t0, t1, t2, t3, t4, t5⟩ := hw'; go_simp)⟩) ?_
    simp only [Act.put, List.setIfInBounds_toArray, List.set_cons_zero, List.set_cons_succ]
    refine AnyS.take (i := 1) (v := (.agg #[.int .i64 f1, .int .i64 f2])) [2, 3] rfl (by kernel_rfl) (by kernel_rfl) (by kernel_rfl) (by kernel_rfl) (fun _ _ _ h => h) ⟨ka0, ka1, ka2, ka3, kf0, kf1⟩ (Or.inl ⟨by rfl, fun w' hw' => (by obtain ⟨t0, t1, t2, t3, t4, t5⟩ := hw'; go_simp)⟩) ?_
    simp only [Act.put, List.setIfInBounds_toArray, List.set_cons_zero, List.set_cons_succ]
    clear ka0 ka1 ka2 ka3 kf0 kf1 kx0 kx1 kx2 kx3 ky0 ky1 ky2 ky3 kv0 kv1 kn0 kn1 kn2 kn3
    refine AnyS.step2 (i := 2) (j := 7) rfl rfl (by kernel_rfl) (fun K hK => ?_) (fun K hK => ?_)
    · skip
      go_simp
      refine (HP.out _).mono ?_
      rintro e v5 ⟨rfl, hb⟩
      replace hb := undrew hb
      have HQ := hb
      clear hb
      have HAq := Ha.out.keep HQ
      have HFq := Hf.out.keep HQ
      go_wp2_with fail
      refine hK.out _ _ (fun _ => ⟨HAq.c0, HAq.c1, HAq.c2, HAq.c3, HFq.c0, HFq.c1⟩) ?_
      clear hK
      refine AnyS.step2 (i := 3) (j := 7) rfl rfl (by kernel_rfl) (fun K hK => ?_) (fun K hK => ?_)
      · skip
        go_simp
        refine (HS2.out _).mono ?_
        rintro e v6 ⟨rfl, hb⟩
        replace HQ := HQ.trans (hb.mono HQ.size)
        clear hb HAq HFq
        have HAq := Ha.out.keep HQ
        have HFq := Hf.out.keep HQ
        go_wp2_with fail
        refine hK.out _ _ (fun _ => ⟨HAq.c0, HAq.c1, HAq.c2, HAq.c3, HFq.c0, HFq.c1⟩) ?_
        clear hK
        refine AnyS.take0 (i := 4) (v := (.tuple #[.agg #[.int .i64 x1, .int .i64 x2, .int .i64 x3, .int .i64 x4], .int .i64 xe])) rfl (by kernel_rfl) (by kernel_rfl) (by kernel_rfl) (by kernel_rfl) (fun _ _ _ h => h) (fun _ => ⟨HAq.c0, HAq.c1, HAq.c2, HAq.c3, HFq.c0, HFq.c1⟩) (Or.inl ⟨by rfl, fun w' _ => (by go_simp)⟩) ?_
        simp only [Act.put, List.setIfInBounds_toArray, List.set_cons_zero, List.set_cons_succ]
        refine AnyS.take0 (i := 5) (v := (.agg #[.int .i64 x1, .int .i64 x2, .int .i64 x3, .int .i64 x4])) rfl (by kernel_rfl) (by kernel_rfl) (by kernel_rfl) (by kernel_rfl) (fun _ _ _ h => h) (fun _ => ⟨HAq.c0, HAq.c1, HAq.c2, HAq.c3, HFq.c0, HFq.c1⟩) (Or.inl ⟨by rfl, fun w' _ => (by go_simp)⟩) ?_
        simp only [Act.put, List.setIfInBounds_toArray, List.set_cons_zero, List.set_cons_succ]
        refine AnyS.take0 (i := 6) (v := (.int .i64 xe)) rfl (by kernel_rfl) (by kernel_rfl) (by kernel_rfl) (by kernel_rfl) (fun _ _ _ h => h) (fun _ => ⟨HAq.c0, HAq.c1, HAq.c2, HAq.c3, HFq.c0, HFq.c1⟩) (Or.inl ⟨by rfl, fun w' _ => (by go_simp)⟩) ?_
        simp only [Act.put, List.setIfInBounds_toArray, List.set_cons_zero, List.set_cons_succ]
        refine AnyS.rest 7 (by kernel_rfl) rfl (by kernel_rfl) ?_
        change wpList _ _ _ [_, _, _] _ _
        go_wp2_with fail
        go_meet
        exact ⟨_, rfl, rfl, Lib.hid (al_new _ _ _ _ _), Lib.hid (HQ.alloc HQ.size _)⟩
      · skip
        go_simp
        have HZ := al_new v5 0 0 0 0
        have hnb : (w4.alloc (.cells #[.int .i64 n1, .int .i64 n2, .int .i64 n3, .int .i64 n4] 25)).heap.size ≤ v5.heap.size := HQ.size
        replace HQ := HQ.alloc HQ.size (.cells #[.int .i64 0, .int .i64 0, .int .i64 0, .int .i64 0] 25)
        clear HAq HFq
        have HAq := Ha.out.keep HQ
        have HFq := Hf.out.keep HQ
        refine hK.out _ _ (fun _ => ⟨HAq.c0, HAq.c1, HAq.c2, HAq.c3, HFq.c0, HFq.c1⟩) ?_
        clear hK
        refine AnyS.step (j := 3) rfl (by kernel_rfl) (fun K hK => ?_)
        go_simp
        refine (HS2.out _).mono ?_
        rintro e v6 ⟨rfl, hb⟩
        replace HQ := HQ.trans (hb.mono HQ.size)
        replace HZ := HZ.keep hb
        clear hb HAq HFq
        have HAq := Ha.out.keep HQ
        have HFq := Hf.out.keep HQ
        go_wp2_with fail
        refine hK.out _ _ (fun _ => ⟨HAq.c0, HAq.c1, HAq.c2, HAq.c3, HFq.c0, HFq.c1⟩) ?_
        clear hK
        refine AnyS.take0 (i := 4) (v := (.tuple #[.agg #[.int .i64 x1, .int .i64 x2, .int .i64 x3, .int .i64 x4], .int .i64 xe])) rfl (by kernel_rfl) (by kernel_rfl) (by kernel_rfl) (by kernel_rfl) (fun _ _ _ h => h) (fun _ => ⟨HAq.c0, HAq.c1, HAq.c2, HAq.c3, HFq.c0, HFq.c1⟩) (Or.inl ⟨by rfl, fun w' _ => (by go_simp)⟩) ?_
        simp only [Act.put, List.setIfInBounds_toArray, List.set_cons_zero, List.set_cons_succ]
        refine AnyS.take0 (i := 5) (v := (.agg #[.int .i64 x1, .int .i64 x2, .int .i64 x3, .int .i64 x4])) rfl (by kernel_rfl) (by kernel_rfl) (by kernel_rfl) (by kernel_rfl) (fun _ _ _ h => h) (fun _ => ⟨HAq.c0, HAq.c1, HAq.c2, HAq.c3, HFq.c0, HFq.c1⟩) (Or.inl ⟨by rfl, fun w' _ => (by go_simp)⟩) ?_
        simp only [Act.put, List.setIfInBounds_toArray, List.set_cons_zero, List.set_cons_succ]
        refine AnyS.take0 (i := 6) (v := (.int .i64 xe)) rfl (by kernel_rfl) (by kernel_rfl) (by kernel_rfl) (by kernel_rfl) (fun _ _ _ h => h) (fun _ => ⟨HAq.c0, HAq.c1, HAq.c2, HAq.c3, HFq.c0, HFq.c1⟩) (Or.inl ⟨by rfl, fun w' _ => (by go_simp)⟩) ?_
        simp only [Act.put, List.setIfInBounds_toArray, List.set_cons_zero, List.set_cons_succ]
        refine AnyS.rest 8 (by kernel_rfl) rfl (by kernel_rfl) ?_
        change wpList _ _ _ [_, _] _ _
        have e0 := HZ.c0
        have e1 := HZ.c1
        have e2 := HZ.c2
        have e3 := HZ.c3
        have ef := HZ.fr
        simp only at e0 e1 e2 e3
        go_wp2_with fail
        go_meet
        exact ⟨_, rfl, rfl, Lib.hid (HZ.put4 _ _ _ _), Lib.hid (bset (bset (bset (bset HQ hnb _) hnb _) hnb _) hnb _)⟩
    · skip
      have HQ := Below.refl (w4.alloc (.cells #[.int .i64 n1, .int .i64 n2, .int .i64 n3, .int .i64 n4] 25)).heap.size (w4.alloc (.cells #[.int .i64 n1, .int .i64 n2, .int .i64 n3, .int .i64 n4] 25))
      go_simp
      have HZ := al_new (w4.alloc (.cells #[.int .i64 n1, .int .i64 n2, .int .i64 n3, .int .i64 n4] 25)) 0 0 0 0
      have hnb : (w4.alloc (.cells #[.int .i64 n1, .int .i64 n2, .int .i64 n3, .int .i64 n4] 25)).heap.size ≤ (w4.alloc (.cells #[.int .i64 n1, .int .i64 n2, .int .i64 n3, .int .i64 n4] 25)).heap.size := HQ.size
      replace HQ := HQ.alloc HQ.size (.cells #[.int .i64 0, .int .i64 0, .int .i64 0, .int .i64 0] 25)
      have hsz : (w4.alloc (.cells #[.int .i64 n1, .int .i64 n2, .int .i64 n3, .int .i64 n4] 25)).heap.size = w4.heap.size + 1 := by simp
      replace hnb : (w4.alloc (.cells #[.int .i64 n1, .int .i64 n2, .int .i64 n3, .int .i64 n4] 25)).heap.size ≤ w4.heap.size + 1 := by rw [hsz]; exact Nat.le_refl _
      rw [hsz] at HZ
      clear hsz
      have HAq := Ha.out.keep HQ
      have HFq := Hf.out.keep HQ
      refine hK.out _ _ (fun _ => ⟨HAq.c0, HAq.c1, HAq.c2, HAq.c3, HFq.c0, HFq.c1⟩) ?_
      clear hK
      refine AnyS.step (j := 2) rfl (by kernel_rfl) (fun K hK => ?_)
      go_simp
      refine (HP.out _).mono ?_
      rintro e v5 ⟨rfl, hb⟩
      replace hb := undrew hb
      replace HQ := HQ.trans (hb.mono HQ.size)
      replace HZ := HZ.keep hb
      clear hb HAq HFq
      have HAq := Ha.out.keep HQ
      have HFq := Hf.out.keep HQ
      go_wp2_with fail
      refine hK.out _ _ (fun _ => ⟨HAq.c0, HAq.c1, HAq.c2, HAq.c3, HFq.c0, HFq.c1⟩) ?_
      clear hK
      refine AnyS.step (j := 3) rfl (by kernel_rfl) (fun K hK => ?_)
      go_simp
      refine (HS2.out _).mono ?_
      rintro e v6 ⟨rfl, hb⟩
      replace HQ := HQ.trans (hb.mono HQ.size)
      replace HZ := HZ.keep hb
      clear hb HAq HFq
      have HAq := Ha.out.keep HQ
      have HFq := Hf.out.keep HQ
      go_wp2_with fail
      refine hK.out _ _ (fun _ => ⟨HAq.c0, HAq.c1, HAq.c2, HAq.c3, HFq.c0, HFq.c1⟩) ?_
      clear hK
      refine AnyS.take0 (i := 4) (v := (.tuple #[.agg #[.int .i64 x1, .int .i64 x2, .int .i64 x3, .int .i64 x4], .int .i64 xe])) rfl (by kernel_rfl) (by kernel_rfl) (by kernel_rfl) (by kernel_rfl) (fun _ _ _ h => h) (fun _ => ⟨HAq.c0, HAq.c1, HAq.c2, HAq.c3, HFq.c0, HFq.c1⟩) (Or.inl ⟨by rfl, fun w' _ => (by go_simp)⟩) ?_
      simp only [Act.put, List.setIfInBounds_toArray, List.set_cons_zero, List.set_cons_succ]
      refine AnyS.take0 (i := 5) (v := (.agg #[.int .i64 x1, .int .i64 x2, .int .i64 x3, .int .i64 x4])) rfl (by kernel_rfl) (by kernel_rfl) (by kernel_rfl) (by kernel_rfl) (fun _ _ _ h => h) (fun _ => ⟨HAq.c0, HAq.c1, HAq.c2, HAq.c3, HFq.c0, HFq.c1⟩) (Or.inl ⟨by rfl, fun w' _ => (by go_simp)⟩) ?_
      simp only [Act.put, List.setIfInBounds_toArray, List.set_cons_zero, List.set_cons_succ]
      refine AnyS.take0 (i := 6) (v := (.int .i64 xe)) rfl (by kernel_rfl) (by kernel_rfl) (by kernel_rfl) (by kernel_rfl) (fun _ _ _ h => h) (fun _ => ⟨HAq.c0, HAq.c1, HAq.c2, HAq.c3, HFq.c0, HFq.c1⟩) (Or.inl ⟨by rfl, fun w' _ => (by go_simp)⟩) ?_
      simp only [Act.put, List.setIfInBounds_toArray, List.set_cons_zero, List.set_cons_succ]
      refine AnyS.rest 8 (by kernel_rfl) rfl (by kernel_rfl) ?_
      change wpList _ _ _ [_, _] _ _
      have e0 := HZ.c0
      have e1 := HZ.c1
      have e2 := HZ.c2
      have e3 := HZ.c3
      have ef := HZ.fr
      simp only at e0 e1 e2 e3
      go_wp2_with fail
      go_meet
      exact ⟨_, rfl, rfl, Lib.hid (HZ.put4 _ _ _ _), Lib.hid (bset (bset (bset (bset HQ hnb _) hnb _) hnb _) hnb _)⟩
  case rest =>
    clear ka0 ka1 ka2 ka3 kf0 kf1 kx0 kx1 kx2 kx3 ky0 ky1 ky2 ky3 kv0 kv1 kn0 kn1 kn2 kn3
    obtain ⟨pb, rfl, rfl, Hp, HQ⟩ := hcut
    replace Ha := Lib.hid (Ha.out.keep HQ.out)
    replace Hf := Lib.hid (Hf.out.keep HQ.out)
    replace Hx := Lib.hid (Hx.out.keep HQ.out)
    replace Hy := Lib.hid (Hy.out.keep HQ.out)
    replace Hv := Lib.hid (Hv.out.keep HQ.out)
    replace Hn := Lib.hid (Hn.out.keep HQ.out)
    replace HW := Lib.hid (HW.out.trans (HQ.out.mono HW.out.size))
    clear HQ
    generalize wc = pw at *
    have ka0 := Ha.out.c0
    have ka1 := Ha.out.c1
    have ka2 := Ha.out.c2
    have ka3 := Ha.out.c3
    have kf0 := Hf.out.c0
    have kf1 := Hf.out.c1
    have kx0 := Hx.out.c0
    have kx1 := Hx.out.c1
    have kx2 := Hx.out.c2
    have kx3 := Hx.out.c3
    have ky0 := Hy.out.c0
    have ky1 := Hy.out.c1
    have ky2 := Hy.out.c2
    have ky3 := Hy.out.c3
    have kv0 := Hv.out.c0
    have kv1 := Hv.out.c1
    have kn0 := Hn.out.c0
    have kn1 := Hn.out.c1
    have kn2 := Hn.out.c2
    have kn3 := Hn.out.c3
    have kp0 := Hp.out.c0
    have kp1 := Hp.out.c1
    have kp2 := Hp.out.c2
    have kp3 := Hp.out.c3
    simp only at ka0 ka1 ka2 ka3 kf0 kf1 kx0 kx1 kx2 kx3 ky0 ky1 ky2 ky3 kv0 kv1 kn0 kn1 kn2 kn3 kp0 kp1 kp2 kp3
    go_wp2_with fail
    go_cut [15, 16] (fun s15 s16 wx => ∃ nb, s15 = .pointer (some ⟨nb, 0, none⟩) ∧ s16 = .int .i64 ye ∧ Hid (AlB wx nb ((y1, y2), (y3, y4))) ∧ Hid (Below pw.heap.size pw wx))
    case first =>
      refine wp_region_s (fun w' => w'.cell? ⟨w.heap.size, 0, none⟩ = some (.int .i64 a1) ∧ w'.cell? ⟨w.heap.size, 1, none⟩ = some (.int .i64 a2) ∧ w'.cell? ⟨w.heap.size, 2, none⟩ = some (.int .i64 a3) ∧ w'.cell? ⟨w.heap.size, 3, none⟩ = some (.int .i64 a4) ∧ w'.cell? ⟨w.heap.size + 1, 0, none⟩ = some (.int .i64 f1) ∧ w'.cell? ⟨w.heap.size + 1, 1, none⟩ = some (.int .i64 f2)) 3 (by kernel_rfl) ?_
      refine AnyS.take (i := 0) (v := (.agg #[.int .i64 a1, .int .i64 a2, .int .i64 a3, .int .i64 a4])) [3] rfl (by kernel_rfl) (by kernel_rfl) (by kernel_rfl) (by kernel_rfl) (fun _ _ _ h => h) ⟨ka0, ka1, ka2, ka3, kf0, kf1⟩ (Or.inl ⟨by rfl, fun w' hw' => (by obtain ⟨t0, t1, t2, t3, t4, t5⟩ := hw'; go_simp)⟩) ?_
      simp only [Act.put, List.setIfInBounds_toArray, List.set_cons_zero, List.set_cons_succ]
      refine AnyS.take (i := 1) (v := (.agg #[.int .i64 f1, .int .i64 f2])) [2, 3] rfl (by kernel_rfl) (by kernel_rfl) (by kernel_rfl) (by kernel_rfl) (fun _ _ _ h => h) ⟨ka0, ka1, ka2, ka3, kf0, kf1⟩ (Or.inl ⟨by rfl, fun w' hw' => (by obtain ⟨t0, t1, t2, t3, t4, t5⟩ := hw'; go_simp)⟩) ?_
      simp only [Act.put, List.setIfInBounds_toArray, List.set_cons_zero, List.set_cons_succ]
      clear ka0 ka1 ka2 ka3 kf0 kf1 kx0 kx1 kx2 kx3 ky0 ky1 ky2 ky3 kv0 kv1 kn0 kn1 kn2 kn3 kp0 kp1 kp2 kp3
      refine AnyS.step2 (i := 2) (j := 7) rfl rfl (by kernel_rfl) (fun K hK => ?_) (fun K hK => ?_)
      · skip
        go_simp
        refine (HP.out _).mono ?_
        rintro e v5 ⟨rfl, hb⟩
        replace hb := undrew hb
        have HQ := hb
        clear hb
        have HAq := Ha.out.keep HQ
        have HFq := Hf.out.keep HQ
        go_wp2_with fail
        refine hK.out _ _ (fun _ => ⟨HAq.c0, HAq.c1, HAq.c2, HAq.c3, HFq.c0, HFq.c1⟩) ?_
        clear hK
        refine AnyS.step2 (i := 3) (j := 7) rfl rfl (by kernel_rfl) (fun K hK => ?_) (fun K hK => ?_)
        · skip
          go_simp
          refine (HV2.out _).mono ?_
          rintro e v6 ⟨rfl, hb⟩
          replace HQ := HQ.trans (hb.mono HQ.size)
          clear hb HAq HFq
          have HAq := Ha.out.keep HQ
          have HFq := Hf.out.keep HQ
          go_wp2_with fail
          refine hK.out _ _ (fun _ => ⟨HAq.c0, HAq.c1, HAq.c2, HAq.c3, HFq.c0, HFq.c1⟩) ?_
          clear hK
          refine AnyS.take0 (i := 4) (v := (.tuple #[.agg #[.int .i64 y1, .int .i64 y2, .int .i64 y3, .int .i64 y4], .int .i64 ye])) rfl (by kernel_rfl) (by kernel_rfl) (by kernel_rfl) (by kernel_rfl) (fun _ _ _ h => h) (fun _ => ⟨HAq.c0, HAq.c1, HAq.c2, HAq.c3, HFq.c0, HFq.c1⟩) (Or.inl ⟨by rfl, fun w' _ => (by go_simp)⟩) ?_
          simp only [Act.put, List.setIfInBounds_toArray, List.set_cons_zero, List.set_cons_succ]
          refine AnyS.take0 (i := 5) (v := (.agg #[.int .i64 y1, .int .i64 y2, .int .i64 y3, .int .i64 y4])) rfl (by kernel_rfl) (by kernel_rfl) (by kernel_rfl) (by kernel_rfl) (fun _ _ _ h => h) (fun _ => ⟨HAq.c0, HAq.c1, HAq.c2, HAq.c3, HFq.c0, HFq.c1⟩) (Or.inl ⟨by rfl, fun w' _ => (by go_simp)⟩) ?_
          simp only [Act.put, List.setIfInBounds_toArray, List.set_cons_zero, List.set_cons_succ]
          refine AnyS.take0 (i := 6) (v := (.int .i64 ye)) rfl (by kernel_rfl) (by kernel_rfl) (by kernel_rfl) (by kernel_rfl) (fun _ _ _ h => h) (fun _ => ⟨HAq.c0, HAq.c1, HAq.c2, HAq.c3, HFq.c0, HFq.c1⟩) (Or.inl ⟨by rfl, fun w' _ => (by go_simp)⟩) ?_
          simp only [Act.put, List.setIfInBounds_toArray, List.set_cons_zero, List.set_cons_succ]
          refine AnyS.rest 7 (by kernel_rfl) rfl (by kernel_rfl) ?_
          change wpList _ _ _ [_, _, _] _ _
          go_wp2_with fail
          go_meet
          exact ⟨_, rfl, rfl, Lib.hid (al_new _ _ _ _ _), Lib.hid (HQ.alloc HQ.size _)⟩
        · skip
          go_simp
          have HZ := al_new v5 0 0 0 0
          have hnb : pw.heap.size ≤ v5.heap.size := HQ.size
          replace HQ := HQ.alloc HQ.size (.cells #[.int .i64 0, .int .i64 0, .int .i64 0, .int .i64 0] 25)
          clear HAq HFq
          have HAq := Ha.out.keep HQ
          have HFq := Hf.out.keep HQ
          refine hK.out _ _ (fun _ => ⟨HAq.c0, HAq.c1, HAq.c2, HAq.c3, HFq.c0, HFq.c1⟩) ?_
          clear hK
          refine AnyS.step (j := 3) rfl (by kernel_rfl) (fun K hK => ?_)
          go_simp
          refine (HV2.out _).mono ?_
          rintro e v6 ⟨rfl, hb⟩
          replace HQ := HQ.trans (hb.mono HQ.size)
          replace HZ := HZ.keep hb
          clear hb HAq HFq
          have HAq := Ha.out.keep HQ
          have HFq := Hf.out.keep HQ
          go_wp2_with fail
          refine hK.out _ _ (fun _ => ⟨HAq.c0, HAq.c1, HAq.c2, HAq.c3, HFq.c0, HFq.c1⟩) ?_
          clear hK
          refine AnyS.take0 (i := 4) (v := (.tuple #[.agg #[.int .i64 y1, .int .i64 y2, .int .i64 y3, .int .i64 y4], .int .i64 ye])) rfl (by kernel_rfl) (by kernel_rfl) (by kernel_rfl) (by kernel_rfl) (fun _ _ _ h => h) (fun _ => ⟨HAq.c0, HAq.c1, HAq.c2, HAq.c3, HFq.c0, HFq.c1⟩) (Or.inl ⟨by rfl, fun w' _ => (by go_simp)⟩) ?_
          simp only [Act.put, List.setIfInBounds_toArray, List.set_cons_zero, List.set_cons_succ]
          refine AnyS.take0 (i := 5) (v := (.agg #[.int .i64 y1, .int .i64 y2, .int .i64 y3, .int .i64 y4])) rfl (by kernel_rfl) (by kernel_rfl) (by kernel_rfl) (by kernel_rfl) (fun _ _ _ h => h) (fun _ => ⟨HAq.c0, HAq.c1, HAq.c2, HAq.c3, HFq.c0, HFq.c1⟩) (Or.inl ⟨by rfl, fun w' _ => (by go_simp)⟩) ?_
          simp only [Act.put, List.setIfInBounds_toArray, List.set_cons_zero, List.set_cons_succ]
          refine AnyS.take0 (i := 6) (v := (.int .i64 ye)) rfl (by kernel_rfl) (by kernel_rfl) (by kernel_rfl) (by kernel_rfl) (fun _ _ _ h => h) (fun _ => ⟨HAq.c0, HAq.c1, HAq.c2, HAq.c3, HFq.c0, HFq.c1⟩) (Or.inl ⟨by rfl, fun w' _ => (by go_simp)⟩) ?_
          simp only [Act.put, List.setIfInBounds_toArray, List.set_cons_zero, List.set_cons_succ]
          refine AnyS.rest 8 (by kernel_rfl) rfl (by kernel_rfl) ?_
          change wpList _ _ _ [_, _] _ _
          have e0 := HZ.c0
          have e1 := HZ.c1
          have e2 := HZ.c2
          have e3 := HZ.c3
          have ef := HZ.fr
          simp only at e0 e1 e2 e3
          go_wp2_with fail
          go_meet
          exact ⟨_, rfl, rfl, Lib.hid (HZ.put4 _ _ _ _), Lib.hid (bset (bset (bset (bset HQ hnb _) hnb _) hnb _) hnb _)⟩
      · skip
        have HQ := Below.refl pw.heap.size pw
        go_simp
        have HZ := al_new pw 0 0 0 0
        have hnb : pw.heap.size ≤ pw.heap.size := HQ.size
        replace HQ := HQ.alloc HQ.size (.cells #[.int .i64 0, .int .i64 0, .int .i64 0, .int .i64 0] 25)
        have HAq := Ha.out.keep HQ
        have HFq := Hf.out.keep HQ
        refine hK.out _ _ (fun _ => ⟨HAq.c0, HAq.c1, HAq.c2, HAq.c3, HFq.c0, HFq.c1⟩) ?_
        clear hK
        refine AnyS.step (j := 2) rfl (by kernel_rfl) (fun K hK => ?_)
        go_simp
        refine (HP.out _).mono ?_
        rintro e v5 ⟨rfl, hb⟩
        replace hb := undrew hb
        replace HQ := HQ.trans (hb.mono HQ.size)
        replace HZ := HZ.keep hb
        clear hb HAq HFq
        have HAq := Ha.out.keep HQ
        have HFq := Hf.out.keep HQ
        go_wp2_with fail
        refine hK.out _ _ (fun _ => ⟨HAq.c0, HAq.c1, HAq.c2, HAq.c3, HFq.c0, HFq.c1⟩) ?_
        clear hK
        refine AnyS.step (j := 3) rfl (by kernel_rfl) (fun K hK => ?_)
        go_simp
        refine (HV2.out _).mono ?_
        rintro e v6 ⟨rfl, hb⟩
        replace HQ := HQ.trans (hb.mono HQ.size)
        replace HZ := HZ.keep hb
        clear hb HAq HFq
        have HAq := Ha.out.keep HQ
        have HFq := Hf.out.keep HQ
        go_wp2_with fail
        refine hK.out _ _ (fun _ => ⟨HAq.c0, HAq.c1, HAq.c2, HAq.c3, HFq.c0, HFq.c1⟩) ?_
        clear hK
        refine AnyS.take0 (i := 4) (v := (.tuple #[.agg #[.int .i64 y1, .int .i64 y2, .int .i64 y3, .int .i64 y4], .int .i64 ye])) rfl (by kernel_rfl) (by kernel_rfl) (by kernel_rfl) (by kernel_rfl) (fun _ _ _ h => h) (fun _ => ⟨HAq.c0, HAq.c1, HAq.c2, HAq.c3, HFq.c0, HFq.c1⟩) (Or.inl ⟨by rfl, fun w' _ => (by go_simp)⟩) ?_
        simp only [Act.put, List.setIfInBounds_toArray, List.set_cons_zero, List.set_cons_succ]
        refine AnyS.take0 (i := 5) (v := (.agg #[.int .i64 y1, .int .i64 y2, .int .i64 y3, .int .i64 y4])) rfl (by kernel_rfl) (by kernel_rfl) (by kernel_rfl) (by kernel_rfl) (fun _ _ _ h => h) (fun _ => ⟨HAq.c0, HAq.c1, HAq.c2, HAq.c3, HFq.c0, HFq.c1⟩) (Or.inl ⟨by rfl, fun w' _ => (by go_simp)⟩) ?_
        simp only [Act.put, List.setIfInBounds_toArray, List.set_cons_zero, List.set_cons_succ]
        refine AnyS.take0 (i := 6) (v := (.int .i64 ye)) rfl (by kernel_rfl) (by kernel_rfl) (by kernel_rfl) (by kernel_rfl) (fun _ _ _ h => h) (fun _ => ⟨HAq.c0, HAq.c1, HAq.c2, HAq.c3, HFq.c0, HFq.c1⟩) (Or.inl ⟨by rfl, fun w' _ => (by go_simp)⟩) ?_
        simp only [Act.put, List.setIfInBounds_toArray, List.set_cons_zero, List.set_cons_succ]
        refine AnyS.rest 8 (by kernel_rfl) rfl (by kernel_rfl) ?_
        change wpList _ _ _ [_, _] _ _
        have e0 := HZ.c0
        have e1 := HZ.c1
        have e2 := HZ.c2
        have e3 := HZ.c3
        have ef := HZ.fr
        simp only at e0 e1 e2 e3
        go_wp2_with fail
        go_meet
        exact ⟨_, rfl, rfl, Lib.hid (HZ.put4 _ _ _ _), Lib.hid (bset (bset (bset (bset HQ hnb _) hnb _) hnb _) hnb _)⟩
    case rest =>
      clear ka0 ka1 ka2 ka3 kf0 kf1 kx0 kx1 kx2 kx3 ky0 ky1 ky2 ky3 kv0 kv1 kn0 kn1 kn2 kn3 kp0 kp1 kp2 kp3
      obtain ⟨qb, rfl, rfl, Hq, HQ⟩ := hcut
      replace Ha := Lib.hid (Ha.out.keep HQ.out)
      replace Hf := Lib.hid (Hf.out.keep HQ.out)
      replace Hx := Lib.hid (Hx.out.keep HQ.out)
      replace Hy := Lib.hid (Hy.out.keep HQ.out)
      replace Hv := Lib.hid (Hv.out.keep HQ.out)
      replace Hn := Lib.hid (Hn.out.keep HQ.out)
      replace Hp := Lib.hid (Hp.out.keep HQ.out)
      replace HW := Lib.hid (HW.out.trans (HQ.out.mono HW.out.size))
      clear HQ
      generalize wc = qw at *
      have ka0 := Ha.out.c0
      have ka1 := Ha.out.c1
      have ka2 := Ha.out.c2
      have ka3 := Ha.out.c3
      have kf0 := Hf.out.c0
      have kf1 := Hf.out.c1
      have kx0 := Hx.out.c0
      have kx1 := Hx.out.c1
      have kx2 := Hx.out.c2
      have kx3 := Hx.out.c3
      have ky0 := Hy.out.c0
      have ky1 := Hy.out.c1
      have ky2 := Hy.out.c2
      have ky3 := Hy.out.c3
      have kv0 := Hv.out.c0
      have kv1 := Hv.out.c1
      have kn0 := Hn.out.c0
      have kn1 := Hn.out.c1
      have kn2 := Hn.out.c2
      have kn3 := Hn.out.c3
      have kp0 := Hp.out.c0
      have kp1 := Hp.out.c1
      have kp2 := Hp.out.c2
      have kp3 := Hp.out.c3
      have kq0 := Hq.out.c0
      have kq1 := Hq.out.c1
      have kq2 := Hq.out.c2
      have kq3 := Hq.out.c3
      simp only at ka0 ka1 ka2 ka3 kf0 kf1 kx0 kx1 kx2 kx3 ky0 ky1 ky2 ky3 kv0 kv1 kn0 kn1 kn2 kn3 kp0 kp1 kp2 kp3 kq0 kq1 kq2 kq3
      go_wp2_with fail
      refine (HX2.out _).mono ?_
      rintro e w5 ⟨rfl, hb⟩
      clear ka0 ka1 ka2 ka3 kf0 kf1 kx0 kx1 kx2 kx3 ky0 ky1 ky2 ky3 kv0 kv1 kn0 kn1 kn2 kn3 kp0 kp1 kp2 kp3 kq0 kq1 kq2 kq3
      have HB5 := hb.alloc hb.size (.cells #[.int .i64 v1, .int .i64 v2] 23)
      have Hr := Lib.hid (frb_new w5 v1 v2)
      replace Ha := Lib.hid (Ha.out.keep HB5)
      replace Hf := Lib.hid (Hf.out.keep HB5)
      replace Hx := Lib.hid (Hx.out.keep HB5)
      replace Hy := Lib.hid (Hy.out.keep HB5)
      replace Hv := Lib.hid (Hv.out.keep HB5)
      replace Hn := Lib.hid (Hn.out.keep HB5)
      replace Hp := Lib.hid (Hp.out.keep HB5)
      replace Hq := Lib.hid (Hq.out.keep HB5)
      replace HW := Lib.hid (HW.out.trans (HB5.mono HW.out.size))
      clear hb HB5
      have ka0 := Ha.out.c0
      have ka1 := Ha.out.c1
      have ka2 := Ha.out.c2
      have ka3 := Ha.out.c3
      have kf0 := Hf.out.c0
      have kf1 := Hf.out.c1
      have kx0 := Hx.out.c0
      have kx1 := Hx.out.c1
      have kx2 := Hx.out.c2
      have kx3 := Hx.out.c3
      have ky0 := Hy.out.c0
      have ky1 := Hy.out.c1
      have ky2 := Hy.out.c2
      have ky3 := Hy.out.c3
      have kv0 := Hv.out.c0
      have kv1 := Hv.out.c1
      have kn0 := Hn.out.c0
      have kn1 := Hn.out.c1
      have kn2 := Hn.out.c2
      have kn3 := Hn.out.c3
      have kp0 := Hp.out.c0
      have kp1 := Hp.out.c1
      have kp2 := Hp.out.c2
      have kp3 := Hp.out.c3
      have kq0 := Hq.out.c0
      have kq1 := Hq.out.c1
      have kq2 := Hq.out.c2
      have kq3 := Hq.out.c3
      have kr0 := Hr.out.c0
      have kr1 := Hr.out.c1
      simp only at ka0 ka1 ka2 ka3 kf0 kf1 kx0 kx1 kx2 kx3 ky0 ky1 ky2 ky3 kv0 kv1 kn0 kn1 kn2 kn3 kp0 kp1 kp2 kp3 kq0 kq1 kq2 kq3 kr0 kr1
      go_wp2_with fail
      refine (HN2.out _).mono ?_
      rintro e w6 ⟨rfl, hb⟩
      clear ka0 ka1 ka2 ka3 kf0 kf1 kx0 kx1 kx2 kx3 ky0 ky1 ky2 ky3 kv0 kv1 kn0 kn1 kn2 kn3 kp0 kp1 kp2 kp3 kq0 kq1 kq2 kq3 kr0 kr1
      have HB6 := hb.alloc hb.size (.cells #[.int .i64 n1, .int .i64 n2, .int .i64 n3, .int .i64 n4] 25)
      have Ht := Lib.hid (al_new w6 n1 n2 n3 n4)
      replace Ha := Lib.hid (Ha.out.keep HB6)
      replace Hf := Lib.hid (Hf.out.keep HB6)
      replace Hx := Lib.hid (Hx.out.keep HB6)
      replace Hy := Lib.hid (Hy.out.keep HB6)
      replace Hv := Lib.hid (Hv.out.keep HB6)
      replace Hn := Lib.hid (Hn.out.keep HB6)
      replace Hp := Lib.hid (Hp.out.keep HB6)
      replace Hq := Lib.hid (Hq.out.keep HB6)
      replace Hr := Lib.hid (Hr.out.keep HB6)
      replace HW := Lib.hid (HW.out.trans (HB6.mono HW.out.size))
      clear hb HB6
      have ka0 := Ha.out.c0
      have ka1 := Ha.out.c1
      have ka2 := Ha.out.c2
      have ka3 := Ha.out.c3
      have kf0 := Hf.out.c0
      have kf1 := Hf.out.c1
      have kx0 := Hx.out.c0
      have kx1 := Hx.out.c1
      have kx2 := Hx.out.c2
      have kx3 := Hx.out.c3
      have ky0 := Hy.out.c0
      have ky1 := Hy.out.c1
      have ky2 := Hy.out.c2
      have ky3 := Hy.out.c3
      have kv0 := Hv.out.c0
      have kv1 := Hv.out.c1
      have kn0 := Hn.out.c0
      have kn1 := Hn.out.c1
      have kn2 := Hn.out.c2
      have kn3 := Hn.out.c3
      have kp0 := Hp.out.c0
      have kp1 := Hp.out.c1
      have kp2 := Hp.out.c2
      have kp3 := Hp.out.c3
      have kq0 := Hq.out.c0
      have kq1 := Hq.out.c1
      have kq2 := Hq.out.c2
      have kq3 := Hq.out.c3
      have kr0 := Hr.out.c0
      have kr1 := Hr.out.c1
      have kt0 := Ht.out.c0
      have kt1 := Ht.out.c1
      have kt2 := Ht.out.c2
      have kt3 := Ht.out.c3
      simp only at ka0 ka1 ka2 ka3 kf0 kf1 kx0 kx1 kx2 kx3 ky0 ky1 ky2 ky3 kv0 kv1 kn0 kn1 kn2 kn3 kp0 kp1 kp2 kp3 kq0 kq1 kq2 kq3 kr0 kr1 kt0 kt1 kt2 kt3
      go_wp2
      go_ret
      exact ⟨rfl, HW.out⟩
end Go.Proofs.Ytbjmibaepccbeaa
