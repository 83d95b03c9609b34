/- The examples of the chapter: awake. -/
import Derived.Test.YtogdkgcgckdehaaGreatLit
set_option linter.unusedSimpArgs false
set_option linter.unusedVariables false
namespace Go.Proofs.YtogdkgcgckdehaaGreat
open Go.RowKit Go.Sort

set_option maxHeartbeats 8000000 in
set_option maxRecDepth 100000 in
theorem awake_any (w : World) : Calls Tryz.prog 6 #[] w fun e w' => e = .returned (.bool true) ∧ Below w.heap.size w w' := by
  have HB0 := Lib.hid (Below.refl w.heap.size w)
  have heq : ∀ w, (Op.equalIn 10000 52 (.agg #[.int .i64 0, .int .i64 2]) (.agg #[.int .i64 0, .int .i64 2])).run Tryz.prog w = .ok true w := fun w => by kernel_rfl
  go_enter Tryz.func6, Tryz.ntmps6
  go_wp2_with fail
  have hrow := row2_any (g := w.heap.size) (x := 2) (y := 1) (w := w.alloc (.cells #[.int .i64 2, .int .i64 1] 2)) (by simp) (by unfold World.cell?; rw [heap_alloc_new]; rfl) (by unfold World.cell?; rw [heap_alloc_new]; rfl)
  have HRW := Lib.hid hrow
  clear hrow
  have hn := new_bel w (.cells #[.int .i64 2, .int .i64 1] 2)
  generalize hgw : w.alloc (.cells #[.int .i64 2, .int .i64 1] 2) = w1 at *
  clear hgw
  have HB1 := Lib.hid (HB0.out.trans ((hn).mono HB0.out.size))
  clear HB0
  clear hn
  refine (HRW.out).mono ?_
  rintro e w2 ⟨g0, c0, rfl, hown, hb⟩
  have HB2 := Lib.hid (HB1.out.trans ((hb).mono HB1.out.size))
  clear HB1
  have HR00 := Lib.hid (row_ok hown (by omega) (by omega))
  clear HRW hown hb
  go_wp2_with fail
  have hrow := row2_any (g := w2.heap.size) (x := 3) (y := 0) (w := w2.alloc (.cells #[.int .i64 3, .int .i64 0] 2)) (by simp) (by unfold World.cell?; rw [heap_alloc_new]; rfl) (by unfold World.cell?; rw [heap_alloc_new]; rfl)
  have HRW := Lib.hid hrow
  clear hrow
  have hn := new_bel w2 (.cells #[.int .i64 3, .int .i64 0] 2)
  generalize hgw : w2.alloc (.cells #[.int .i64 3, .int .i64 0] 2) = w3 at *
  clear hgw
  have HB3 := Lib.hid (HB2.out.trans ((hn).mono HB2.out.size))
  clear HB2
  have HR01 := Lib.hid (Rw.ok.keep HR00.out hn)
  clear HR00
  clear hn
  refine (HRW.out).mono ?_
  rintro e w4 ⟨g1, c1, rfl, hown, hb⟩
  have HB4 := Lib.hid (HB3.out.trans ((hb).mono HB3.out.size))
  clear HB3
  have HR02 := Lib.hid (Rw.ok.keep HR01.out hb)
  clear HR01
  have HR10 := Lib.hid (row_ok hown (by omega) (by omega))
  clear HRW hown hb
  go_wp2_with fail
  have hrow := row2_any (g := w4.heap.size) (x := 2) (y := 1) (w := w4.alloc (.cells #[.int .i64 2, .int .i64 1] 2)) (by simp) (by unfold World.cell?; rw [heap_alloc_new]; rfl) (by unfold World.cell?; rw [heap_alloc_new]; rfl)
  have HRW := Lib.hid hrow
  clear hrow
  have hn := new_bel w4 (.cells #[.int .i64 2, .int .i64 1] 2)
  generalize hgw : w4.alloc (.cells #[.int .i64 2, .int .i64 1] 2) = w5 at *
  clear hgw
  have HB5 := Lib.hid (HB4.out.trans ((hn).mono HB4.out.size))
  clear HB4
  have HR03 := Lib.hid (Rw.ok.keep HR02.out hn)
  clear HR02
  have HR11 := Lib.hid (Rw.ok.keep HR10.out hn)
  clear HR10
  clear hn
  refine (HRW.out).mono ?_
  rintro e w6 ⟨g2, c2, rfl, hown, hb⟩
  have HB6 := Lib.hid (HB5.out.trans ((hb).mono HB5.out.size))
  clear HB5
  have HR04 := Lib.hid (Rw.ok.keep HR03.out hb)
  clear HR03
  have HR12 := Lib.hid (Rw.ok.keep HR11.out hb)
  clear HR11
  have HR20 := Lib.hid (row_ok hown (by omega) (by omega))
  clear HRW hown hb
  go_wp2_with fail
  have hrow := row2_any (g := w6.heap.size) (x := 2) (y := 5) (w := w6.alloc (.cells #[.int .i64 2, .int .i64 5] 2)) (by simp) (by unfold World.cell?; rw [heap_alloc_new]; rfl) (by unfold World.cell?; rw [heap_alloc_new]; rfl)
  have HRW := Lib.hid hrow
  clear hrow
  have hn := new_bel w6 (.cells #[.int .i64 2, .int .i64 5] 2)
  generalize hgw : w6.alloc (.cells #[.int .i64 2, .int .i64 5] 2) = w7 at *
  clear hgw
  have HB7 := Lib.hid (HB6.out.trans ((hn).mono HB6.out.size))
  clear HB6
  have HR05 := Lib.hid (Rw.ok.keep HR04.out hn)
  clear HR04
  have HR13 := Lib.hid (Rw.ok.keep HR12.out hn)
  clear HR12
  have HR21 := Lib.hid (Rw.ok.keep HR20.out hn)
  clear HR20
  clear hn
  refine (HRW.out).mono ?_
  rintro e w8 ⟨g3, c3, rfl, hown, hb⟩
  have HB8 := Lib.hid (HB7.out.trans ((hb).mono HB7.out.size))
  clear HB7
  have HR06 := Lib.hid (Rw.ok.keep HR05.out hb)
  clear HR05
  have HR14 := Lib.hid (Rw.ok.keep HR13.out hb)
  clear HR13
  have HR22 := Lib.hid (Rw.ok.keep HR21.out hb)
  clear HR21
  have HR30 := Lib.hid (row_ok hown (by omega) (by omega))
  clear HRW hown hb
  go_wp2_with fail
  have hn := new_bel w8 (.cells #[.slice (some ⟨g0, 0, none⟩) 2 c0, .slice (some ⟨g1, 0, none⟩) 2 c1, .slice (some ⟨g2, 0, none⟩) 2 c2, .slice (some ⟨g3, 0, none⟩) 2 c3] 27)
  have hs9 : (w8.alloc (.cells #[.slice (some ⟨g0, 0, none⟩) 2 c0, .slice (some ⟨g1, 0, none⟩) 2 c1, .slice (some ⟨g2, 0, none⟩) 2 c2, .slice (some ⟨g3, 0, none⟩) 2 c3] 27)).heap.size = w8.heap.size + 1 := by simp
  have hsl := new_sl (enc := Rw.val) w8 [⟨some ⟨g0, 0, none⟩, g0, 0, c0, [(2, 1), (1, 1)]⟩, ⟨some ⟨g1, 0, none⟩, g1, 0, c1, [(3, 1), (0, 1)]⟩, ⟨some ⟨g2, 0, none⟩, g2, 0, c2, [(2, 1), (1, 1)]⟩, ⟨some ⟨g3, 0, none⟩, g3, 0, c3, [(2, 1), (5, 1)]⟩] 27 4 rfl (by decide) #[.slice (some ⟨g0, 0, none⟩) 2 c0, .slice (some ⟨g1, 0, none⟩) 2 c1, .slice (some ⟨g2, 0, none⟩) 2 c2, .slice (some ⟨g3, 0, none⟩) 2 c3] rfl
  generalize hgw : w8.alloc (.cells #[.slice (some ⟨g0, 0, none⟩) 2 c0, .slice (some ⟨g1, 0, none⟩) 2 c1, .slice (some ⟨g2, 0, none⟩) 2 c2, .slice (some ⟨g3, 0, none⟩) 2 c3] 27) = w9 at *
  clear hgw
  have HB9 := Lib.hid (HB8.out.trans ((hn).mono HB8.out.size))
  clear HB8
  have HR07 := Lib.hid (Rw.ok.keep HR06.out hn)
  clear HR06
  have HR15 := Lib.hid (Rw.ok.keep HR14.out hn)
  clear HR14
  have HR23 := Lib.hid (Rw.ok.keep HR22.out hn)
  clear HR22
  have HR31 := Lib.hid (Rw.ok.keep HR30.out hn)
  clear HR30
  clear hn
  have HM0 := Lib.hid ((⟨hsl, fun r hr => by simp only [List.mem_cons, List.not_mem_nil, or_false] at hr; rcases hr with rfl | rfl | rfl | rfl; exact HR07.out; exact HR15.out; exact HR23.out; exact HR31.out⟩ : SlR w9 _ _ _ _ _ _))
  clear HR07
  clear HR15
  clear HR23
  clear HR31
  clear hsl
  generalize w8.heap.size = hm at *
  refine (places_ok HM0.out eg_chk).mono ?_
  rintro e w10 ⟨gp, rfl, hp, _, hb⟩
  have HB10 := Lib.hid (HB9.out.trans ((hb).mono HB9.out.size))
  clear HB9
  have HM1 := Lib.hid (HM0.out.keep hb)
  clear HM0
  have HP0 := Lib.hid ((show SlI w10 (some ⟨gp, 0, none⟩) gp 0 4 4 [3, 1, 3, 2] from eg_plc ▸ hp))
  clear hp hb
  go_wp2_with fail
  refine (order_ok HM1.out eg_chk (by omega)).mono ?_
  rintro e w11 ⟨go, O, rfl, hO, ho, _, hb⟩
  have HB11 := Lib.hid (HB10.out.trans ((hb).mono HB10.out.size))
  clear HB10
  have HM2 := Lib.hid (HM1.out.keep hb)
  clear HM1
  have HP1 := Lib.hid (HP0.out.keep hb)
  clear HP0
  obtain rfl := eg_ord hO
  have HO0 := Lib.hid ((show SlI w11 (some ⟨go, 0, none⟩) go 0 4 4 [1, 3, 0, 2] from ho))
  clear ho hb hO
  go_wp2_with fail
  refine (groups_ok HM2.out eg_chk (by omega)).mono ?_
  rintro e w12 ⟨O2, hO2, vg, G, rfl, hG, hgr, hb⟩
  have HB12 := Lib.hid (HB11.out.trans ((hb).mono HB11.out.size))
  clear HB11
  have HM3 := Lib.hid (HM2.out.keep hb)
  clear HM2
  have HP2 := Lib.hid (HP1.out.keep hb)
  clear HP1
  have HO1 := Lib.hid (HO0.out.keep hb)
  clear HO0
  obtain rfl := eg_ord hO2
  obtain ⟨gx, gy, gz, rfl, hgx, hgy, hgz⟩ := three (hG.trans eg_grp)
  obtain ⟨gv, cv, rfl⟩ : ∃ gv cv, vg = .slice (some ⟨gv, 0, none⟩) 3 cv := by
    rcases hgr.row.2 with ⟨_, h0⟩ | ⟨gv, cv, cur, h', _⟩
    · simp at h0
    · exact ⟨gv, cv, h'⟩
  have HG0 := Lib.hid (hgr)
  clear hgr hb hO2 hG hgx hgy
  obtain ⟨zg, zc, zL⟩ := gz
  simp only at hgz
  subst hgz
  go_wp2_with fail
  have x0 : w12.cell? ⟨hm, 0, none⟩ = some (.slice (some ⟨g0, 0, none⟩) 2 c0) := HM3.out.sl.cell 0 (by simp)
  have x3 : w12.cell? ⟨hm, 3, none⟩ = some (.slice (some ⟨g3, 0, none⟩) 2 c3) := HM3.out.sl.cell 3 (by simp)
  have hmb := HM3.out.sl.hb (by omega)
  have K0 := fun n os => cell_grown (w := w12) (a := ⟨hm, 0, none⟩) hmb x0 n os
  have K3 := fun n os => cell_grown (w := w12) (a := ⟨hm, 3, none⟩) hmb x3 n os
  have HCM : Hid (∀ n os, Calls Tryz.prog 18 #[.slice (some ⟨g0, 0, none⟩) 2 c0, .slice (some ⟨g3, 0, none⟩) 2 c3] (grow (w12.drewN n) os) fun e w' => e = .returned (.tuple #[.int .i64 (-1), .int .i64 1]) ∧ Grw (grow (w12.drewN n) os) w') := Lib.hid (fun n os => by
    have hk := HM3.out.keep (grw_form w12 n os).below
    have := compareR2_any (hk.rows ⟨some ⟨g0, 0, none⟩, g0, 0, c0, [(2, 1), (1, 1)]⟩ (by simp)) (hk.rows ⟨some ⟨g3, 0, none⟩, g3, 0, c3, [(2, 1), (5, 1)]⟩ (by simp))
    simp only at this
    rw [eg_cmp.1, eg_cmp.2] at this
    exact this)
  clear x0 x3 hmb
  have mixed := mix
  go_quiet_grown ((go_at_call 18; exact quietG (HCM.out _ _)))
  have hb := (grw_form w12 nq osq).below
  clear K0 K3 HCM
  generalize grow (w12.drewN nq) osq = w13 at *
  have HB13 := Lib.hid (HB12.out.trans ((hb).mono HB12.out.size))
  clear HB12
  have HM4 := Lib.hid (HM3.out.keep hb)
  clear HM3
  have HP3 := Lib.hid (HP2.out.keep hb)
  clear HP2
  have HO2 := Lib.hid (HO1.out.keep hb)
  clear HO1
  have HG1 := Lib.hid (HG0.out.below hb)
  clear HG0
  clear hb mixed
  go_wp2_with fail
  have hn := new_bel w13 (.cells #[.int .i64 1, .int .i64 2, .int .i64 3] 3)
  have hs14 : (w13.alloc (.cells #[.int .i64 1, .int .i64 2, .int .i64 3] 3)).heap.size = w13.heap.size + 1 := by simp
  have hl := new_sl (enc := Value.int .i64) w13 [1, 2, 3] 3 3 rfl (by decide) #[.int .i64 1, .int .i64 2, .int .i64 3] rfl
  generalize hgw : w13.alloc (.cells #[.int .i64 1, .int .i64 2, .int .i64 3] 3) = w14 at *
  clear hgw
  have HB14 := Lib.hid (HB13.out.trans ((hn).mono HB13.out.size))
  clear HB13
  have HM5 := Lib.hid (HM4.out.keep hn)
  clear HM4
  have HP4 := Lib.hid (HP3.out.keep hn)
  clear HP3
  have HO3 := Lib.hid (HO2.out.keep hn)
  clear HO2
  have HG2 := Lib.hid (HG1.out.below hn)
  clear HG1
  clear hn
  have HL140 := Lib.hid (hl)
  clear hl
  have hn := new_bel w14 (.cells #[.int .i64 3, .int .i64 2, .int .i64 1] 3)
  have hs15 : (w14.alloc (.cells #[.int .i64 3, .int .i64 2, .int .i64 1] 3)).heap.size = w14.heap.size + 1 := by simp
  have hl := new_sl (enc := Value.int .i64) w14 [3, 2, 1] 3 3 rfl (by decide) #[.int .i64 3, .int .i64 2, .int .i64 1] rfl
  generalize hgw : w14.alloc (.cells #[.int .i64 3, .int .i64 2, .int .i64 1] 3) = w15 at *
  clear hgw
  have HB15 := Lib.hid (HB14.out.trans ((hn).mono HB14.out.size))
  clear HB14
  have HM6 := Lib.hid (HM5.out.keep hn)
  clear HM5
  have HP5 := Lib.hid (HP4.out.keep hn)
  clear HP4
  have HO4 := Lib.hid (HO3.out.keep hn)
  clear HO3
  have HG3 := Lib.hid (HG2.out.below hn)
  clear HG2
  have HL141 := Lib.hid (HL140.out.keep hn)
  clear HL140
  clear hn
  rw [hs14] at hl
  have HL150 := Lib.hid (hl)
  clear hl
  have hinv : Calls Tryz.prog 19 #[.slice (some ⟨w13.heap.size, 0, none⟩) 3 3, .slice (some ⟨w13.heap.size + 1, 0, none⟩) 3 3] w15 fun e w' => e = .returned (.tuple #[.int .i64 3, .int .i64 0, .int .i64 0]) ∧ Below w15.heap.size w15 w' := by
    have := inv_ok HL141.out HL150.out (by omega) (by decide) (by decide) eg_inv0
    unfold InvPost at this
    rw [eg_inv1, eg_inv2] at this
    exact this
  have HINV := Lib.hid hinv
  clear hinv
  clear HL141
  clear HL150
  refine (HINV.out).mono ?_
  rintro e w16 ⟨rfl, hb⟩
  have HB16 := Lib.hid (HB15.out.trans ((hb).mono HB15.out.size))
  clear HB15
  have HM7 := Lib.hid (HM6.out.keep hb)
  clear HM6
  have HP6 := Lib.hid (HP5.out.keep hb)
  clear HP5
  have HO5 := Lib.hid (HO4.out.keep hb)
  clear HO4
  have HG4 := Lib.hid (HG3.out.below hb)
  clear HG3
  clear HINV hb
  go_wp2_with fail
  have hn := new_bel w16 (.cells #[.int .i64 1, .int .i64 2, .int .i64 3] 3)
  have hs17 : (w16.alloc (.cells #[.int .i64 1, .int .i64 2, .int .i64 3] 3)).heap.size = w16.heap.size + 1 := by simp
  have hl := new_sl (enc := Value.int .i64) w16 [1, 2, 3] 3 3 rfl (by decide) #[.int .i64 1, .int .i64 2, .int .i64 3] rfl
  generalize hgw : w16.alloc (.cells #[.int .i64 1, .int .i64 2, .int .i64 3] 3) = w17 at *
  clear hgw
  have HB17 := Lib.hid (HB16.out.trans ((hn).mono HB16.out.size))
  clear HB16
  have HM8 := Lib.hid (HM7.out.keep hn)
  clear HM7
  have HP7 := Lib.hid (HP6.out.keep hn)
  clear HP6
  have HO6 := Lib.hid (HO5.out.keep hn)
  clear HO5
  have HG5 := Lib.hid (HG4.out.below hn)
  clear HG4
  clear hn
  have HL170 := Lib.hid (hl)
  clear hl
  have hn := new_bel w17 (.cells #[.int .i64 1, .int .i64 3, .int .i64 2] 3)
  have hs18 : (w17.alloc (.cells #[.int .i64 1, .int .i64 3, .int .i64 2] 3)).heap.size = w17.heap.size + 1 := by simp
  have hl := new_sl (enc := Value.int .i64) w17 [1, 3, 2] 3 3 rfl (by decide) #[.int .i64 1, .int .i64 3, .int .i64 2] rfl
  generalize hgw : w17.alloc (.cells #[.int .i64 1, .int .i64 3, .int .i64 2] 3) = w18 at *
  clear hgw
  have HB18 := Lib.hid (HB17.out.trans ((hn).mono HB17.out.size))
  clear HB17
  have HM9 := Lib.hid (HM8.out.keep hn)
  clear HM8
  have HP8 := Lib.hid (HP7.out.keep hn)
  clear HP7
  have HO7 := Lib.hid (HO6.out.keep hn)
  clear HO6
  have HG6 := Lib.hid (HG5.out.below hn)
  clear HG5
  have HL171 := Lib.hid (HL170.out.keep hn)
  clear HL170
  clear hn
  rw [hs17] at hl
  have HL180 := Lib.hid (hl)
  clear hl
  have hn := new_bel w18 (.cells #[.int .i64 2, .int .i64 1, .int .i64 3] 3)
  have hs19 : (w18.alloc (.cells #[.int .i64 2, .int .i64 1, .int .i64 3] 3)).heap.size = w18.heap.size + 1 := by simp
  have hl := new_sl (enc := Value.int .i64) w18 [2, 1, 3] 3 3 rfl (by decide) #[.int .i64 2, .int .i64 1, .int .i64 3] rfl
  generalize hgw : w18.alloc (.cells #[.int .i64 2, .int .i64 1, .int .i64 3] 3) = w19 at *
  clear hgw
  have HB19 := Lib.hid (HB18.out.trans ((hn).mono HB18.out.size))
  clear HB18
  have HM10 := Lib.hid (HM9.out.keep hn)
  clear HM9
  have HP9 := Lib.hid (HP8.out.keep hn)
  clear HP8
  have HO8 := Lib.hid (HO7.out.keep hn)
  clear HO7
  have HG7 := Lib.hid (HG6.out.below hn)
  clear HG6
  have HL172 := Lib.hid (HL171.out.keep hn)
  clear HL171
  have HL181 := Lib.hid (HL180.out.keep hn)
  clear HL180
  clear hn
  rw [hs18] at hl
  rw [hs17] at hl
  have HL190 := Lib.hid (hl)
  clear hl
  have hn := new_bel w19 (.cells #[.slice (some ⟨w16.heap.size, 0, none⟩) 3 3, .slice (some ⟨w16.heap.size + 1, 0, none⟩) 3 3, .slice (some ⟨w16.heap.size + 2, 0, none⟩) 3 3] 28)
  have hs20 : (w19.alloc (.cells #[.slice (some ⟨w16.heap.size, 0, none⟩) 3 3, .slice (some ⟨w16.heap.size + 1, 0, none⟩) 3 3, .slice (some ⟨w16.heap.size + 2, 0, none⟩) 3 3] 28)).heap.size = w19.heap.size + 1 := by simp
  have hl := new_sl (enc := Li.val) w19 [⟨some ⟨w16.heap.size, 0, none⟩, w16.heap.size, 0, 3, [1, 2, 3]⟩, ⟨some ⟨w16.heap.size + 1, 0, none⟩, w16.heap.size + 1, 0, 3, [1, 3, 2]⟩, ⟨some ⟨w16.heap.size + 2, 0, none⟩, w16.heap.size + 2, 0, 3, [2, 1, 3]⟩] 28 3 rfl (by decide) #[.slice (some ⟨w16.heap.size, 0, none⟩) 3 3, .slice (some ⟨w16.heap.size + 1, 0, none⟩) 3 3, .slice (some ⟨w16.heap.size + 2, 0, none⟩) 3 3] rfl
  generalize hgw : w19.alloc (.cells #[.slice (some ⟨w16.heap.size, 0, none⟩) 3 3, .slice (some ⟨w16.heap.size + 1, 0, none⟩) 3 3, .slice (some ⟨w16.heap.size + 2, 0, none⟩) 3 3] 28) = w20 at *
  clear hgw
  have HB20 := Lib.hid (HB19.out.trans ((hn).mono HB19.out.size))
  clear HB19
  have HM11 := Lib.hid (HM10.out.keep hn)
  clear HM10
  have HP10 := Lib.hid (HP9.out.keep hn)
  clear HP9
  have HO9 := Lib.hid (HO8.out.keep hn)
  clear HO8
  have HG8 := Lib.hid (HG7.out.below hn)
  clear HG7
  have HL173 := Lib.hid (HL172.out.keep hn)
  clear HL172
  have HL182 := Lib.hid (HL181.out.keep hn)
  clear HL181
  have HL191 := Lib.hid (HL190.out.keep hn)
  clear HL190
  clear hn
  rw [hs19] at hl
  rw [hs18] at hl
  rw [hs17] at hl
  have hM : SlL w20 _ _ _ _ _ _ := ⟨hl, fun r hr => by simp only [List.mem_cons, List.not_mem_nil, or_false] at hr; rcases hr with rfl | rfl | rfl; exact HL173.out; exact HL182.out; exact HL191.out⟩
  clear hl
  clear HL173
  clear HL182
  clear HL191
  have hmed : Calls Tryz.prog 20 #[.slice (some ⟨w16.heap.size + 3, 0, none⟩) 3 3] w20 (MedPost w20 3 [1, 2, 3]) := by
    have := med_ok hM (fun r hr => by simp only [List.mem_cons, List.not_mem_nil, or_false] at hr; rcases hr with rfl | rfl | rfl <;> simp) eg_crk (by omega)
    change Calls _ _ _ _ (MedPost _ (headI C3) (medR C3)) at this
    rw [eg_hd, eg_med] at this
    exact this
  have HMED := Lib.hid hmed
  clear hmed hM
  refine (HMED.out).mono ?_
  rintro e w21 ⟨gm, rfl, hmm, _, hb⟩
  have HB21 := Lib.hid (HB20.out.trans ((hb).mono HB20.out.size))
  clear HB20
  have HM12 := Lib.hid (HM11.out.keep hb)
  clear HM11
  have HP11 := Lib.hid (HP10.out.keep hb)
  clear HP10
  have HO10 := Lib.hid (HO9.out.keep hb)
  clear HO9
  have HG9 := Lib.hid (HG8.out.below hb)
  clear HG8
  have HD0 := Lib.hid (hmm)
  clear HMED hmm hb
  go_wp2_with fail
  have hn := new_bel w21 (.cells #[.int .i64 1, .int .i64 2, .int .i64 3] 3)
  have hs22 : (w21.alloc (.cells #[.int .i64 1, .int .i64 2, .int .i64 3] 3)).heap.size = w21.heap.size + 1 := by simp
  have hl := new_sl (enc := Value.int .i64) w21 [1, 2, 3] 3 3 rfl (by decide) #[.int .i64 1, .int .i64 2, .int .i64 3] rfl
  generalize hgw : w21.alloc (.cells #[.int .i64 1, .int .i64 2, .int .i64 3] 3) = w22 at *
  clear hgw
  have HB22 := Lib.hid (HB21.out.trans ((hn).mono HB21.out.size))
  clear HB21
  have HM13 := Lib.hid (HM12.out.keep hn)
  clear HM12
  have HP12 := Lib.hid (HP11.out.keep hn)
  clear HP11
  have HO11 := Lib.hid (HO10.out.keep hn)
  clear HO10
  have HG10 := Lib.hid (HG9.out.below hn)
  clear HG9
  have HD1 := Lib.hid (HD0.out.keep hn)
  clear HD0
  clear hn
  have HL220 := Lib.hid (hl)
  clear hl
  have hn := new_bel w22 (.cells #[.int .i64 1, .int .i64 3, .int .i64 2] 3)
  have hs23 : (w22.alloc (.cells #[.int .i64 1, .int .i64 3, .int .i64 2] 3)).heap.size = w22.heap.size + 1 := by simp
  have hl := new_sl (enc := Value.int .i64) w22 [1, 3, 2] 3 3 rfl (by decide) #[.int .i64 1, .int .i64 3, .int .i64 2] rfl
  generalize hgw : w22.alloc (.cells #[.int .i64 1, .int .i64 3, .int .i64 2] 3) = w23 at *
  clear hgw
  have HB23 := Lib.hid (HB22.out.trans ((hn).mono HB22.out.size))
  clear HB22
  have HM14 := Lib.hid (HM13.out.keep hn)
  clear HM13
  have HP13 := Lib.hid (HP12.out.keep hn)
  clear HP12
  have HO12 := Lib.hid (HO11.out.keep hn)
  clear HO11
  have HG11 := Lib.hid (HG10.out.below hn)
  clear HG10
  have HD2 := Lib.hid (HD1.out.keep hn)
  clear HD1
  have HL221 := Lib.hid (HL220.out.keep hn)
  clear HL220
  clear hn
  rw [hs22] at hl
  have HL230 := Lib.hid (hl)
  clear hl
  have hn := new_bel w23 (.cells #[.int .i64 2, .int .i64 1, .int .i64 3] 3)
  have hs24 : (w23.alloc (.cells #[.int .i64 2, .int .i64 1, .int .i64 3] 3)).heap.size = w23.heap.size + 1 := by simp
  have hl := new_sl (enc := Value.int .i64) w23 [2, 1, 3] 3 3 rfl (by decide) #[.int .i64 2, .int .i64 1, .int .i64 3] rfl
  generalize hgw : w23.alloc (.cells #[.int .i64 2, .int .i64 1, .int .i64 3] 3) = w24 at *
  clear hgw
  have HB24 := Lib.hid (HB23.out.trans ((hn).mono HB23.out.size))
  clear HB23
  have HM15 := Lib.hid (HM14.out.keep hn)
  clear HM14
  have HP14 := Lib.hid (HP13.out.keep hn)
  clear HP13
  have HO13 := Lib.hid (HO12.out.keep hn)
  clear HO12
  have HG12 := Lib.hid (HG11.out.below hn)
  clear HG11
  have HD3 := Lib.hid (HD2.out.keep hn)
  clear HD2
  have HL222 := Lib.hid (HL221.out.keep hn)
  clear HL221
  have HL231 := Lib.hid (HL230.out.keep hn)
  clear HL230
  clear hn
  rw [hs23] at hl
  rw [hs22] at hl
  have HL240 := Lib.hid (hl)
  clear hl
  have hn := new_bel w24 (.cells #[.slice (some ⟨w21.heap.size, 0, none⟩) 3 3, .slice (some ⟨w21.heap.size + 1, 0, none⟩) 3 3, .slice (some ⟨w21.heap.size + 2, 0, none⟩) 3 3] 28)
  have hs25 : (w24.alloc (.cells #[.slice (some ⟨w21.heap.size, 0, none⟩) 3 3, .slice (some ⟨w21.heap.size + 1, 0, none⟩) 3 3, .slice (some ⟨w21.heap.size + 2, 0, none⟩) 3 3] 28)).heap.size = w24.heap.size + 1 := by simp
  have hl := new_sl (enc := Li.val) w24 [⟨some ⟨w21.heap.size, 0, none⟩, w21.heap.size, 0, 3, [1, 2, 3]⟩, ⟨some ⟨w21.heap.size + 1, 0, none⟩, w21.heap.size + 1, 0, 3, [1, 3, 2]⟩, ⟨some ⟨w21.heap.size + 2, 0, none⟩, w21.heap.size + 2, 0, 3, [2, 1, 3]⟩] 28 3 rfl (by decide) #[.slice (some ⟨w21.heap.size, 0, none⟩) 3 3, .slice (some ⟨w21.heap.size + 1, 0, none⟩) 3 3, .slice (some ⟨w21.heap.size + 2, 0, none⟩) 3 3] rfl
  generalize hgw : w24.alloc (.cells #[.slice (some ⟨w21.heap.size, 0, none⟩) 3 3, .slice (some ⟨w21.heap.size + 1, 0, none⟩) 3 3, .slice (some ⟨w21.heap.size + 2, 0, none⟩) 3 3] 28) = w25 at *
  clear hgw
  have HB25 := Lib.hid (HB24.out.trans ((hn).mono HB24.out.size))
  clear HB24
  have HM16 := Lib.hid (HM15.out.keep hn)
  clear HM15
  have HP15 := Lib.hid (HP14.out.keep hn)
  clear HP14
  have HO14 := Lib.hid (HO13.out.keep hn)
  clear HO13
  have HG13 := Lib.hid (HG12.out.below hn)
  clear HG12
  have HD4 := Lib.hid (HD3.out.keep hn)
  clear HD3
  have HL223 := Lib.hid (HL222.out.keep hn)
  clear HL222
  have HL232 := Lib.hid (HL231.out.keep hn)
  clear HL231
  have HL241 := Lib.hid (HL240.out.keep hn)
  clear HL240
  clear hn
  rw [hs24] at hl
  rw [hs23] at hl
  rw [hs22] at hl
  have hM : SlL w25 _ _ _ _ _ _ := ⟨hl, fun r hr => by simp only [List.mem_cons, List.not_mem_nil, or_false] at hr; rcases hr with rfl | rfl | rfl; exact HL223.out; exact HL232.out; exact HL241.out⟩
  clear hl
  clear HL223
  clear HL232
  clear HL241
  have hagr : Calls Tryz.prog 21 #[.slice (some ⟨w21.heap.size + 3, 0, none⟩) 3 3] w25 (AgrPost w25 [(0, 2)]) := by
    have := agr_ok hM (fun r hr => by simp only [List.mem_cons, List.not_mem_nil, or_false] at hr; rcases hr with rfl | rfl | rfl <;> simp) eg_crk (by omega)
    change Calls _ _ _ _ (AgrPost _ (agrI C3 (headI C3) (headI C3))) at this
    rw [eg_hd, eg_agr] at this
    exact this
  have HAGR := Lib.hid hagr
  clear hagr hM
  refine (HAGR.out).mono ?_
  rintro e w26 ⟨va, rfl, hav, hb⟩
  have HB26 := Lib.hid (HB25.out.trans ((hb).mono HB25.out.size))
  clear HB25
  have HM17 := Lib.hid (HM16.out.keep hb)
  clear HM16
  have HP16 := Lib.hid (HP15.out.keep hb)
  clear HP15
  have HO15 := Lib.hid (HO14.out.keep hb)
  clear HO14
  have HG14 := Lib.hid (HG13.out.below hb)
  clear HG13
  have HD5 := Lib.hid (HD4.out.keep hb)
  clear HD4
  obtain ⟨ga, ca, rfl⟩ : ∃ ga ca, va = .slice (some ⟨ga, 0, none⟩) 1 ca := by
    rcases hav.2 with ⟨_, h0⟩ | ⟨ga, ca, cur, h', _⟩
    · simp at h0
    · exact ⟨ga, ca, h'⟩
  have hga := (hav.lt ga rfl).2
  have ha0 : w26.cell? ⟨ga, 0, none⟩ = some (.int .i64 0) := by rw [hav.cellAt 0 (by decide)]; rfl
  have ha1 : w26.cell? ⟨ga, 1, none⟩ = some (.int .i64 2) := by rw [hav.cellAt 1 (by decide)]; rfl
  have HA00 := Lib.hid (And.intro ha0 hga)
  have HA10 := Lib.hid (And.intro ha1 hga)
  clear HM17
  clear HAGR hav hb hga ha0 ha1
  go_wp2_with fail
  have hn := new_bel w26 (.cells #[.int .i64 3, .int .i64 1, .int .i64 3, .int .i64 2] 3)
  have hs27 : (w26.alloc (.cells #[.int .i64 3, .int .i64 1, .int .i64 3, .int .i64 2] 3)).heap.size = w26.heap.size + 1 := by simp
  have hl := new_sl (enc := Value.int .i64) w26 [3, 1, 3, 2] 3 4 rfl (by decide) #[.int .i64 3, .int .i64 1, .int .i64 3, .int .i64 2] rfl
  generalize hgw : w26.alloc (.cells #[.int .i64 3, .int .i64 1, .int .i64 3, .int .i64 2] 3) = w27 at *
  clear hgw
  have HB27 := Lib.hid (HB26.out.trans ((hn).mono HB26.out.size))
  clear HB26
  have HP17 := Lib.hid (HP16.out.keep hn)
  clear HP16
  have HO16 := Lib.hid (HO15.out.keep hn)
  clear HO15
  have HG15 := Lib.hid (HG14.out.below hn)
  clear HG14
  have HD6 := Lib.hid (HD5.out.keep hn)
  clear HD5
  have HA01 := Lib.hid ((hn.cell (p := ⟨ga, 0, none⟩) HA00.out.2).trans HA00.out.1 |> fun h => And.intro h (Nat.lt_of_lt_of_le HA00.out.2 (hn).size))
  clear HA00
  have HA11 := Lib.hid ((hn.cell (p := ⟨ga, 1, none⟩) HA10.out.2).trans HA10.out.1 |> fun h => And.intro h (Nat.lt_of_lt_of_le HA10.out.2 (hn).size))
  clear HA10
  clear hn
  have hsm := same_any (HP17.out) hl
  rw [show decide (([3, 1, 3, 2] : List Int) = [3, 1, 3, 2]) = true from by decide] at hsm
  have HSM := Lib.hid hsm
  clear hsm hl
  refine HSM.out.mono ?_
  rintro e w' ⟨rfl, q, rfl⟩
  have hb := bel_drewN (Below.refl w27.heap.size w27) q
  clear HSM
  generalize w27.drewN q = w28 at *
  have HB28 := Lib.hid (HB27.out.trans ((hb).mono HB27.out.size))
  clear HB27
  have HP18 := Lib.hid (HP17.out.keep hb)
  clear HP17
  have HO17 := Lib.hid (HO16.out.keep hb)
  clear HO16
  have HG16 := Lib.hid (HG15.out.below hb)
  clear HG15
  have HD7 := Lib.hid (HD6.out.keep hb)
  clear HD6
  have HA02 := Lib.hid ((hb.cell (p := ⟨ga, 0, none⟩) HA01.out.2).trans HA01.out.1 |> fun h => And.intro h (Nat.lt_of_lt_of_le HA01.out.2 (hb).size))
  clear HA01
  have HA12 := Lib.hid ((hb.cell (p := ⟨ga, 1, none⟩) HA11.out.2).trans HA11.out.1 |> fun h => And.intro h (Nat.lt_of_lt_of_le HA11.out.2 (hb).size))
  clear HA11
  clear hb
  go_wp2_with fail
  have hn := new_bel w28 (.cells #[.int .i64 1, .int .i64 3, .int .i64 0, .int .i64 2] 3)
  have hs29 : (w28.alloc (.cells #[.int .i64 1, .int .i64 3, .int .i64 0, .int .i64 2] 3)).heap.size = w28.heap.size + 1 := by simp
  have hl := new_sl (enc := Value.int .i64) w28 [1, 3, 0, 2] 3 4 rfl (by decide) #[.int .i64 1, .int .i64 3, .int .i64 0, .int .i64 2] rfl
  generalize hgw : w28.alloc (.cells #[.int .i64 1, .int .i64 3, .int .i64 0, .int .i64 2] 3) = w29 at *
  clear hgw
  have HB29 := Lib.hid (HB28.out.trans ((hn).mono HB28.out.size))
  clear HB28
  have HP19 := Lib.hid (HP18.out.keep hn)
  clear HP18
  have HO18 := Lib.hid (HO17.out.keep hn)
  clear HO17
  have HG17 := Lib.hid (HG16.out.below hn)
  clear HG16
  have HD8 := Lib.hid (HD7.out.keep hn)
  clear HD7
  have HA03 := Lib.hid ((hn.cell (p := ⟨ga, 0, none⟩) HA02.out.2).trans HA02.out.1 |> fun h => And.intro h (Nat.lt_of_lt_of_le HA02.out.2 (hn).size))
  clear HA02
  have HA13 := Lib.hid ((hn.cell (p := ⟨ga, 1, none⟩) HA12.out.2).trans HA12.out.1 |> fun h => And.intro h (Nat.lt_of_lt_of_le HA12.out.2 (hn).size))
  clear HA12
  clear hn
  have hsm := same_any (HO18.out) hl
  rw [show decide (([1, 3, 0, 2] : List Int) = [1, 3, 0, 2]) = true from by decide] at hsm
  have HSM := Lib.hid hsm
  clear hsm hl
  refine HSM.out.mono ?_
  rintro e w' ⟨rfl, q, rfl⟩
  have hb := bel_drewN (Below.refl w29.heap.size w29) q
  clear HSM
  generalize w29.drewN q = w30 at *
  have HB30 := Lib.hid (HB29.out.trans ((hb).mono HB29.out.size))
  clear HB29
  have HP20 := Lib.hid (HP19.out.keep hb)
  clear HP19
  have HO19 := Lib.hid (HO18.out.keep hb)
  clear HO18
  have HG18 := Lib.hid (HG17.out.below hb)
  clear HG17
  have HD9 := Lib.hid (HD8.out.keep hb)
  clear HD8
  have HA04 := Lib.hid ((hb.cell (p := ⟨ga, 0, none⟩) HA03.out.2).trans HA03.out.1 |> fun h => And.intro h (Nat.lt_of_lt_of_le HA03.out.2 (hb).size))
  clear HA03
  have HA14 := Lib.hid ((hb.cell (p := ⟨ga, 1, none⟩) HA13.out.2).trans HA13.out.1 |> fun h => And.intro h (Nat.lt_of_lt_of_le HA13.out.2 (hb).size))
  clear HA13
  clear hb
  have xg : w30.cell? ⟨gv, 2, none⟩ = some (.slice (some ⟨zg, 0, none⟩) 2 zc) := by rw [HG18.out.row.cellAt 2 (by simp)]; rfl
  go_wp2_with fail
  clear xg
  have hn := new_bel w30 (.cells #[.int .i64 0, .int .i64 2] 3)
  have hs31 : (w30.alloc (.cells #[.int .i64 0, .int .i64 2] 3)).heap.size = w30.heap.size + 1 := by simp
  have hl := new_sl (enc := Value.int .i64) w30 [0, 2] 3 2 rfl (by decide) #[.int .i64 0, .int .i64 2] rfl
  generalize hgw : w30.alloc (.cells #[.int .i64 0, .int .i64 2] 3) = w31 at *
  clear hgw
  have HB31 := Lib.hid (HB30.out.trans ((hn).mono HB30.out.size))
  clear HB30
  have HP21 := Lib.hid (HP20.out.keep hn)
  clear HP20
  have HO20 := Lib.hid (HO19.out.keep hn)
  clear HO19
  have HG19 := Lib.hid (HG18.out.below hn)
  clear HG18
  have HD10 := Lib.hid (HD9.out.keep hn)
  clear HD9
  have HA05 := Lib.hid ((hn.cell (p := ⟨ga, 0, none⟩) HA04.out.2).trans HA04.out.1 |> fun h => And.intro h (Nat.lt_of_lt_of_le HA04.out.2 (hn).size))
  clear HA04
  have HA15 := Lib.hid ((hn.cell (p := ⟨ga, 1, none⟩) HA14.out.2).trans HA14.out.1 |> fun h => And.intro h (Nat.lt_of_lt_of_le HA14.out.2 (hn).size))
  clear HA14
  clear hn
  have hsm := same_any ((show SlI w31 (some ⟨zg, 0, none⟩) zg 0 2 zc [0, 2] from gr_sl HG19.out (x := ⟨zg, zc, [0, 2]⟩) (by simp))) hl
  rw [show decide (([0, 2] : List Int) = [0, 2]) = true from by decide] at hsm
  have HSM := Lib.hid hsm
  clear hsm hl
  refine HSM.out.mono ?_
  rintro e w' ⟨rfl, q, rfl⟩
  have hb := bel_drewN (Below.refl w31.heap.size w31) q
  clear HSM
  generalize w31.drewN q = w32 at *
  have HB32 := Lib.hid (HB31.out.trans ((hb).mono HB31.out.size))
  clear HB31
  have HP22 := Lib.hid (HP21.out.keep hb)
  clear HP21
  have HO21 := Lib.hid (HO20.out.keep hb)
  clear HO20
  have HG20 := Lib.hid (HG19.out.below hb)
  clear HG19
  have HD11 := Lib.hid (HD10.out.keep hb)
  clear HD10
  have HA06 := Lib.hid ((hb.cell (p := ⟨ga, 0, none⟩) HA05.out.2).trans HA05.out.1 |> fun h => And.intro h (Nat.lt_of_lt_of_le HA05.out.2 (hb).size))
  clear HA05
  have HA16 := Lib.hid ((hb.cell (p := ⟨ga, 1, none⟩) HA15.out.2).trans HA15.out.1 |> fun h => And.intro h (Nat.lt_of_lt_of_le HA15.out.2 (hb).size))
  clear HA15
  clear hb
  go_wp2_with fail
  have hn := new_bel w32 (.cells #[.int .i64 1, .int .i64 2, .int .i64 3] 3)
  have hs33 : (w32.alloc (.cells #[.int .i64 1, .int .i64 2, .int .i64 3] 3)).heap.size = w32.heap.size + 1 := by simp
  have hl := new_sl (enc := Value.int .i64) w32 [1, 2, 3] 3 3 rfl (by decide) #[.int .i64 1, .int .i64 2, .int .i64 3] rfl
  generalize hgw : w32.alloc (.cells #[.int .i64 1, .int .i64 2, .int .i64 3] 3) = w33 at *
  clear hgw
  have HB33 := Lib.hid (HB32.out.trans ((hn).mono HB32.out.size))
  clear HB32
  have HP23 := Lib.hid (HP22.out.keep hn)
  clear HP22
  have HO22 := Lib.hid (HO21.out.keep hn)
  clear HO21
  have HG21 := Lib.hid (HG20.out.below hn)
  clear HG20
  have HD12 := Lib.hid (HD11.out.keep hn)
  clear HD11
  have HA07 := Lib.hid ((hn.cell (p := ⟨ga, 0, none⟩) HA06.out.2).trans HA06.out.1 |> fun h => And.intro h (Nat.lt_of_lt_of_le HA06.out.2 (hn).size))
  clear HA06
  have HA17 := Lib.hid ((hn.cell (p := ⟨ga, 1, none⟩) HA16.out.2).trans HA16.out.1 |> fun h => And.intro h (Nat.lt_of_lt_of_le HA16.out.2 (hn).size))
  clear HA16
  clear hn
  have hsm := same_any (HD12.out) hl
  rw [show decide (([1, 2, 3] : List Int) = [1, 2, 3]) = true from by decide] at hsm
  have HSM := Lib.hid hsm
  clear hsm hl
  refine HSM.out.mono ?_
  rintro e w' ⟨rfl, q, rfl⟩
  have hb := bel_drewN (Below.refl w33.heap.size w33) q
  clear HSM
  generalize w33.drewN q = w34 at *
  have HB34 := Lib.hid (HB33.out.trans ((hb).mono HB33.out.size))
  clear HB33
  have HP24 := Lib.hid (HP23.out.keep hb)
  clear HP23
  have HO23 := Lib.hid (HO22.out.keep hb)
  clear HO22
  have HG22 := Lib.hid (HG21.out.below hb)
  clear HG21
  have HD13 := Lib.hid (HD12.out.keep hb)
  clear HD12
  have HA08 := Lib.hid ((hb.cell (p := ⟨ga, 0, none⟩) HA07.out.2).trans HA07.out.1 |> fun h => And.intro h (Nat.lt_of_lt_of_le HA07.out.2 (hb).size))
  clear HA07
  have HA18 := Lib.hid ((hb.cell (p := ⟨ga, 1, none⟩) HA17.out.2).trans HA17.out.1 |> fun h => And.intro h (Nat.lt_of_lt_of_le HA17.out.2 (hb).size))
  clear HA17
  clear hb
  have xa0 := HA08.out.1
  have xa1 := HA18.out.1
  go_wp2_with fail
  clear xa0 xa1 heq
  clear HA08
  clear HA18
  clear HG22
  clear HP24
  clear HO23
  clear HD13
  have hn := new_bel w34 (.cells #[.int .i64 1, .int .i64 2, .int .i64 2, .int .i64 3] 3)
  have hs35 : (w34.alloc (.cells #[.int .i64 1, .int .i64 2, .int .i64 2, .int .i64 3] 3)).heap.size = w34.heap.size + 1 := by simp
  have hl := new_sl (enc := Value.int .i64) w34 [1, 2, 2, 3] 3 4 rfl (by decide) #[.int .i64 1, .int .i64 2, .int .i64 2, .int .i64 3] rfl
  generalize hgw : w34.alloc (.cells #[.int .i64 1, .int .i64 2, .int .i64 2, .int .i64 3] 3) = w35 at *
  clear hgw
  have HB35 := Lib.hid (HB34.out.trans ((hn).mono HB34.out.size))
  clear HB34
  clear hn
  have hrk := ranking_any hl (by omega)
  rw [eg_rnk] at hrk
  have HRK := Lib.hid hrk
  clear hrk hl
  refine (HRK.out).mono ?_
  rintro e w36 ⟨rfl, hb⟩
  have HB36 := Lib.hid (HB35.out.trans ((hb).mono HB35.out.size))
  clear HB35
  clear HRK hb
  go_wp2
  go_ret
  exact ⟨rfl, HB36.out⟩
end Go.Proofs.YtogdkgcgckdehaaGreat
