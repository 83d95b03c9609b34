/- The law of two sources with a line break between them: for every two strings. -/
import Derived.Test.YtepigooldelgnaaDoorVls
import Derived.Test.YtepigooldelgnaaDoorConP
set_option linter.unusedSimpArgs false
set_option linter.unusedVariables false
namespace Go.Proofs.YtepigooldelgnaaDoor
open Go.RowKit

theorem conc_list (a b : ByteArray) : ((a ++ ⟨#[10]⟩) ++ b).data.toList = a.data.toList ++ 10 :: b.data.toList := by simp
theorem conc_size (a b : ByteArray) : ((a ++ ⟨#[10]⟩) ++ b).size = a.size + b.size + 1 := by
  have := congrArg List.length (conc_list a b)
  rw [list_size, List.length_append, List.length_cons, list_size, list_size] at this
  omega
set_option maxHeartbeats 8000000 in
set_option maxRecDepth 100000 in
theorem concats_walk (a b : ByteArray) (ha : a.size ≤ 9223372036854775807) (hb : b.size ≤ 9223372036854775807) (w : World) (hT : Tabs w) : Calls Tryd.prog 4 #[.string a, .string b] w fun e w' => e = .returned (.bool true) ∧ Below w.heap.size w w' := by
  have HA := Lib.hid (awake_any w hT)
  have HT := Lib.hid hT
  clear hT
  by_cases h1 : 700 < a.size
  · have k1 : decide ((a.size : Int) > 700) = true := decide_eq_true (by omega)
    go_enter Tryd.func4, Tryd.ntmps4
    go_wp2_with fail
    refine HA.out.mono ?_
    rintro e w1 ⟨rfl, hb1⟩
    go_wp2_with fail
    go_ret
    exact ⟨rfl, hb1⟩
  by_cases h2 : 700 < b.size
  · have k1 : decide ((a.size : Int) > 700) = false := decide_eq_false (by omega)
    have k2 : decide ((b.size : Int) > 700) = true := decide_eq_true (by omega)
    go_enter Tryd.func4, Tryd.ntmps4
    go_wp2_with fail
    refine HA.out.mono ?_
    rintro e w1 ⟨rfl, hb1⟩
    go_wp2_with fail
    go_ret
    exact ⟨rfl, hb1⟩
  have k1 : decide ((a.size : Int) > 700) = false := decide_eq_false (by omega)
  have k2 : decide ((b.size : Int) > 700) = false := decide_eq_false (by omega)
  have hsz : (a ++ (⟨#[10]⟩ : ByteArray)).size ≤ 701 := by rw [ByteArray.size_append]; show a.size + 1 ≤ 701; omega
  have hsa : a.size ≤ 700 := by omega
  have hsb : b.size ≤ 700 := by omega
  clear ha hb h1 h2
  have HP := Lib.hid (fun W hW => parl_any a W hW)
  have HQ := Lib.hid (fun W hW => parl_any b W hW)
  have HR := Lib.hid (fun W hW => parl_any ((a ++ ⟨#[10]⟩) ++ b) W hW)
  have HPG := Lib.hid (@parS_good a)
  have HQG := Lib.hid (@parS_good b)
  have HRG := Lib.hid (@parS_good ((a ++ ⟨#[10]⟩) ++ b))
  have HPC := Lib.hid (parS_count a)
  have HQC := Lib.hid (parS_count b)
  have HRC := Lib.hid (parS_count ((a ++ ⟨#[10]⟩) ++ b))
  have HCO := Lib.hid (parS_concat a b ((a ++ ⟨#[10]⟩) ++ b) (conc_list a b) (by rw [conc_size]; omega))
  generalize parS ((a ++ ⟨#[10]⟩) ++ b) = R at *
  generalize parS a = P at *
  generalize parS b = Q at *
  obtain ⟨c, pc, pa⟩ := P
  obtain ⟨d, qc, qa⟩ := Q
  obtain ⟨k, rc, ra⟩ := R
  unfold PrlPost fV at HP HQ HR
  simp only at HP HQ HR HPG HQG HRG HPC HQC HRC HCO
  go_enter Tryd.func4, Tryd.ntmps4
  go_wp2_with fail
  refine HA.out.mono ?_
  rintro e w1 ⟨rfl, hb1⟩
  have HB1 := Lib.hid hb1
  clear hb1 HA
  go_wp2_with fail
  refine (HP.out _ (HT.out.below HB1.out)).mono ?_
  rintro e w2 ⟨a2, b2, cap2, rfl, sl2, hb2, hz2⟩
  have HB2 := Lib.hid (HB1.out.trans (Below.mono hb2 HB1.out.size))
  have HL := Lib.hid (SlC.mono (G := fun y => y < w2.heap.size) (fun y hy => hy.2) sl2)
  have HZL := Lib.hid hz2
  have hs2 := HB2.out.size
  clear sl2 hb2 HB1 hz2
  have HB3 := Lib.hid (HB2.out.alloc (by omega) (.cells #[.int .i64 pc, .int .i64 pa] 26))
  have HWL3 := Lib.hid ((Below.refl w2.heap.size w2).alloc (Nat.le_refl _) (.cells #[.int .i64 pc, .int .i64 pa] 26))
  have HF3 := Lib.hid (ft_new w2 pc pa 26)
  go_wp2_with fail
  refine (HQ.out _ (HT.out.below HB3.out)).mono ?_
  rintro e w4 ⟨a4, b4, cap4, rfl, sl4, hb4, hz4⟩
  have HB4 := Lib.hid (HB3.out.trans (Below.mono hb4 HB3.out.size))
  have HWL4 := Lib.hid (HWL3.out.trans (Below.mono hb4 HWL3.out.size))
  have HF4 := Lib.hid (HF3.out.keep hb4)
  have HM := Lib.hid (SlC.mono (G := fun y => y < w4.heap.size) (fun y hy => hy.2) sl4)
  have HZM := Lib.hid hz4
  have hs4 := HB4.out.size
  have hs4l := HWL4.out.size
  clear sl4 hb4 HB3 HWL3 HF3 hz4 HB2
  have HB5 := Lib.hid (HB4.out.alloc (by omega) (.cells #[.int .i64 qc, .int .i64 qa] 26))
  have HWL5 := Lib.hid (HWL4.out.alloc (by omega) (.cells #[.int .i64 qc, .int .i64 qa] 26))
  have HWM5 := Lib.hid ((Below.refl w4.heap.size w4).alloc (Nat.le_refl _) (.cells #[.int .i64 qc, .int .i64 qa] 26))
  have HF5 := Lib.hid (HF4.out.keep ((Below.refl _ _).alloc (Nat.le_refl _) (.cells #[.int .i64 qc, .int .i64 qa] 26)))
  have HG5 := Lib.hid (ft_new w4 qc qa 26)
  clear HB4 HWL4 HF4
  obtain ⟨f0, f1, ff, fl⟩ := HF5.out
  obtain ⟨g0, g1, gf, gl⟩ := HG5.out
  by_cases hpc : pc = 0
  · subst hpc
    have hg := HPG.out rfl
    simp only [Prod.mk.injEq, true_and] at hg
    subst hg
    by_cases hqc : qc = 0
    · subst hqc
      have hg := HQG.out rfl
      simp only [Prod.mk.injEq, true_and] at hg
      subst hg
      obtain ⟨hrc, hzero⟩ := HCO.out rfl rfl
      subst hrc
      have hg := HRG.out rfl
      simp only [Prod.mk.injEq, true_and] at hg
      subst hg
      have HZE := Lib.hid hzero
      clear hzero HCO HPG HQG HRG
      obtain ⟨iz, hi, hz0, hz1, hz2⟩ := info_parts infoC
      go_wp2_with fail
      clear f0 f1 ff fl g0 g1 gf gl
      refine (HR.out _ (HT.out.below HB5.out)).mono ?_
      rintro e w6 ⟨a6, b6, cap6, rfl, sl6, hb6, _⟩
      have HB6 := Lib.hid (HB5.out.trans (Below.mono hb6 HB5.out.size))
      have HWL6 := Lib.hid (HWL5.out.trans (Below.mono hb6 HWL5.out.size))
      have HWM6 := Lib.hid (HWM5.out.trans (Below.mono hb6 HWM5.out.size))
      have HK := Lib.hid (SlC.mono (G := fun y => y < w6.heap.size) (fun y hy => hy.2) sl6)
      have hs6 := HB6.out.size
      have hs6l := HWL6.out.size
      have hs6m := HWM6.out.size
      clear sl6 hb6 HB5 HWL5 HWM5 HF5 HG5
      -- the fault's box, the empty slice
      have HX7 := Lib.hid ((Below.refl w6.heap.size w6).alloc (Nat.le_refl _) (.cells #[.int .i64 0, .int .i64 0] 26))
      have HF7 := Lib.hid (ft_new w6 0 0 26)
      have hs7 : (w6.alloc (.cells #[.int .i64 0, .int .i64 0] 26)).heap.size = w6.heap.size + 1 := by simp
      have HX8 := Lib.hid (HX7.out.alloc (by omega) (.cells #[] 40))
      have HF8 := Lib.hid (HF7.out.keep ((Below.refl _ _).alloc (Nat.le_refl _) (.cells #[] 40)))
      have HO8 := Lib.hid (World.ownsRow_made (e := 40) (size := 5) (base := w6.heap.size + 1) (w6.alloc (.cells #[.int .i64 0, .int .i64 0] 26)) #[] 0 (by simp) (Nat.zero_le _) rfl)
      have hs8 : ((w6.alloc (.cells #[.int .i64 0, .int .i64 0] 26)).alloc (.cells #[] 40)).heap.size = w6.heap.size + 2 := by simp
      have HB8 := Lib.hid (HB6.out.trans (Below.mono HX8.out hs6))
      have HWL8 := Lib.hid (HWL6.out.trans (Below.mono HX8.out hs6l))
      have HWM8 := Lib.hid (HWM6.out.trans (Below.mono HX8.out hs6m))
      obtain ⟨vs, v1, v2, v3, v4⟩ := AtC.vals (HL.out.low (fun x hx => hx) HWL8.out).2.2.2.2
      obtain ⟨us, u1, u2, u3, u4⟩ := AtC.vals (HM.out.low (fun x hx => hx) HWM8.out).2.2.2.2
      have HVS := Lib.hid v1
      have HUS := Lib.hid u1
      have HV3 := Lib.hid (show ∀ ad, a2 = some ad → ∀ j u, vs[j]? = some u → ((w6.alloc (.cells #[.int .i64 0, .int .i64 0] 26)).alloc (.cells #[] 40)).cell? (ad.add j) = some u from fun ad had j u hu => by
        have hj : j < vs.length := by
          by_cases hh : j < vs.length
          · exact hh
          · rw [List.getElem?_eq_none (by omega)] at hu; exact absurd hu (by simp)
        obtain ⟨e1, _, _⟩ := HL.out.2.2.2.1 (by omega)
        rw [had] at e1
        obtain rfl := Option.some.inj e1
        rw [Addr.add_lit]
        exact v3 j u hu)
      have HU3 := Lib.hid (show ∀ ad, a4 = some ad → ∀ j u, us[j]? = some u → ((w6.alloc (.cells #[.int .i64 0, .int .i64 0] 26)).alloc (.cells #[] 40)).cell? (ad.add j) = some u ∧ ad.block < w6.heap.size ∧ (ad.add j).block = ad.block from fun ad had j u hu => by
        have hj : j < us.length := by
          by_cases hh : j < us.length
          · exact hh
          · rw [List.getElem?_eq_none (by omega)] at hu; exact absurd hu (by simp)
        obtain ⟨e1, e2, _⟩ := HM.out.2.2.2.1 (by omega)
        rw [had] at e1
        obtain rfl := Option.some.inj e1
        rw [Addr.add_lit]
        exact ⟨u3 j u hu, by show b4 < _; omega, rfl⟩)
      have hlc := kidsN_le c 0
      have hld := kidsN_le d 0
      have hPC := HPC.out
      have hQC := HQC.out
      clear v1 v3 u1 u3
      simp only [World.size_alloc] at HO8
      go_wp2_with (at_builtin; go_loud (refine wpList_append_all _ rfl _ _ 23 rfl (w6.heap.size + 1) 40 iz (.agg #[.string ⟨#[]⟩, .slice none 0 0, .bool false, .slice none 0 0, .int .i64 0]) 5 80 Tryd.underlying23 hi hz0 hz1 hz2 rfl (by decide) (w6.heap.size + 1) 0 0 [] rfl HO8.out a2 c.len cap2 vs rfl v2 HZL.out HV3.out v4 ?n1 ?n2 ?n3 ?_))
      case n1 => unfold maxLen; omega
      case n2 => omega
      case n3 => omega
      intro g9 cap9 w9 ho9 hg9
      have hgl : w6.heap.size + 1 ≤ g9 := (ho9.lt g9 rfl).1
      have HB9 := Lib.hid (HB8.out.grown hg9 (by omega) (fun k hk => by cases hk; omega))
      have HWL9 := Lib.hid (HWL8.out.grown hg9 (by omega) (fun k hk => by cases hk; omega))
      have HWM9 := Lib.hid (HWM8.out.grown hg9 (by omega) (fun k hk => by cases hk; omega))
      have HWK9 := Lib.hid (HX8.out.grown hg9 (by omega) (fun k hk => by cases hk; omega))
      have HF9 := Lib.hid (HF8.out.grown hg9 (by intro e; have := Option.some.inj e; omega))
      have hbx := (Below.refl (w6.heap.size + 1) ((w6.alloc (.cells #[.int .i64 0, .int .i64 0] 26)).alloc (.cells #[] 40))).grown hg9 (by omega) (fun k hk => by cases hk; omega)
      have HVS9 := Lib.hid (RdC.low (fun x hx => by have : x < w2.heap.size := hx; omega) hbx HVS.out)
      have HUS9 := Lib.hid (RdC.low (fun x hx => by have : x < w4.heap.size := hx; omega) hbx HUS.out)
      have HU9 := Lib.hid (show ∀ ad, a4 = some ad → ∀ j u, us[j]? = some u → w9.cell? (ad.add j) = some u from fun ad had j u hu => by
        obtain ⟨e1, e2, e3⟩ := HU3.out ad had j u hu
        refine hg9.cell e1 ?_
        intro e
        have := Option.some.inj e
        omega)
      have hs9 := HWK9.out.size
      have hs9x : w6.heap.size + 2 ≤ w9.heap.size := by have := hg9.size; omega
      have HO9 := Lib.hid ho9
      clear ho9 hg9 hbx HB8 HWL8 HWM8 HX8 HX7 HF8 HF7 HVS HUS HV3 HU3 HO8 hs7 hs8
      go_wp2_with (at_builtin; go_loud (refine wpList_append_all _ rfl _ _ 23 rfl (w6.heap.size + 1) 40 iz (.agg #[.string ⟨#[]⟩, .slice none 0 0, .bool false, .slice none 0 0, .int .i64 0]) 5 80 Tryd.underlying23 hi hz0 hz1 hz2 rfl (by decide) g9 c.len cap9 vs rfl HO9.out a4 d.len cap4 us rfl u2 HZM.out HU9.out u4 ?m1 ?m2 ?m3 ?_))
      case m1 => unfold maxLen; omega
      case m2 => omega
      case m3 => omega
      intro g10 cap10 w10 ho10 hg10
      have hgk : w6.heap.size + 1 ≤ g10 ∧ g10 < w10.heap.size := ho10.lt g10 rfl
      have HB10 := Lib.hid (HB9.out.grown hg10 (by omega) (fun k hk => by cases hk; omega))
      have HWL10 := Lib.hid (HWL9.out.grown hg10 (by omega) (fun k hk => by cases hk; omega))
      have HWM10 := Lib.hid (HWM9.out.grown hg10 (by omega) (fun k hk => by cases hk; omega))
      have HWK10 := Lib.hid (HWK9.out.grown hg10 (by omega) (fun k hk => by cases hk; omega))
      have HF10 := Lib.hid (HF9.out.grown hg10 (by intro e; have := Option.some.inj e; omega))
      have hbx := (Below.refl (w6.heap.size + 1) w9).grown hg10 (by omega) (fun k hk => by cases hk; omega)
      have hv10 := RdC.low (fun x hx => by have : x < w2.heap.size := hx; omega) hbx HVS9.out
      have hu10 := RdC.low (fun x hx => by have : x < w4.heap.size := hx; omega) hbx HUS9.out
      have hs10 := HWK10.out.size
      have hap := RdC.app (RdC.mono (G := fun y => y < w10.heap.size) (fun x hx => by have : x < w4.heap.size := hx; omega) hu10) (RdC.mono (G := fun y => y < w10.heap.size) (fun x hx => by have : x < w2.heap.size := hx; omega) hv10)
      have hlen : c.len + d.len = (c.app d).len := by rw [Cls.len_app]
      rw [hlen] at ho10
      obtain ⟨ae, be, ce, hve, hse⟩ := slC_own ho10 hap (fun x hx => (ho10.lt x hx).2)
      simp only [Value.slice.injEq, true_and] at hve
      obtain ⟨rfl, rfl⟩ := hve
      have HE := Lib.hid hse
      have HCE := Lib.hid (Cls.count_app c d)
      have HDE := Lib.hid (Cls.depth_app c d)
      have hle : (c.app d).len ≤ 200000 := by rw [Cls.len_app]; omega
      have HWE10 := Lib.hid (Below.refl w10.heap.size w10)
      rw [hlen]
      generalize c.app d = ee at *
      clear ho10 hg10 hbx hv10 hu10 hap hse HVS9 HUS9 HU9 HO9 HB9 HWL9 HWM9 HWK9 HF9 hlen v2 u2 v4 u4
      have HRCo := HRC.out
      have HSM := Lib.hid (fun W (h : SlC W (fun y => y < w6.heap.size) a6 b6 0 k.len cap6 k) (h' : SlC W (fun y => y < w10.heap.size) (some ⟨g10, 0, none⟩) be 0 ee.len cap10 ee) => same_any (k.count + 1) (by omega) k ee (Nat.lt_succ_self _) (by omega) W _ _ a6 (some ⟨g10, 0, none⟩) b6 0 cap6 be 0 cap10 h h')
      rw [decide_eq_true HZE.out] at HSM
      have hec := HCE.out
      have HCEE := Lib.hid (fun W (h : SlC W (fun y => y < w10.heap.size) (some ⟨g10, 0, none⟩) be 0 ee.len cap10 ee) => count_any (ee.count + 1) (by omega) ee (Nat.lt_succ_self _) W _ _ be 0 cap10 h)
      have HCL := Lib.hid (fun W (h : SlC W (fun y => y < w2.heap.size) a2 b2 0 c.len cap2 c) => count_any (c.count + 1) (by omega) c (Nat.lt_succ_self _) W _ a2 b2 0 cap2 h)
      have HCM := Lib.hid (fun W (h : SlC W (fun y => y < w4.heap.size) a4 b4 0 d.len cap4 d) => count_any (d.count + 1) (by omega) d (Nat.lt_succ_self _) W _ a4 b4 0 cap4 h)
      have HDEE := Lib.hid (fun W (h : SlC W (fun y => y < w10.heap.size) (some ⟨g10, 0, none⟩) be 0 ee.len cap10 ee) => depth_any (ee.count + 1) (by omega) ee (Nat.lt_succ_self _) W _ _ be 0 cap10 h)
      have HDL := Lib.hid (fun W (h : SlC W (fun y => y < w2.heap.size) a2 b2 0 c.len cap2 c) => depth_any (c.count + 1) (by omega) c (Nat.lt_succ_self _) W _ a2 b2 0 cap2 h)
      have HDM := Lib.hid (fun W (h : SlC W (fun y => y < w4.heap.size) a4 b4 0 d.len cap4 d) => depth_any (d.count + 1) (by omega) d (Nat.lt_succ_self _) W _ a4 b4 0 cap4 h)
      have hdl := depth_count c
      have hdm := depth_count d
      have hde := HDE.out
      obtain ⟨f0, f1, ff, fl⟩ := HF10.out
      generalize ee.count = ec at *
      generalize c.count = cc at *
      generalize d.count = dc at *
      generalize ee.depth = ed at *
      generalize c.depth = cd at *
      generalize d.depth = dd at *
      go_wp2_with fail
      clear f0 f1 ff fl HF10
      refine (HSM.out _ (HK.out.low (fun x hx => hx) HWK10.out) (HE.out.low (fun x hx => hx) HWE10.out)).mono ?_
      rintro e w11 ⟨rfl, hb11⟩
      have HB11 := Lib.hid (HB10.out.trans (Below.mono hb11 HB10.out.size))
      have HWL11 := Lib.hid (HWL10.out.trans (Below.mono hb11 HWL10.out.size))
      have HWM11 := Lib.hid (HWM10.out.trans (Below.mono hb11 HWM10.out.size))
      have HWK11 := Lib.hid (HWK10.out.trans (Below.mono hb11 HWK10.out.size))
      have HWE11 := Lib.hid (HWE10.out.trans (Below.mono hb11 HWE10.out.size))
      clear hb11 HB10 HWL10 HWM10 HWK10 HWE10
      go_wp2_with fail
      refine (HCEE.out _ (HE.out.low (fun x hx => hx) HWE11.out)).mono ?_
      rintro e w12 ⟨rfl, hb12⟩
      have HB12 := Lib.hid (HB11.out.trans (Below.mono hb12 HB11.out.size))
      have HWL12 := Lib.hid (HWL11.out.trans (Below.mono hb12 HWL11.out.size))
      have HWM12 := Lib.hid (HWM11.out.trans (Below.mono hb12 HWM11.out.size))
      have HWK12 := Lib.hid (HWK11.out.trans (Below.mono hb12 HWK11.out.size))
      have HWE12 := Lib.hid (HWE11.out.trans (Below.mono hb12 HWE11.out.size))
      clear hb12 HB11 HWL11 HWM11 HWK11 HWE11
      go_wp2_with fail
      refine (HCL.out _ (HL.out.low (fun x hx => hx) HWL12.out)).mono ?_
      rintro e w13 ⟨rfl, hb13⟩
      have HB13 := Lib.hid (HB12.out.trans (Below.mono hb13 HB12.out.size))
      have HWL13 := Lib.hid (HWL12.out.trans (Below.mono hb13 HWL12.out.size))
      have HWM13 := Lib.hid (HWM12.out.trans (Below.mono hb13 HWM12.out.size))
      have HWK13 := Lib.hid (HWK12.out.trans (Below.mono hb13 HWK12.out.size))
      have HWE13 := Lib.hid (HWE12.out.trans (Below.mono hb13 HWE12.out.size))
      clear hb13 HB12 HWL12 HWM12 HWK12 HWE12
      go_wp2_with fail
      refine (HCM.out _ (HM.out.low (fun x hx => hx) HWM13.out)).mono ?_
      rintro e w14 ⟨rfl, hb14⟩
      have HB14 := Lib.hid (HB13.out.trans (Below.mono hb14 HB13.out.size))
      have HWL14 := Lib.hid (HWL13.out.trans (Below.mono hb14 HWL13.out.size))
      have HWM14 := Lib.hid (HWM13.out.trans (Below.mono hb14 HWM13.out.size))
      have HWK14 := Lib.hid (HWK13.out.trans (Below.mono hb14 HWK13.out.size))
      have HWE14 := Lib.hid (HWE13.out.trans (Below.mono hb14 HWE13.out.size))
      clear hb14 HB13 HWL13 HWM13 HWK13 HWE13
      have e1 : ((ec : Int) == (cc : Int) + (dc : Int)) = true := by simp; omega
      have e2 : (ec : Int) = (cc : Int) + (dc : Int) := by omega
      go_wp2_with fail
      refine (HDEE.out _ (HE.out.low (fun x hx => hx) HWE14.out)).mono ?_
      rintro e w15 ⟨rfl, hb15⟩
      have HB15 := Lib.hid (HB14.out.trans (Below.mono hb15 HB14.out.size))
      have HWL15 := Lib.hid (HWL14.out.trans (Below.mono hb15 HWL14.out.size))
      have HWM15 := Lib.hid (HWM14.out.trans (Below.mono hb15 HWM14.out.size))
      have HWK15 := Lib.hid (HWK14.out.trans (Below.mono hb15 HWK14.out.size))
      have HWE15 := Lib.hid (HWE14.out.trans (Below.mono hb15 HWE14.out.size))
      clear hb15 HB14 HWL14 HWM14 HWK14 HWE14
      go_wp2_with fail
      refine (HDL.out _ (HL.out.low (fun x hx => hx) HWL15.out)).mono ?_
      rintro e w16 ⟨rfl, hb16⟩
      have HB16 := Lib.hid (HB15.out.trans (Below.mono hb16 HB15.out.size))
      have HWL16 := Lib.hid (HWL15.out.trans (Below.mono hb16 HWL15.out.size))
      have HWM16 := Lib.hid (HWM15.out.trans (Below.mono hb16 HWM15.out.size))
      have HWK16 := Lib.hid (HWK15.out.trans (Below.mono hb16 HWK15.out.size))
      have HWE16 := Lib.hid (HWE15.out.trans (Below.mono hb16 HWE15.out.size))
      clear hb16 HB15 HWL15 HWM15 HWK15 HWE15
      go_wp2_with fail
      refine (HDM.out _ (HM.out.low (fun x hx => hx) HWM16.out)).mono ?_
      rintro e w17 ⟨rfl, hb17⟩
      have HB17 := Lib.hid (HB16.out.trans (Below.mono hb17 HB16.out.size))
      clear hb17 HB16
      by_cases hm : cd < dd
      · have hm1 : (cd : Int) < (dd : Int) := by omega
        have e3 : ((ed : Int) == (dd : Int)) = true := by simp; omega
        have e4 : (ed : Int) = (dd : Int) := by omega
        go_wp2_with fail
        go_ret
        exact ⟨by first | rfl | (simp; omega), HB17.out⟩
      · have hm1 : ¬ (cd : Int) < (dd : Int) := by omega
        have e3 : ((ed : Int) == (cd : Int)) = true := by simp; omega
        have e4 : (ed : Int) = (cd : Int) := by omega
        go_wp2_with fail
        go_ret
        exact ⟨by first | rfl | (simp; omega), HB17.out⟩
    · have q0 : (qc == 0) = false := by simpa using hqc
      have q1 : (qc != 0) = true := by simpa using hqc
      go_wp2_with fail
      go_ret
      exact ⟨rfl, HB5.out⟩
  · have q0 : (pc == 0) = false := by simpa using hpc
    have q1 : (pc != 0) = true := by simpa using hpc
    go_wp2_with fail
    go_ret
    exact ⟨rfl, HB5.out⟩
end Go.Proofs.YtepigooldelgnaaDoor
