/- Contract of layer 11: Equal. -/
import Derived.Test.YtohalocbghhenaaGreatDoorLok
import Derived.Test.YtohalocbghhenaaGreatDoorSmc
import Derived.Test.YtohalocbghhenaaGreatDoorPaw
set_option linter.unusedSimpArgs false
set_option linter.unusedVariables false
namespace Go.Proofs.YtohalocbghhenaaGreatDoor
open Go.RowKit

set_option maxHeartbeats 2000000 in
set_option maxRecDepth 100000 in
theorem equal_any (x y : ByteArray) (w : World) (hT : Tabs w) : Calls Tryz.prog 25 #[.string x, .string y] w fun e w' => e = .returned (.bool (eqlS x y)) ∧ Below w.heap.size w w' := by
  have HT := Lib.hid hT
  have HP := Lib.hid (fun W hW => parl_any x W hW)
  have HQ := Lib.hid (fun W hW => parl_any y W hW)
  have HR := Lib.hid (show eqlS x y = ((parS x).2.1 == 0 && ((parS y).2.1 == 0 && decide ((parS x).1.zero = (parS y).1.zero))) from rfl)
  have HPC := Lib.hid (parS_count x)
  have HQC := Lib.hid (parS_count y)
  have HSM := Lib.hid (fun W F G a a' b b' cap cap' (h : SlC W F a b 0 (parS x).1.len cap (parS x).1) (h' : SlC W G a' b' 0 (parS y).1.len cap' (parS y).1) => same_any ((parS x).1.count + 1) (by have := HPC.out; omega) (parS x).1 (parS y).1 (Nat.lt_succ_self _) (by have := HQC.out; have := kidsN_le (parS y).1 0; omega) W F G a a' b 0 cap b' 0 cap' h h')
  unfold PrlPost fV at HP HQ
  clear HPC HQC hT
  generalize eqlS x y = r at *
  generalize parS x = P at *
  generalize parS y = Q at *
  obtain ⟨c, pc, pa⟩ := P
  obtain ⟨d, qc, qa⟩ := Q
  simp only at HP HQ HR HSM
  generalize decide (c.zero = d.zero) = z at *
  generalize hcl : c.len = n at *
  generalize hdl : d.len = m at *
  go_enter Tryz.func25, Tryz.ntmps25
  go_wp2_with fail
  refine (HP.out _ HT.out).mono ?_
  rintro e w1 ⟨a1, b1, cap1, rfl, sl1, hb1, _⟩
  have HB1 := Lib.hid hb1
  have HL1 := Lib.hid (SlC.mono (G := fun y => y < w1.heap.size) (fun y hy => hy.2) sl1)
  have hs1 := hb1.size
  clear sl1 hb1 HP
  have HB2 := Lib.hid (HB1.out.alloc hs1 (.cells #[.int .i64 pc, .int .i64 pa] 40))
  have HW2 := Lib.hid ((Below.refl w1.heap.size w1).alloc (Nat.le_refl _) (.cells #[.int .i64 pc, .int .i64 pa] 40))
  have HF2 := Lib.hid (ft_new w1 pc pa 40)
  clear HB1
  go_wp2_with fail
  refine (HQ.out _ (HT.out.below HB2.out)).mono ?_
  rintro e w3 ⟨a3, b3, cap3, rfl, sl3, hb3, _⟩
  have HB3 := Lib.hid (HB2.out.trans (Below.mono hb3 HB2.out.size))
  have HW3 := Lib.hid (HW2.out.trans (Below.mono hb3 HW2.out.size))
  have HF3 := Lib.hid (HF2.out.keep hb3)
  have HL3 := Lib.hid (SlC.mono (G := fun y => y < w3.heap.size) (fun y hy => hy.2) sl3)
  have hs3 := HB3.out.size
  have hs3b := HW3.out.size
  clear sl3 hb3 HB2 HW2 HF2 HQ
  have HB4 := Lib.hid (HB3.out.alloc hs3 (.cells #[.int .i64 qc, .int .i64 qa] 40))
  have HW4 := Lib.hid (HW3.out.alloc hs3b (.cells #[.int .i64 qc, .int .i64 qa] 40))
  have HV4 := Lib.hid ((Below.refl w3.heap.size w3).alloc (Nat.le_refl _) (.cells #[.int .i64 qc, .int .i64 qa] 40))
  have HF4 := Lib.hid (HF3.out.keep ((Below.refl _ _).alloc (Nat.le_refl _) (.cells #[.int .i64 qc, .int .i64 qa] 40)))
  have HG4 := Lib.hid (ft_new w3 qc qa 40)
  clear HB3 HW3 HF3
  obtain ⟨f0, f1, ff, fl⟩ := HF4.out
  obtain ⟨g0, g1, gf, gl⟩ := HG4.out
  have hr := HR.out
  clear HR
  by_cases hp : pc = 0
  · subst hp
    by_cases hq : qc = 0
    · subst hq
      have HS := Lib.hid (HSM.out _ _ _ _ _ _ _ _ _ (HL1.out.low (fun x hx => hx) HW4.out) (HL3.out.low (fun x hx => hx) HV4.out))
      clear HSM
      go_wp2_with fail
      clear f0 f1 ff fl g0 g1 gf gl
      refine HS.out.mono ?_
      rintro e w5 ⟨rfl, hb5⟩
      have HB5 := Lib.hid (HB4.out.trans (Below.mono hb5 HB4.out.size))
      clear hb5
      subst hr
      go_wp2_with fail
      go_ret
      exact ⟨by simp, HB5.out⟩
    · have q0 : (qc == 0) = false := by simpa using hq
      have q1 : (qc != 0) = true := by simpa using hq
      rw [q0] at hr
      subst hr
      clear HSM
      go_wp2_with fail
      go_ret
      exact ⟨by simp, HB4.out⟩
  · have q0 : (pc == 0) = false := by simpa using hp
    have q1 : (pc != 0) = true := by simpa using hp
    rw [q0] at hr
    subst hr
    clear HSM
    go_wp2_with fail
    go_ret
    exact ⟨by simp, HB4.out⟩
end Go.Proofs.YtohalocbghhenaaGreatDoor
/- The law of normalized sources: for every string. -/
namespace Go.Proofs.YtohalocbghhenaaGreatDoor
open Go.RowKit

theorem nrm_good {s : ByteArray} (hs : s.size ≤ 1500) (h : (parS s).2.1 = 0) :
    nrmS s = (linS (parS s).1 0, 0, 0) ∧ prtS (parS s).1 = (linS (parS s).1 0, 0) ∧ nrmS (bs (linS (parS s).1 0)) = (linS (parS s).1 0, 0, 0) ∧ eqlS s (bs (linS (parS s).1 0)) = true := by
  obtain ⟨h1, h2, hl⟩ := parS_lin s hs h
  obtain ⟨_, _, _, _, _, hc⟩ := parS_room h
  obtain ⟨g1, g2, g3⟩ := lin_again hc hl
  have g4 : (parS (bs (linS (parS s).1 0))).2.1 = 0 := by rw [g1]
  refine ⟨by unfold nrmS; rw [if_pos h, if_pos hl], by unfold prtS; rw [if_pos hc, if_pos hl], by unfold nrmS; rw [if_pos g4, g3, if_pos hl], ?_⟩
  unfold eqlS
  rw [h, g4, g2]
  simp
theorem nrm_bad {s : ByteArray} (h : (parS s).2.1 ≠ 0) : nrmS s = ([], (parS s).2) ∧ eqlS s s = false := by
  refine ⟨by unfold nrmS; rw [if_neg h], ?_⟩
  unfold eqlS
  rw [show ((parS s).2.1 == 0) = false by simpa using h]
  rfl
set_option maxHeartbeats 4000000 in
set_option maxRecDepth 100000 in
theorem normalizes_walk (s : ByteArray) (hmx : s.size ≤ 9223372036854775807) (w : World) (hT : Tabs w) : Calls Tryz.prog 6 #[.string s] w fun e w' => e = .returned (.bool true) ∧ Below w.heap.size w w' := by
  have HA := Lib.hid (awake_any w hT)
  have HT := Lib.hid hT
  clear hT
  by_cases h1 : 1500 < s.size
  · have k1 : decide ((s.size : Int) > 1500) = true := decide_eq_true (by omega)
    go_enter Tryz.func6, Tryz.ntmps6
    go_wp2_with fail
    refine HA.out.mono ?_
    rintro e w1 ⟨rfl, hb1⟩
    go_wp2_with fail
    go_ret
    exact ⟨rfl, hb1⟩
  have k1 : decide ((s.size : Int) > 1500) = false := decide_eq_false (by omega)
  have hsz : s.size ≤ 1500 := by omega
  clear hmx h1
  have HN := Lib.hid (fun W hW => norm_any s W hW)
  have HP := Lib.hid (fun W hW => parl_any s W hW)
  by_cases hp : (parS s).2.1 = 0
  · obtain ⟨n1, n2, n3, n4⟩ := nrm_good hsz hp
    obtain ⟨q1, q2, q3, q4, q5, q6⟩ := parS_room hp
    have HPR := Lib.hid (fun W F a b cap (hA : SlC W F a b 0 (parS s).1.len cap (parS s).1) hW => prt_any (parS s).1 q3 q4 (fun _ => q5) W a b 0 cap F hA hW)
    have HM := Lib.hid (fun W hW => norm_any (bs (linS (parS s).1 0)) W hW)
    have HE := Lib.hid (fun W hW => equal_any s (bs (linS (parS s).1 0)) W hW)
    have hg := parS_good hp
    rw [n1] at HN
    rw [n2] at HPR
    rw [n3] at HM
    rw [n4] at HE
    unfold PrlPost at HP
    rw [hg] at HP
    unfold fV at HN HP HM
    simp only at HN HPR HM HP
    clear n1 n2 n3 n4 q1 q2 q3 q4 q5 q6 hg hp
    generalize bs (linS (parS s).1 0) = S at *
    generalize (parS s).1 = c at *
    generalize c.len = n at *
    go_enter Tryz.func6, Tryz.ntmps6
    go_wp2_with fail
    refine HA.out.mono ?_
    rintro e w1 ⟨rfl, hb1⟩
    have HB1 := Lib.hid hb1
    clear hb1 HA
    go_wp2_with fail
    refine (HN.out _ (HT.out.below HB1.out)).mono ?_
    rintro e w2 ⟨rfl, hb2⟩
    have HB2 := Lib.hid (HB1.out.trans (Below.mono hb2 HB1.out.size))
    have hs2 := HB2.out.size
    clear hb2 HB1 HN
    have HB3 := Lib.hid (HB2.out.alloc hs2 (.cells #[.int .i64 0, .int .i64 0] 40))
    have HF3 := Lib.hid (ft_new w2 0 0 40)
    clear HB2
    go_wp2_with fail
    refine (HP.out _ (HT.out.below HB3.out)).mono ?_
    rintro e w4 ⟨a4, b4, cap4, rfl, sl4, hb4, _⟩
    have HB4 := Lib.hid (HB3.out.trans (Below.mono hb4 HB3.out.size))
    have HF4 := Lib.hid (HF3.out.keep hb4)
    have HL4 := Lib.hid (SlC.mono (G := fun y => y < w4.heap.size) (fun y hy => hy.2) sl4)
    have hs4 := HB4.out.size
    clear sl4 hb4 HB3 HF3 HP
    have HB5 := Lib.hid (HB4.out.alloc hs4 (.cells #[.int .i64 0, .int .i64 0] 40))
    have HF5 := Lib.hid (HF4.out.keep ((Below.refl _ _).alloc (Nat.le_refl _) (.cells #[.int .i64 0, .int .i64 0] 40)))
    have HL5 := Lib.hid (HL4.out.low (fun x hx => hx) ((Below.refl w4.heap.size w4).alloc (Nat.le_refl _) (.cells #[.int .i64 0, .int .i64 0] 40)))
    have HG5 := Lib.hid (ft_new w4 0 0 40)
    obtain ⟨g0, g1, gf, gl⟩ := HG5.out
    clear HB4 HF4 HL4
    go_wp2_with fail
    refine (HPR.out _ _ _ _ _ HL5.out (HT.out.below HB5.out)).mono ?_
    rintro e w6 ⟨rfl, hb6⟩
    have HB6 := Lib.hid (HB5.out.trans (Below.mono hb6 HB5.out.size))
    have HF6 := Lib.hid (HF5.out.keep hb6)
    clear hb6 HB5 HF5 HL5 HG5 HPR g0 g1 gf gl
    go_wp2_with fail
    refine (HM.out _ (HT.out.below HB6.out)).mono ?_
    rintro e w7 ⟨rfl, hb7⟩
    have HB7 := Lib.hid (HB6.out.trans (Below.mono hb7 HB6.out.size))
    have HF7 := Lib.hid (HF6.out.keep hb7)
    have hs7 := HB7.out.size
    clear hb7 HB6 HF6 HM
    have HB8 := Lib.hid (HB7.out.alloc hs7 (.cells #[.int .i64 0, .int .i64 0] 40))
    have HF8 := Lib.hid (HF7.out.keep ((Below.refl _ _).alloc (Nat.le_refl _) (.cells #[.int .i64 0, .int .i64 0] 40)))
    have HH8 := Lib.hid (ft_new w7 0 0 40)
    clear HB7 HF7
    obtain ⟨f0, f1, ff, fl⟩ := HF8.out
    obtain ⟨h0, h1, hf, hl⟩ := HH8.out
    go_wp2_with fail
    refine (HE.out _ (HT.out.below HB8.out)).mono ?_
    rintro e w10 ⟨rfl, hb10⟩
    have HB10 := Lib.hid (HB8.out.trans (Below.mono hb10 HB8.out.size))
    clear hb10
    go_wp2_with fail
    go_ret
    exact ⟨by simp, HB10.out⟩
  · obtain ⟨n1, n2⟩ := nrm_bad hp
    have HE := Lib.hid (fun W hW => equal_any s s W hW)
    rw [n1] at HN
    rw [n2] at HE
    unfold PrlPost at HP
    obtain ⟨pc, hpc⟩ : ∃ pc, (parS s).2.1 = pc := ⟨_, rfl⟩
    obtain ⟨pa, hpa⟩ : ∃ pa, (parS s).2.2 = pa := ⟨_, rfl⟩
    simp only at HN
    rw [hpc, hpa] at HN HP
    rw [hpc] at hp
    unfold fV at HN HP
    rw [show bs [] = ⟨#[]⟩ from rfl] at HN
    generalize (parS s).1 = c at *
    generalize c.len = n at *
    have q0 : (pc == 0) = false := by simpa using hp
    have q1 : (pc != 0) = true := by simpa using hp
    clear n1 n2 hpc hpa
    go_enter Tryz.func6, Tryz.ntmps6
    go_wp2_with fail
    refine HA.out.mono ?_
    rintro e w1 ⟨rfl, hb1⟩
    have HB1 := Lib.hid hb1
    clear hb1 HA
    go_wp2_with fail
    refine (HN.out _ (HT.out.below HB1.out)).mono ?_
    rintro e w2 ⟨rfl, hb2⟩
    have HB2 := Lib.hid (HB1.out.trans (Below.mono hb2 HB1.out.size))
    have hs2 := HB2.out.size
    clear hb2 HB1 HN
    have HB3 := Lib.hid (HB2.out.alloc hs2 (.cells #[.int .i64 pc, .int .i64 pa] 40))
    have HF3 := Lib.hid (ft_new w2 pc pa 40)
    clear HB2
    go_wp2_with fail
    refine (HP.out _ (HT.out.below HB3.out)).mono ?_
    rintro e w4 ⟨a4, b4, cap4, rfl, sl4, hb4, _⟩
    have HB4 := Lib.hid (HB3.out.trans (Below.mono hb4 HB3.out.size))
    have HF4 := Lib.hid (HF3.out.keep hb4)
    have hs4 := HB4.out.size
    clear sl4 hb4 HB3 HF3 HP
    have HB5 := Lib.hid (HB4.out.alloc hs4 (.cells #[.int .i64 pc, .int .i64 pa] 40))
    have HF5 := Lib.hid (HF4.out.keep ((Below.refl _ _).alloc (Nat.le_refl _) (.cells #[.int .i64 pc, .int .i64 pa] 40)))
    have HG5 := Lib.hid (ft_new w4 pc pa 40)
    obtain ⟨g0, g1, gf, gl⟩ := HG5.out
    obtain ⟨f0, f1, ff, fl⟩ := HF5.out
    clear HB4 HF4
    go_wp2_with fail
    refine (HE.out _ (HT.out.below HB5.out)).mono ?_
    rintro e w6 ⟨rfl, hb6⟩
    have HB6 := Lib.hid (HB5.out.trans (Below.mono hb6 HB5.out.size))
    go_wp2_with fail
    go_ret
    exact ⟨by simp, HB6.out⟩
end Go.Proofs.YtohalocbghhenaaGreatDoor
