/- Contract of layer 11: Equal. -/
import Derived.Test.YtohalocbghhenaaGreatDoorLok
import Derived.Test.YtohalocbghhenaaGreatDoorSmc
set_option linter.unusedSimpArgs false
set_option linter.unusedVariables false
namespace Go.Proofs.YtohalocbghhenaaGreatDoor
open Go.RowKit

set_option maxHeartbeats 2000000 in
set_option maxRecDepth 100000 in
theorem equal_any (x y : ByteArray) (w : World) (hT : Tabs w) : Calls Tryz.prog 25 #[.string x, .string y] w fun e w' => e = .returned (.bool (eqlS x y)) ∧ Below w.heap.size w w' := by
  have HT := Lib.hid hT
  have HP := Lib.hid (fun W hW => parl_any x W hW)
  have HQ := Lib.hid (fun W hW => parl_any y W hW)
  have HR := Lib.hid (show eqlS x y = ((parS x).2.1 == 0 && ((parS y).2.1 == 0 && decide ((parS x).1.zero = (parS y).1.zero))) from rfl)
  have HPC := Lib.hid (parS_count x)
  have HQC := Lib.hid (parS_count y)
  have HSM := Lib.hid (fun W F G a a' b b' cap cap' (h : SlC W F a b 0 (parS x).1.len cap (parS x).1) (h' : SlC W G a' b' 0 (parS y).1.len cap' (parS y).1) => same_any ((parS x).1.count + 1) (by have := HPC.out; omega) (parS x).1 (parS y).1 (Nat.lt_succ_self _) (by have := HQC.out; have := kidsN_le (parS y).1 0; omega) W F G a a' b 0 cap b' 0 cap' h h')
  unfold PrlPost fV at HP HQ
  clear HPC HQC hT
  generalize eqlS x y = r at *
  generalize parS x = P at *
  generalize parS y = Q at *
  obtain ⟨c, pc, pa⟩ := P
  obtain ⟨d, qc, qa⟩ := Q
  simp only at HP HQ HR HSM
  generalize decide (c.zero = d.zero) = z at *
  generalize hcl : c.len = n at *
  generalize hdl : d.len = m at *
  go_enter Tryz.func25, Tryz.ntmps25
  go_wp2_with fail
  refine (HP.out _ HT.out).mono ?_
  rintro e w1 ⟨a1, b1, cap1, rfl, sl1, hb1, _⟩
  have HB1 := Lib.hid hb1
  have HL1 := Lib.hid (SlC.mono (G := fun y => y < w1.heap.size) (fun y hy => hy.2) sl1)
  have hs1 := hb1.size
  clear sl1 hb1 HP
  have HB2 := Lib.hid (HB1.out.alloc hs1 (.cells #[.int .i64 pc, .int .i64 pa] 40))
  have HW2 := Lib.hid ((Below.refl w1.heap.size w1).alloc (Nat.le_refl _) (.cells #[.int .i64 pc, .int .i64 pa] 40))
  have HF2 := Lib.hid (ft_new w1 pc pa 40)
  clear HB1
  go_wp2_with fail
  refine (HQ.out _ (HT.out.below HB2.out)).mono ?_
  rintro e w3 ⟨a3, b3, cap3, rfl, sl3, hb3, _⟩
  have HB3 := Lib.hid (HB2.out.trans (Below.mono hb3 HB2.out.size))
  have HW3 := Lib.hid (HW2.out.trans (Below.mono hb3 HW2.out.size))
  have HF3 := Lib.hid (HF2.out.keep hb3)
  have HL3 := Lib.hid (SlC.mono (G := fun y => y < w3.heap.size) (fun y hy => hy.2) sl3)
  have hs3 := HB3.out.size
  have hs3b := HW3.out.size
  clear sl3 hb3 HB2 HW2 HF2 HQ
  have HB4 := Lib.hid (HB3.out.alloc hs3 (.cells #[.int .i64 qc, .int .i64 qa] 40))
  have HW4 := Lib.hid (HW3.out.alloc hs3b (.cells #[.int .i64 qc, .int .i64 qa] 40))
  have HV4 := Lib.hid ((Below.refl w3.heap.size w3).alloc (Nat.le_refl _) (.cells #[.int .i64 qc, .int .i64 qa] 40))
  have HF4 := Lib.hid (HF3.out.keep ((Below.refl _ _).alloc (Nat.le_refl _) (.cells #[.int .i64 qc, .int .i64 qa] 40)))
  have HG4 := Lib.hid (ft_new w3 qc qa 40)
  clear HB3 HW3 HF3
  obtain ⟨f0, f1, ff, fl⟩ := HF4.out
  obtain ⟨g0, g1, gf, gl⟩ := HG4.out
  have hr := HR.out
  clear HR
  by_cases hp : pc = 0
  · subst hp
    by_cases hq : qc = 0
    · subst hq
      have HS := Lib.hid (HSM.out _ _ _ _ _ _ _ _ _ (HL1.out.low (fun x hx => hx) HW4.out) (HL3.out.low (fun x hx => hx) HV4.out))
      clear HSM
      go_wp2_with fail
      clear f0 f1 ff fl g0 g1 gf gl
      refine HS.out.mono ?_
      rintro e w5 ⟨rfl, hb5⟩
      have HB5 := Lib.hid (HB4.out.trans (Below.mono hb5 HB4.out.size))
      clear hb5
      subst hr
      go_wp2_with fail
      go_ret
      exact ⟨by simp, HB5.out⟩
    · have q0 : (qc == 0) = false := by simpa using hq
      have q1 : (qc != 0) = true := by simpa using hq
      rw [q0] at hr
      subst hr
      clear HSM
      go_wp2_with fail
      go_ret
      exact ⟨by simp, HB4.out⟩
  · have q0 : (pc == 0) = false := by simpa using hp
    have q1 : (pc != 0) = true := by simpa using hp
    rw [q0] at hr
    subst hr
    clear HSM
    go_wp2_with fail
    go_ret
    exact ⟨by simp, HB4.out⟩
end Go.Proofs.YtohalocbghhenaaGreatDoor
