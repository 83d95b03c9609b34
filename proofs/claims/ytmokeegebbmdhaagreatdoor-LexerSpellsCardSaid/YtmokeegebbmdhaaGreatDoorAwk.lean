/- Contract of layer 9's awake. -/
import Derived.Test.YtmokeegebbmdhaaGreatDoorJoin
import Derived.Test.YtmokeegebbmdhaaGreatDoorPlc
set_option linter.unusedSimpArgs false
set_option linter.unusedVariables false
namespace Go.Proofs.YtmokeegebbmdhaaGreatDoor
open Go.RowKit

def eg1 : ByteArray := ⟨#[101, 108, 101, 109, 101, 110, 116, 32, 51, 76, 122, 32, 118, 97, 108, 117, 101, 32, 50, 46, 53, 48, 59]⟩
def eg2 : ByteArray := ⟨#[32, 49, 46, 50, 51, 52, 53]⟩
def eg3 : ByteArray := ⟨#[49, 48, 48, 48, 48, 48, 49]⟩
def tks1 : List Tk := [⟨1, bs [101, 108, 101, 109, 101, 110, 116], 0, 0⟩, ⟨1, bs [51, 76, 122], 0, 8⟩, ⟨1, bs [118, 97, 108, 117, 101], 0, 12⟩, ⟨2, bs [], 2500, 18⟩, ⟨4, bs [59], 0, 22⟩, ⟨5, bs [], 0, 23⟩]
theorem lex_eg1 : lexS eg1 = (tks1, 0, 0) := by decide +kernel
theorem lex_eg2 : lexS eg2 = ([], 2, 1) := by decide +kernel
theorem lex_eg3 : lexS eg3 = ([], 5, 0) := by decide +kernel
theorem valid_eg : validT ⟨4, bs [59], 0, 22⟩ = true := by decide +kernel
theorem place_eg : plA ⟨#[97, 10, 98]⟩ 2 = (2, 1) := by decide +kernel
theorem spell_eg : spellS ⟨2, bs [], 2500, 0⟩ = ([50, 46, 53], 0) := by
  have hv : validT ⟨2, bs [], 2500, 0⟩ = true := by decide +kernel
  rw [spellS_ok hv]
  have : spellT ⟨2, bs [], 2500, 0⟩ = decN 2500 := rfl
  rw [this]
  have hf : fraN (2500 % 1000) = [53] := by
    unfold fraN
    rw [dd_four (2500 % 1000) (by decide)]
    decide +kernel
  unfold decN
  rw [hf, dd_small (by decide)]
  decide +kernel
set_option maxHeartbeats 4000000 in
set_option maxRecDepth 100000 in
theorem awake_any (w : World) (hT : Tabs w) : Calls Tryz.prog 7 #[] w fun e w' => e = .returned (.bool true) ∧ Below w.heap.size w w' := by
  have HT := Lib.hid hT
  have H1 := Lib.hid (fun W hW => lex_any eg1 W hW)
  have H2 := Lib.hid (fun W hW => lex_any eg2 W hW)
  have H3 := Lib.hid (fun W hW => lex_any eg3 W hW)
  have H4 := Lib.hid (fun W hW => spell_any ⟨2, bs [], 2500, 0⟩ (by decide) W hW)
  have H5 := Lib.hid (fun W => place_any ⟨#[97, 10, 98]⟩ (by decide) 2 (by decide) W)
  have H6 := Lib.hid (fun W hW => valid_any ⟨4, bs [59], 0, 22⟩ (by decide) W hW)
  rw [lex_eg1] at H1
  rw [lex_eg2] at H2
  rw [lex_eg3] at H3
  rw [spell_eg] at H4
  rw [place_eg] at H5
  rw [valid_eg] at H6
  unfold LexPost fV at H1 H2 H3
  unfold eg1 at H1
  unfold eg2 at H2
  unfold eg3 at H3
  simp only [Tk.val, bs] at H4 H6
  clear hT
  go_enter Tryz.func7, Tryz.ntmps7
  go_wp2_with fail
  refine (H1.out _ HT.out).mono ?_
  rintro e w1 ⟨v1, rfl, ho1, hb1⟩
  obtain ⟨a1, b1, cap1, rfl, sl1⟩ := (show ∃ a b cap, v1 = .slice a 6 cap ∧ SlT w1 a b 0 6 cap tks1 from slt_own ho1)
  have HS1 := Lib.hid sl1
  obtain rfl := sl1.ha (by decide)
  have hcap := sl1.hcap
  have hmax := sl1.hmax
  unfold maxLen at hmax
  have HB1 := Lib.hid hb1
  have hs1 := hb1.size
  have HF1 := Lib.hid (ft_new w1 0 0 26)
  have HBA := Lib.hid (hb1.alloc hs1 (.cells #[.int .i64 0, .int .i64 0] 26))
  have HT1 := Lib.hid (HT.out.below HBA.out)
  have HS1' := Lib.hid (sl1.keep ((Below.refl _ _).alloc (Nat.le_refl _) (.cells #[.int .i64 0, .int .i64 0] 26)))
  clear sl1 ho1 hb1
  go_wp2_with fail
  refine (H2.out _ HT1.out).mono ?_
  rintro e w2 ⟨v2, rfl, ho2, hb2⟩
  have hs2 := hb2.size
  simp only [World.size_alloc] at hs2
  have HBB := Lib.hid (bel_by hb2 (by simp; omega) HBA.out)
  have HS2 := Lib.hid (HS1'.out.keep hb2)
  have HF12 := Lib.hid (HF1.out.keep hb2)
  have HBC := Lib.hid (HBB.out.alloc (by omega) (.cells #[.int .i64 2, .int .i64 1] 26))
  have HT2 := Lib.hid (HT.out.below HBC.out)
  have HF2 := Lib.hid (ft_new w2 2 1 26)
  have HS2' := Lib.hid (HS2.out.keep ((Below.refl _ _).alloc (Nat.le_refl _) (.cells #[.int .i64 2, .int .i64 1] 26)))
  have HF12' := Lib.hid (HF12.out.keep ((Below.refl _ _).alloc (Nat.le_refl _) (.cells #[.int .i64 2, .int .i64 1] 26)))
  clear ho2 hb2
  go_wp2_with fail
  refine (H3.out _ HT2.out).mono ?_
  rintro e w3 ⟨v3, rfl, ho3, hb3⟩
  have hs3 := hb3.size
  simp only [World.size_alloc] at hs3
  have HBD := Lib.hid (bel_by hb3 (by simp; omega) HBC.out)
  have HS3 := Lib.hid (HS2'.out.keep hb3)
  have HF13 := Lib.hid (HF12'.out.keep hb3)
  have HF23 := Lib.hid (HF2.out.keep hb3)
  have HBE := Lib.hid (HBD.out.alloc (by omega) (.cells #[.int .i64 5, .int .i64 0] 26))
  have HT3 := Lib.hid (HT.out.below HBE.out)
  have HF3 := Lib.hid (ft_new w3 5 0 26)
  have HS3' := Lib.hid (HS3.out.keep ((Below.refl _ _).alloc (Nat.le_refl _) (.cells #[.int .i64 5, .int .i64 0] 26)))
  have HF13' := Lib.hid (HF13.out.keep ((Below.refl _ _).alloc (Nat.le_refl _) (.cells #[.int .i64 5, .int .i64 0] 26)))
  have HF23' := Lib.hid (HF23.out.keep ((Below.refl _ _).alloc (Nat.le_refl _) (.cells #[.int .i64 5, .int .i64 0] 26)))
  clear ho3 hb3
  go_wp2_with fail
  refine (H4.out _ HT3.out).mono ?_
  rintro e w4 ⟨rfl, hb4⟩
  have hs4 := hb4.size
  simp only [World.size_alloc] at hs4
  have HBF := Lib.hid (bel_by hb4 (by simp; omega) HBE.out)
  have HS4 := HS3'.out.keep hb4
  obtain ⟨p0, p1, pf, pl⟩ := HF13'.out.keep hb4
  obtain ⟨q0, q1, qf, ql⟩ := HF23'.out.keep hb4
  obtain ⟨r0, r1, rf, rl⟩ := HF3.out.keep hb4
  have HT4 := Lib.hid (HT.out.below HBF.out)
  clear hb4 HF1 HF12 HF12' HF2 HF13 HF23 HF13' HF23' HF3 HS1 HS1' HS2 HS2' HS3 HS3' HBA HBB HBC HBD HBE HB1 HT1 HT2 HT3 H1 H2 H3 H4
  go_wp2_with fail
  refine (H5.out _).mono ?_
  rintro e w5 ⟨rfl, rfl⟩
  have c10 : w4.cell? ⟨b1, 4, none⟩ = some (.int .i64 1) := HS4.c0 1 (by decide)
  have c11 : w4.cell? ⟨b1, 5, none⟩ = some (.string (bs [51, 76, 122])) := HS4.c1 1 (by decide)
  have c12 : w4.cell? ⟨b1, 6, none⟩ = some (.int .i64 0) := HS4.c2 1 (by decide)
  have c13 : w4.cell? ⟨b1, 7, none⟩ = some (.int .i64 8) := HS4.c3 1 (by decide)
  have c30 : w4.cell? ⟨b1, 12, none⟩ = some (.int .i64 2) := HS4.c0 3 (by decide)
  have c31 : w4.cell? ⟨b1, 13, none⟩ = some (.string (bs [])) := HS4.c1 3 (by decide)
  have c32 : w4.cell? ⟨b1, 14, none⟩ = some (.int .i64 2500) := HS4.c2 3 (by decide)
  have c33 : w4.cell? ⟨b1, 15, none⟩ = some (.int .i64 18) := HS4.c3 3 (by decide)
  have c40 : w4.cell? ⟨b1, 16, none⟩ = some (.int .i64 4) := HS4.c0 4 (by decide)
  have c41 : w4.cell? ⟨b1, 17, none⟩ = some (.string (bs [59])) := HS4.c1 4 (by decide)
  have c42 : w4.cell? ⟨b1, 18, none⟩ = some (.int .i64 0) := HS4.c2 4 (by decide)
  have c43 : w4.cell? ⟨b1, 19, none⟩ = some (.int .i64 22) := HS4.c3 4 (by decide)
  have c50 : w4.cell? ⟨b1, 20, none⟩ = some (.int .i64 5) := HS4.c0 5 (by decide)
  unfold bs at c11 c31 c41
  clear HS4
  go_wp2_with fail
  refine (H6.out _ HT4.out).mono ?_
  rintro e w6 ⟨rfl, hb6⟩
  have hbf := HBF.out
  have HBG := Lib.hid (show Below w.heap.size w w6 from (by repeat (first | with_reducible exact Below.refl _ _ | (with_reducible refine Below.setCell ?_ (by first | exact Nat.le_refl _ | omega | (simp; done) | (simp; omega)) _) | (with_reducible refine Below.alloc ?_ (by first | exact Nat.le_refl _ | omega | (simp; done) | (simp; omega)) _) | with_reducible refine Below.drew ?_ | with_reducible refine bel_drewN ?_ _ | (with_reducible refine bel_by (by with_reducible assumption) (by first | exact Nat.le_refl _ | omega | (simp; done) | (simp; omega)) ?_))))
  clear hb6 hbf
  go_wp2_with fail
  go_ret
  exact ⟨rfl, HBG.out⟩
end Go.Proofs.YtmokeegebbmdhaaGreatDoor
