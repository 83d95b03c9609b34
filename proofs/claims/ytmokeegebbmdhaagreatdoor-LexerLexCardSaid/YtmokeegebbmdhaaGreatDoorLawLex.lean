/- The law of Lex: for every source. -/
import Derived.Test.YtmokeegebbmdhaaGreatDoorAwk
import Derived.Test.YtmokeegebbmdhaaGreatDoorRefG
import Derived.Test.YtmokeegebbmdhaaGreatDoorSame
import Derived.Test.YtmokeegebbmdhaaGreatDoorStep
set_option linter.unusedSimpArgs false
set_option linter.unusedVariables false
namespace Go.Proofs.YtmokeegebbmdhaaGreatDoor
open Go.RowKit

theorem same_self (A : List Tk) : sameL true A A = true := by
  unfold sameL
  simp
set_option maxHeartbeats 4000000 in
set_option maxRecDepth 100000 in
theorem lex_walk (s : ByteArray) (hs : s.size ≤ 9223372036854775807) (w : World) (hT : Tabs w) : Calls Tryz.prog 3 #[.string s] w fun e w' => e = .returned (.bool true) ∧ Below w.heap.size w w' := by
  have HA := Lib.hid (fun W hW => awake_any W hW)
  have HT := Lib.hid hT
  by_cases hz : 2000 < s.size
  · have k1 : decide ((s.size : Int) > 2000) = true := decide_eq_true (by omega)
    clear hT
    go_enter Tryz.func3, Tryz.ntmps3
    go_wp2_with fail
    refine (HA.out _ HT.out).mono ?_
    rintro e w1 ⟨rfl, hb1⟩
    go_wp2_with fail
    go_ret
    exact ⟨rfl, hb1⟩
  · have k1 : decide ((s.size : Int) > 2000) = false := decide_eq_false (by omega)
    have HX := Lib.hid (lex_any s w hT)
    have HY := Lib.hid (fun W => rlex_any s (by omega) W)
    clear hT
    generalize lexS s = x at *
    obtain ⟨L, c, fa⟩ := x
    unfold LexPost fV at HX HY
    simp only at HX HY
    have HSM := Lib.hid (same_self L)
    obtain ⟨nL, hnL⟩ : ∃ nL, L.length = nL := ⟨_, rfl⟩
    have HNL := Lib.hid hnL
    clear hnL
    go_enter Tryz.func3, Tryz.ntmps3
    go_wp2_with fail
    refine HX.out.mono ?_
    rintro e w1 ⟨v1, rfl, ho1, hb1⟩
    obtain ⟨a1, b1, cap1, rfl, sl1⟩ := slt_own ho1
    rw [HNL.out] at sl1 ⊢
    have hs1 := hb1.size
    have HB1 := Lib.hid (hb1.alloc hs1 (.cells #[.int .i64 c, .int .i64 fa] 26))
    have HF1 := Lib.hid (ft_new w1 c fa 26)
    have HS1 := Lib.hid (sl1.keep ((Below.refl _ _).alloc (Nat.le_refl _) (.cells #[.int .i64 c, .int .i64 fa] 26)))
    clear ho1 sl1 hb1
    go_wp2_with fail
    refine (HY.out _).mono ?_
    rintro e w2 ⟨v2, rfl, ho2, hb2⟩
    obtain ⟨a2, b2, cap2, rfl, sl2⟩ := slt_own ho2
    rw [HNL.out] at sl2 ⊢
    have hs2 := hb2.size
    simp only [World.size_alloc] at hs2
    have HB2 := Lib.hid (bel_by hb2 (by simp; omega) HB1.out)
    have HB2a := Lib.hid (HB2.out.alloc (by omega) (.cells #[.int .i64 c, .int .i64 fa] 26))
    have HT2 := Lib.hid (HT.out.below HB2a.out)
    have HS2 := Lib.hid ((HS1.out.keep hb2).keep ((Below.refl _ _).alloc (Nat.le_refl _) (.cells #[.int .i64 c, .int .i64 fa] 26)))
    have HR2 := Lib.hid (sl2.keep ((Below.refl _ _).alloc (Nat.le_refl _) (.cells #[.int .i64 c, .int .i64 fa] 26)))
    have HU1 := Lib.hid ((HF1.out.keep hb2).keep ((Below.refl _ _).alloc (Nat.le_refl _) (.cells #[.int .i64 c, .int .i64 fa] 26)))
    have HU2 := Lib.hid (ft_new w2 c fa 26)
    clear ho2 sl2 hb2
    go_wp2_with fail
    refine (HA.out _ HT2.out).mono ?_
    rintro e w3 ⟨rfl, hb3⟩
    have hs3 := hb3.size
    simp only [World.size_alloc] at hs3
    have HB3 := Lib.hid (bel_by hb3 (by simp; omega) HB2a.out)
    have HSA := Lib.hid (same_any (HS2.out.keep hb3) (HR2.out.keep hb3) true)
    rw [HSM.out] at HSA
    obtain ⟨b0, b1, bf, bl⟩ := HU1.out.keep hb3
    obtain ⟨d0, d1, df, dl⟩ := HU2.out.keep hb3
    clear hb3
    go_wp2_with fail
    refine HSA.out.mono ?_
    rintro e w4 ⟨rfl, hb4⟩
    have HB4 := Lib.hid (bel_by hb4 (by omega) HB3.out)
    clear hb4
    go_wp2_with fail
    go_ret
    exact ⟨rfl, HB4.out⟩
end Go.Proofs.YtmokeegebbmdhaaGreatDoor
