/- The law of Next: for every source and every offset. -/
import Derived.Test.YtmokeegebbmdhaaGreatDoorAwk
import Derived.Test.YtmokeegebbmdhaaGreatDoorRefF
set_option linter.unusedSimpArgs false
set_option linter.unusedVariables false
namespace Go.Proofs.YtmokeegebbmdhaaGreatDoor
open Go.RowKit

set_option maxHeartbeats 4000000 in
set_option maxRecDepth 100000 in
theorem next_walk (s : ByteArray) (hs : s.size ≤ 9223372036854775807) (a : Int) (h0 : -9223372036854775808 ≤ a) (h1 : a ≤ 9223372036854775807) (w : World) (hT : Tabs w) : Calls Tryz.prog 4 #[.string s, .int .i64 a] w fun e w' => e = .returned (.bool true) ∧ Below w.heap.size w w' := by
  have HA := Lib.hid (fun W hW => awake_any W hW)
  have HT := Lib.hid hT
  by_cases hz : 2000 < s.size
  · have k1 : decide ((s.size : Int) > 2000) = true := decide_eq_true (by omega)
    clear hT
    go_enter Tryz.func4, Tryz.ntmps4
    go_wp2_with fail
    refine (HA.out _ HT.out).mono ?_
    rintro e w1 ⟨rfl, hb1⟩
    go_wp2_with fail
    go_ret
    exact ⟨rfl, hb1⟩
  · have k1 : decide ((s.size : Int) > 2000) = false := decide_eq_false (by omega)
    have HN := Lib.hid (next_any s a ⟨h0, h1⟩ w hT)
    have HR := Lib.hid (fun W => rnext_any s a ⟨h0, h1⟩ W)
    clear hT
    generalize nextL s a = x at *
    obtain ⟨⟨tk, tt, tn, ta⟩, n, c, fa⟩ := x
    simp only [firstV, Tk.val, fV] at HN HR
    have HT1 := Lib.hid (fun (W : World) => tk_new W ⟨tk, tt, tn, ta⟩ 32)
    have HF1 := Lib.hid (fun (W : World) => ft_new W c fa 26)
    go_enter Tryz.func4, Tryz.ntmps4
    go_wp2_with fail
    refine HN.out.mono ?_
    rintro e w1 ⟨rfl, hb1⟩
    have hs1 := hb1.size
    have HB1 := Lib.hid ((hb1.alloc hs1 (.cells #[.int .i64 tk, .string tt, .int .i64 tn, .int .i64 ta] 32)).alloc (by simp; omega) (.cells #[.int .i64 c, .int .i64 fa] 26))
    have HK1 := Lib.hid ((HT1.out w1).keep ((Below.refl _ _).alloc (Nat.le_refl _) (.cells #[.int .i64 c, .int .i64 fa] 26)))
    have hF := HF1.out (w1.alloc (.cells #[.int .i64 tk, .string tt, .int .i64 tn, .int .i64 ta] 32))
    simp only [World.size_alloc] at hF
    have HFF := Lib.hid hF
    clear hb1 hF
    go_wp2_with fail
    refine (HR.out _).mono ?_
    rintro e w2 ⟨rfl, hb2⟩
    have hs2 := hb2.size
    simp only [World.size_alloc] at hs2
    have HB2 := Lib.hid (bel_by hb2 (by simp; omega) HB1.out)
    have HB2a := Lib.hid ((HB2.out.alloc (by omega) (.cells #[.int .i64 tk, .string tt, .int .i64 tn, .int .i64 ta] 32)).alloc (by simp; omega) (.cells #[.int .i64 c, .int .i64 fa] 26))
    have HU1 := Lib.hid (((HK1.out.keep hb2).keep ((Below.refl _ _).alloc (Nat.le_refl _) (.cells #[.int .i64 tk, .string tt, .int .i64 tn, .int .i64 ta] 32))).keep ((Below.refl _ _).alloc (Nat.le_refl _) (.cells #[.int .i64 c, .int .i64 fa] 26)))
    have HV1 := Lib.hid (((HFF.out.keep hb2).keep ((Below.refl _ _).alloc (Nat.le_refl _) (.cells #[.int .i64 tk, .string tt, .int .i64 tn, .int .i64 ta] 32))).keep ((Below.refl _ _).alloc (Nat.le_refl _) (.cells #[.int .i64 c, .int .i64 fa] 26)))
    have HU2 := Lib.hid ((HT1.out w2).keep ((Below.refl _ _).alloc (Nat.le_refl _) (.cells #[.int .i64 c, .int .i64 fa] 26)))
    have hV2 := HF1.out (w2.alloc (.cells #[.int .i64 tk, .string tt, .int .i64 tn, .int .i64 ta] 32))
    simp only [World.size_alloc] at hV2
    have HV2 := Lib.hid hV2
    have HT2 := Lib.hid (HT.out.below HB2a.out)
    clear hb2 hV2
    go_wp2_with fail
    refine (HA.out _ HT2.out).mono ?_
    rintro e w3 ⟨rfl, hb3⟩
    have hs3 := hb3.size
    simp only [World.size_alloc] at hs3
    have HB3 := Lib.hid (bel_by hb3 (by simp; omega) HB2a.out)
    obtain ⟨a0, a1, a2, a3, af, al⟩ := HU1.out.keep hb3
    obtain ⟨b0, b1, bf, bl⟩ := HV1.out.keep hb3
    obtain ⟨c0, c1, c2, c3, cf, cl⟩ := HU2.out.keep hb3
    obtain ⟨d0, d1, df, dl⟩ := HV2.out.keep hb3
    clear hb3
    go_wp2_with fail
    go_ret
    exact ⟨by first | rfl | (simp; done), HB3.out⟩
end Go.Proofs.YtmokeegebbmdhaaGreatDoor
