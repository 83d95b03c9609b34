/- The law of NotationNormalizes. -/
import Derived.Test.YtccglojnjakbfaaAwk
import Derived.Test.YtccglojnjakbfaaNrm
import Derived.Test.YtccglojnjakbfaaSme
set_option linter.unusedSimpArgs false
set_option linter.unusedVariables false
namespace Go.Proofs.Ytccglojnjakbfaa
open Go.RowKit

set_option maxHeartbeats 4000000 in
set_option maxRecDepth 100000 in
theorem law_normalizes (s : ByteArray) (w : World) : Calls Try.prog 6 #[.string s] w fun e w' => e = .returned (.bool true) ∧ Below w.heap.size w w' := by
  have HA := Lib.hid (awake_any w)
  by_cases hs : s.size ≤ 1500
  · have H1 := Lib.hid (fun W => norm_any s (by omega) W)
    have H2 := Lib.hid (fun W => parse_any s (by omega) W)
    have k1 : decide ((s.size : Int) > 1500) = false := decide_eq_false (by omega)
    have HCK := Lib.hid (par_chk s.data.toList)
    have HFA := Lib.hid (parP_fa s.data.toList)
    rw [list_size] at HCK
    unfold NrmPost fV at H1
    unfold ParPost fV at H2
    generalize parP s.data.toList = x at *
    obtain ⟨L, c, fa⟩ := x
    simp only at H1 H2 HCK HFA
    by_cases h0 : c = 0
    · subst h0
      obtain rfl : fa = 0 := HFA.out rfl
      obtain ⟨hck, hlen⟩ := HCK.out rfl
      rw [if_pos rfl] at H1
      have hTs : (bs (prtS L)).size ≤ s.size := by rw [bs_size]; exact hlen
      have H3 := Lib.hid (fun W => norm_any (bs (prtS L)) (by omega) W)
      have H4 := Lib.hid (fun W => parse_any (bs (prtS L)) (by omega) W)
      unfold NrmPost fV at H3
      unfold ParPost fV at H4
      rw [bs_data, par_prt hck] at H3 H4
      simp only at H3 H4
      simp only [if_true] at H3
      clear hck hlen HCK HFA
      generalize bs (prtS L) = T at *
      have g1 : decide ((T.size : Int) ≤ (s.size : Int)) = true := decide_eq_true (by omega)
      have g2 : (T.size : Int) ≤ (s.size : Int) := by omega
      have g3 : (T.toList == T.toList) = true := by simp
      go_enter Try.func6, Try.ntmps6
      go_wp2_with fail
      refine HA.out.mono ?_
      rintro e w1 ⟨rfl, hb1⟩
      have HB1 := Lib.hid hb1
      clear hb1 HA
      go_wp2_with fail
      refine (H1.out _).mono ?_
      rintro e w2 ⟨rfl, hb2⟩
      have HB2 := Lib.hid (show Below w.heap.size w (w2.alloc (.cells #[.int .i64 0, .int .i64 0] 26)) from (HB1.out.trans (hb2.mono HB1.out.size)).alloc (Nat.le_trans HB1.out.size hb2.size) _)
      have HA2 := Lib.hid (ft_new w2 0 0 26)
      clear hb2 HB1 H1
      go_wp2_with fail
      generalize (w2.alloc (.cells #[.int .i64 0, .int .i64 0] 26)) = V2 at *
      generalize w2.heap.size = gA at *
      refine (H2.out _).mono ?_
      rintro e w3 ⟨v3, rfl, ho3, hb3⟩
      obtain ⟨a3, b3, c3, rfl, sl3, _⟩ := slx_own ho3
      have HB3 := Lib.hid (show Below w.heap.size w (w3.alloc (.cells #[.int .i64 0, .int .i64 0] 26)) from (HB2.out.trans (hb3.mono HB2.out.size)).alloc (Nat.le_trans HB2.out.size hb3.size) _)
      have HA3 := Lib.hid ((HA2.out.keep hb3).keep ((Below.refl _ _).alloc (Nat.le_refl _) (.cells #[.int .i64 0, .int .i64 0] 26)))
      have HG3 := Lib.hid (ft_new w3 0 0 26)
      have HS3 := Lib.hid (sl3.keep ((Below.refl _ _).alloc (Nat.le_refl _) (.cells #[.int .i64 0, .int .i64 0] 26)))
      clear ho3 hb3 sl3 HB2 HA2 H2
      go_wp2_with fail
      generalize (w3.alloc (.cells #[.int .i64 0, .int .i64 0] 26)) = V3 at *
      generalize w3.heap.size = gB at *
      refine (H3.out _).mono ?_
      rintro e w4 ⟨rfl, hb4⟩
      have HB4 := Lib.hid (show Below w.heap.size w (w4.alloc (.cells #[.int .i64 0, .int .i64 0] 26)) from (HB3.out.trans (hb4.mono HB3.out.size)).alloc (Nat.le_trans HB3.out.size hb4.size) _)
      have HA4 := Lib.hid ((HA3.out.keep hb4).keep ((Below.refl _ _).alloc (Nat.le_refl _) (.cells #[.int .i64 0, .int .i64 0] 26)))
      have HH4 := Lib.hid (ft_new w4 0 0 26)
      have HS4 := Lib.hid ((HS3.out.keep hb4).keep ((Below.refl _ _).alloc (Nat.le_refl _) (.cells #[.int .i64 0, .int .i64 0] 26)))
      clear hb4 HB3 HA3 HS3 HG3 H3
      go_wp2_with fail
      generalize (w4.alloc (.cells #[.int .i64 0, .int .i64 0] 26)) = V4 at *
      generalize w4.heap.size = gC at *
      refine (H4.out _).mono ?_
      rintro e w5 ⟨v5, rfl, ho5, hb5⟩
      obtain ⟨a5, b5, c5, rfl, sl5, _⟩ := slx_own ho5
      have HB5 := Lib.hid (show Below w.heap.size w (w5.alloc (.cells #[.int .i64 0, .int .i64 0] 26)) from (HB4.out.trans (hb5.mono HB4.out.size)).alloc (Nat.le_trans HB4.out.size hb5.size) _)
      have HA5 := Lib.hid ((HA4.out.keep hb5).keep ((Below.refl _ _).alloc (Nat.le_refl _) (.cells #[.int .i64 0, .int .i64 0] 26)))
      have HH5 := Lib.hid ((HH4.out.keep hb5).keep ((Below.refl _ _).alloc (Nat.le_refl _) (.cells #[.int .i64 0, .int .i64 0] 26)))
      have HI5 := Lib.hid (ft_new w5 0 0 26)
      have HS5 := Lib.hid ((HS4.out.keep hb5).keep ((Below.refl _ _).alloc (Nat.le_refl _) (.cells #[.int .i64 0, .int .i64 0] 26)))
      have HK5 := Lib.hid (sl5.keep ((Below.refl _ _).alloc (Nat.le_refl _) (.cells #[.int .i64 0, .int .i64 0] 26)))
      clear ho5 hb5 sl5 HB4 HA4 HH4 HS4 H4
      have HSM := Lib.hid (same_any HS5.out HK5.out)
      rw [decide_eq_true rfl] at HSM
      obtain ⟨x0, x1, xf, xl⟩ := HA5.out
      obtain ⟨y0, y1, yf, yl⟩ := HH5.out
      obtain ⟨z0, z1, zf, zl⟩ := HI5.out
      clear HS5 HK5 HA5 HH5 HI5
      go_wp2_with fail
      refine HSM.out.mono ?_
      rintro e w6 ⟨rfl, hb6⟩
      have HB6 := Lib.hid (HB5.out.trans (hb6.mono HB5.out.size))
      go_wp2_with fail
      go_ret
      exact ⟨by first | rfl | simp, HB6.out⟩
    · rw [if_neg h0] at H1
      have k0 : (c == 0) = false := by simpa using h0
      have k2 : (c != 0) = true := by simpa using h0
      have k3 : (c == c) = true := by simp
      have k4 : (fa == fa) = true := by simp
      clear h0 HCK HFA
      go_enter Try.func6, Try.ntmps6
      go_wp2_with fail
      refine HA.out.mono ?_
      rintro e w1 ⟨rfl, hb1⟩
      have HB1 := Lib.hid hb1
      clear hb1 HA
      go_wp2_with fail
      refine (H1.out _).mono ?_
      rintro e w2 ⟨rfl, hb2⟩
      have HB2 := Lib.hid (show Below w.heap.size w (w2.alloc (.cells #[.int .i64 c, .int .i64 fa] 26)) from (HB1.out.trans (hb2.mono HB1.out.size)).alloc (Nat.le_trans HB1.out.size hb2.size) _)
      have HA2 := Lib.hid (ft_new w2 c fa 26)
      clear hb2 HB1 H1
      go_wp2_with fail
      generalize (w2.alloc (.cells #[.int .i64 c, .int .i64 fa] 26)) = V2 at *
      generalize w2.heap.size = gA at *
      refine (H2.out _).mono ?_
      rintro e w3 ⟨v3, rfl, ho3, hb3⟩
      have HB3 := Lib.hid (show Below w.heap.size w (w3.alloc (.cells #[.int .i64 c, .int .i64 fa] 26)) from (HB2.out.trans (hb3.mono HB2.out.size)).alloc (Nat.le_trans HB2.out.size hb3.size) _)
      have HA3 := Lib.hid ((HA2.out.keep hb3).keep ((Below.refl _ _).alloc (Nat.le_refl _) (.cells #[.int .i64 c, .int .i64 fa] 26)))
      have HG3 := Lib.hid (ft_new w3 c fa 26)
      clear ho3 hb3 HB2 HA2 H2
      obtain ⟨x0, x1, xf, xl⟩ := HA3.out
      obtain ⟨y0, y1, yf, yl⟩ := HG3.out
      go_wp2_with fail
      go_ret
      exact ⟨by first | rfl | simp, HB3.out⟩
  · have k1 : decide ((s.size : Int) > 1500) = true := decide_eq_true (by omega)
    go_enter Try.func6, Try.ntmps6
    go_wp2_with fail
    refine HA.out.mono ?_
    rintro e w1 ⟨rfl, hb1⟩
    go_wp2_with fail
    go_ret
    exact ⟨rfl, hb1⟩
end Go.Proofs.Ytccglojnjakbfaa
