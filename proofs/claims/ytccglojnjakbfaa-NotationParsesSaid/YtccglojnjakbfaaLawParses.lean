/- The law of NotationParses. -/
import Derived.Test.YtccglojnjakbfaaAwk
import Derived.Test.YtccglojnjakbfaaRpa
import Derived.Test.YtccglojnjakbfaaSme
set_option linter.unusedSimpArgs false
set_option linter.unusedVariables false
namespace Go.Proofs.Ytccglojnjakbfaa
open Go.RowKit

theorem parP_len (L : List UInt8) : (parP L).1.length ≤ 30 := by
  unfold parP
  split
  · exact redP_len L _ _ _ (by simp)
  · simp
set_option maxHeartbeats 4000000 in
set_option maxRecDepth 100000 in
theorem law_parses (s : ByteArray) (w : World) : Calls Try.prog 3 #[.string s] w fun e w' => e = .returned (.bool true) ∧ Below w.heap.size w w' := by
  have HA := Lib.hid (awake_any w)
  by_cases hs : s.size ≤ 1500
  · have H1 := Lib.hid (fun W => parse_any s (by omega) W)
    have H2 := Lib.hid (fun W => rparse_any s (by omega) W)
    have k1 : decide ((s.size : Int) > 1500) = false := decide_eq_false (by omega)
    unfold ParPost fV at H1 H2
    generalize parP s.data.toList = x at *
    obtain ⟨L, c, fa⟩ := x
    simp only at H1 H2
    go_enter Try.func3, Try.ntmps3
    go_wp2_with fail
    refine HA.out.mono ?_
    rintro e w1 ⟨rfl, hb1⟩
    have HB1 := Lib.hid hb1
    clear hb1
    go_wp2_with fail
    refine (H1.out _).mono ?_
    rintro e w2 ⟨v2, rfl, ho2, hb2⟩
    obtain ⟨a2, b2, c2, rfl, sl2, _⟩ := slx_own ho2
    have HB2 := Lib.hid (show Below w.heap.size w (w2.alloc (.cells #[.int .i64 c, .int .i64 fa] 26)) from (HB1.out.trans (hb2.mono HB1.out.size)).alloc (Nat.le_trans HB1.out.size hb2.size) _)
    have HF2 := Lib.hid (ft_new w2 c fa 26)
    have HS2 := Lib.hid (sl2.keep ((Below.refl _ _).alloc (Nat.le_refl _) (.cells #[.int .i64 c, .int .i64 fa] 26)))
    clear ho2 hb2 sl2 HB1
    go_wp2_with fail
    generalize (w2.alloc (.cells #[.int .i64 c, .int .i64 fa] 26)) = V2 at *
    refine (H2.out _).mono ?_
    rintro e w3 ⟨v3, rfl, ho3, hb3⟩
    obtain ⟨a3, b3, c3, rfl, sl3, _⟩ := slx_own ho3
    have HB3 := Lib.hid (show Below w.heap.size w (w3.alloc (.cells #[.int .i64 c, .int .i64 fa] 26)) from (HB2.out.trans (hb3.mono HB2.out.size)).alloc (Nat.le_trans HB2.out.size hb3.size) _)
    have HF3 := Lib.hid (ft_new w3 c fa 26)
    have HS3 := Lib.hid (sl3.keep ((Below.refl _ _).alloc (Nat.le_refl _) (.cells #[.int .i64 c, .int .i64 fa] 26)))
    have HF2' := Lib.hid ((HF2.out.keep hb3).keep ((Below.refl _ _).alloc (Nat.le_refl _) (.cells #[.int .i64 c, .int .i64 fa] 26)))
    have HS2' := Lib.hid ((HS2.out.keep hb3).keep ((Below.refl _ _).alloc (Nat.le_refl _) (.cells #[.int .i64 c, .int .i64 fa] 26)))
    clear ho3 hb3 sl3 HB2 HF2 HS2
    obtain ⟨x0, x1, xf, xl⟩ := HF2'.out
    obtain ⟨y0, y1, yf, yl⟩ := HF3.out
    have HSM := Lib.hid (same_any HS2'.out HS3.out)
    rw [decide_eq_true rfl] at HSM
    clear HS2' HS3 HF2' HF3
    go_wp2_with fail
    refine HSM.out.mono ?_
    rintro e w4 ⟨rfl, hb4⟩
    have HB4 := Lib.hid (HB3.out.trans (hb4.mono HB3.out.size))
    go_wp2_with fail
    go_ret
    exact ⟨by first | rfl | simp, HB4.out⟩
  · have k1 : decide ((s.size : Int) > 1500) = true := decide_eq_true (by omega)
    go_enter Try.func3, Try.ntmps3
    go_wp2_with fail
    refine HA.out.mono ?_
    rintro e w1 ⟨rfl, hb1⟩
    go_wp2_with fail
    go_ret
    exact ⟨rfl, hb1⟩
end Go.Proofs.Ytccglojnjakbfaa
