/- The law of NotationPrints. -/
import Derived.Test.YtccglojnjakbfaaAwk
import Derived.Test.YtccglojnjakbfaaInvP
import Derived.Test.YtccglojnjakbfaaSme
import Derived.Test.YtccglojnjakbfaaRhx
set_option linter.unusedSimpArgs false
set_option linter.unusedVariables false
namespace Go.Proofs.Ytccglojnjakbfaa
open Go.RowKit

theorem small_fitP {L : List It} (h : smB L = true) : fitC L := fun k hk => by have := (smB_fit h).2 k hk; omega
set_option maxHeartbeats 4000000 in
set_option maxRecDepth 100000 in
theorem law_prints (w : World) {a : Option Addr} {b off len cap : Nat} {L : List It} (h : SlX w a b off len cap L) :
    Calls Try.prog 5 #[.slice a len cap] w fun e w' => e = .returned (.bool true) ∧ Below w.heap.size w w' := by
  have HA := Lib.hid (awake_any w)
  have HS := Lib.hid h
  have HM := Lib.hid (fun W (hW : SlX W a b off len cap L) => small_any hW)
  clear h
  cases hsm : smB L with
  | false =>
    rw [hsm] at HM
    clear hsm
    go_enter Try.func5, Try.ntmps5
    go_wp2_with fail
    refine HA.out.mono ?_
    rintro e w1 ⟨rfl, hb1⟩
    have HM1 := Lib.hid (HM.out _ (HS.out.keep hb1))
    have HB1 := Lib.hid hb1
    clear hb1
    go_wp2_with fail
    refine HM1.out.mono ?_
    rintro e w1' ⟨rfl, rfl⟩
    go_wp2_with fail
    go_ret
    exact ⟨rfl, HB1.out⟩
  | true =>
    have hfit := small_fitP hsm
    have HK := Lib.hid (fun W (hW : SlX W a b off len cap L) => check_any hW hfit)
    have HP := Lib.hid (fun W (hW : SlX W a b off len cap L) => print_any hW hfit)
    unfold PrtPost at HP
    rw [hsm] at HM
    clear hsm hfit
    by_cases h0 : chkL L = 0
    · have HQ := Lib.hid (fun W => parse_any (bs (prtS L)) (by rw [bs_size]; have := prt_len h0; omega) W)
      rw [bs_data, par_prt h0] at HQ
      unfold ParPost fV at HQ
      simp only at HQ
      rw [h0] at HP
      rw [if_pos rfl] at HP
      clear HK h0
      generalize bs (prtS L) = T at *
      go_enter Try.func5, Try.ntmps5
      go_wp2_with fail
      refine HA.out.mono ?_
      rintro e w1 ⟨rfl, hb1⟩
      have HS1 := Lib.hid (HS.out.keep hb1)
      have HM1 := Lib.hid (HM.out _ HS1.out)
      have HP1 := Lib.hid (HP.out _ HS1.out)
      have HB1 := Lib.hid hb1
      clear hb1 HM HP HA
      go_wp2_with fail
      refine HM1.out.mono ?_
      rintro e w1' ⟨rfl, rfl⟩
      go_wp2_with fail
      refine HP1.out.mono ?_
      rintro e w2 ⟨rfl, hb2⟩
      have HS2 := Lib.hid (HS1.out.keep hb2)
      have HB2 := Lib.hid (HB1.out.trans (hb2.mono HB1.out.size))
      clear hb2 HM1 HP1
      go_wp2_with fail
      refine (HQ.out _).mono ?_
      rintro e w3 ⟨v, rfl, ho, hb3⟩
      obtain ⟨a3, b3, c3, rfl, sl3, _⟩ := slx_own ho
      have HB3 := Lib.hid (show Below w.heap.size w (w3.alloc (.cells #[.int .i64 0, .int .i64 0] 26)) from (HB2.out.trans (hb3.mono HB2.out.size)).alloc (Nat.le_trans HB2.out.size hb3.size) _)
      have HS3 := Lib.hid (sl3.keep ((Below.refl _ _).alloc (Nat.le_refl _) (.cells #[.int .i64 0, .int .i64 0] 26)))
      have HS4 := Lib.hid ((HS2.out.keep hb3).keep ((Below.refl _ _).alloc (Nat.le_refl _) (.cells #[.int .i64 0, .int .i64 0] 26)))
      have HSM := Lib.hid (same_any HS3.out HS4.out)
      rw [decide_eq_true rfl] at HSM
      clear ho hb3 sl3 HQ HS3 HS4
      go_wp2_with fail
      refine HSM.out.mono ?_
      rintro e w4 ⟨rfl, hb4⟩
      have HB4 := Lib.hid (HB3.out.trans (hb4.mono HB3.out.size))
      go_wp2_with fail
      go_ret
      exact ⟨by first | rfl | simp, HB4.out⟩
    · rw [if_neg h0] at HP
      have k0 : (chkL L == 0) = false := by simpa using h0
      have k1 : (chkL L != 0) = true := by simpa using h0
      have k2 : (chkL L == chkL L) = true := by simp
      clear h0
      generalize chkL L = r at *
      go_enter Try.func5, Try.ntmps5
      go_wp2_with fail
      refine HA.out.mono ?_
      rintro e w1 ⟨rfl, hb1⟩
      have HS1 := Lib.hid (HS.out.keep hb1)
      have HM1 := Lib.hid (HM.out _ HS1.out)
      have HP1 := Lib.hid (HP.out _ HS1.out)
      have HB1 := Lib.hid hb1
      clear hb1 HM HP HA
      go_wp2_with fail
      refine HM1.out.mono ?_
      rintro e w1' ⟨rfl, rfl⟩
      go_wp2_with fail
      refine HP1.out.mono ?_
      rintro e w2 ⟨rfl, hb2⟩
      have HS2 := Lib.hid (HS1.out.keep hb2)
      have HK2 := Lib.hid (HK.out _ HS2.out)
      have HB2 := Lib.hid (HB1.out.trans (hb2.mono HB1.out.size))
      clear hb2 HM1 HP1 HK
      go_wp2_with fail
      refine HK2.out.mono ?_
      rintro e w3 ⟨rfl, hb3⟩
      have HB3 := Lib.hid (HB2.out.trans (hb3.mono HB2.out.size))
      go_wp2_with fail
      go_ret
      exact ⟨by first | rfl | simp, HB3.out⟩
end Go.Proofs.Ytccglojnjakbfaa
