/- The law of NotationMerges. -/
import Derived.Test.YtccglojnjakbfaaAwk
import Derived.Test.YtccglojnjakbfaaRmg
import Derived.Test.YtccglojnjakbfaaMgQ
import Derived.Test.YtccglojnjakbfaaSme
import Derived.Test.YtccglojnjakbfaaRhx
set_option linter.unusedSimpArgs false
set_option linter.unusedVariables false
namespace Go.Proofs.Ytccglojnjakbfaa
open Go.RowKit

theorem small_fitM {L : List It} (h : smB L = true) : fitC L := fun k hk => by have := (smB_fit h).2 k hk; omega
def totL (M : List Lx) (k : Nat) : Nat := ((M.take k).map (fun r => r.L.length)).sum
theorem totL_step {M : List Lx} {k : Nat} (h : k < M.length) : totL M (k + 1) = totL M k + (M[k]'h).L.length := by
  unfold totL
  rw [List.take_succ_eq_append_getElem h, List.map_append, List.sum_append]
  simp
set_option maxHeartbeats 4000000 in
set_option maxRecDepth 100000 in
theorem law_merges (w : World) {a : Option Addr} {b off len cap : Nat} {M : List Lx} (hM : SlM w a b off len cap M) {a2 : Option Addr} {b2 o2 l2 c2 : Nat} {L : List It} (hL : SlX w a2 b2 o2 l2 c2 L) :
    Calls Try.prog 8 #[.slice a len cap, .slice a2 l2 c2] w fun e w' => e = .returned (.bool true) ∧ Below w.heap.size w w' := by
  have HA := Lib.hid (awake_any w)
  have HSM := Lib.hid hM
  have HSL := Lib.hid hL
  have hl0 := hM.s.hl
  have hl2 := hL.hl
  have HM := Lib.hid (fun W (hW : SlX W a2 b2 o2 l2 c2 L) => small_any hW)
  clear hM hL
  by_cases h60 : len > 60
  · have q1 : decide ((len : Int) > 60) = true := decide_eq_true (by omega)
    go_enter Try.func8, Try.ntmps8
    go_wp2_with fail
    refine HA.out.mono ?_
    rintro e w1 ⟨rfl, hb1⟩
    go_wp2_with fail
    go_ret
    exact ⟨rfl, hb1⟩
  · have q1 : decide ((len : Int) > 60) = false := decide_eq_false (by omega)
    cases hsm : smB L with
    | false =>
      rw [hsm] at HM
      clear hsm
      go_enter Try.func8, Try.ntmps8
      go_wp2_with fail
      refine HA.out.mono ?_
      rintro e w1 ⟨rfl, hb1⟩
      have HM1 := Lib.hid (HM.out _ (HSL.out.keep hb1))
      have HB1 := Lib.hid hb1
      clear hb1
      go_wp2_with fail
      refine HM1.out.mono ?_
      rintro e w1' ⟨rfl, rfl⟩
      go_wp2_with fail
      go_ret
      exact ⟨rfl, HB1.out⟩
    | true =>
      have hfit := small_fitM hsm
      have hl60 := (smB_fit hsm).1
      have HSP := Lib.hid (fun W (hW : SlX W a2 b2 o2 l2 c2 L) => split_any hW (by omega))
      have HCK := Lib.hid (fun W (hW : SlX W a2 b2 o2 l2 c2 L) => check_any hW hfit)
      have HFT := Lib.hid hfit
      rw [hsm] at HM
      unfold SptPost at HSP
      clear hsm hfit
      go_enter Try.func8, Try.ntmps8
      go_wp2_with fail
      refine HA.out.mono ?_
      rintro e w1 ⟨rfl, hb1⟩
      have HM1 := Lib.hid (HM.out _ (HSL.out.keep hb1))
      have HSM1 := Lib.hid (HSM.out.keep hb1)
      have HSL1 := Lib.hid (HSL.out.keep hb1)
      have HB1 := Lib.hid hb1
      clear hb1 HM HA HSM HSL
      go_wp2_with fail
      refine HM1.out.mono ?_
      rintro e w1' ⟨rfl, rfl⟩
      go_wp2_with fail
      go_loop [5, 6] (fun s5 s6 => ∃ k t : Nat, k ≤ len ∧ s6 = .int .i64 (k : Int) ∧ s5 = .int .i64 (t : Int) ∧ t ≤ 60 * k ∧ Hid (t = totL M k) ∧ Hid (∀ (i : Nat) (h : i < M.length), i < k → smB (M[i]'h).L = true)) (fun _ s6 => (len - (intOf s6)).toNat)
      case atStart => exact ⟨0, 0, Nat.zero_le _, rfl, rfl, Nat.zero_le _, Lib.hid (by simp [totL]), Lib.hid (fun i _ h => absurd h (Nat.not_lt_zero i))⟩
      case round =>
        obtain ⟨k, t, hk, rfl, rfl, ht60, HT, HK⟩ := hrel
        by_cases hlt : k < len
        · have hl : (k : Int) < (len : Int) := by omega
          have hkL : k < M.length := by omega
          have hts := totL_step hkL
          have S := HSM1.out.s
          obtain rfl := S.ha (by omega)
          have sb := S.hb (by omega)
          have m0 := S.cell k hkL
          have hok := HSM1.out.each _ (List.getElem_mem hkL)
          obtain ⟨r, hr⟩ : ∃ r, M[k]'hkL = r := ⟨_, rfl⟩
          have HRE := Lib.hid hr
          rw [hr] at m0 hok hts
          obtain ⟨ra, rb, ro, rc, rL⟩ := r
          unfold Lx.val at m0
          simp only at m0 hts
          have HTS := Lib.hid hts
          have HMM := Lib.hid (small_any (show SlX w1 ra rb ro rL.length rc rL from hok))
          clear S hok hr hts
          cases hsr : smB rL with
          | false =>
            rw [hsr] at HMM
            clear hsr
            go_wp2_with fail
            refine HMM.out.mono ?_
            rintro e w1' ⟨rfl, rfl⟩
            go_wp2_with fail
            go_ret
            exact ⟨rfl, HB1.out⟩
          | true =>
            have hr60 := (smB_fit hsr).1
            have HSR := Lib.hid hsr
            rw [hsr] at HMM
            clear hsr
            go_wp2_with fail
            refine HMM.out.mono ?_
            rintro e w1' ⟨rfl, rfl⟩
            go_wp2_with fail
            go_round
            case rel =>
              refine ⟨k + 1, t + rL.length, by omega, by go_num, by go_num, by omega, Lib.hid (by rw [HTS.out, HT.out]), Lib.hid (fun i h hi => ?_)⟩
              by_cases e : i = k
              · subst e; rw [HRE.out]; exact HSR.out
              · exact HK.out i h (by omega)
            case measure => simp [intOf]; omega
        · obtain rfl : k = len := by omega
          have hl : ¬ (k : Int) < (k : Int) := by omega
          by_cases ht : t > 60
          · have q2 : decide ((t : Int) > 60) = true := decide_eq_true (by omega)
            go_wp2_with fail
            go_ret
            exact ⟨rfl, HB1.out⟩
          · have q2 : decide ((t : Int) > 60) = false := decide_eq_false (by omega)
            have hfM : ∀ r ∈ M, fitC r.L ∧ r.L.length ≤ 1000000 := by
              intro r hr
              obtain ⟨i, hi, rfl⟩ := List.mem_iff_getElem.1 hr
              have := HK.out i hi (by omega)
              exact ⟨small_fitM this, by have := (smB_fit this).1; omega⟩
            have htot : (mgL M).length ≤ 1000000 := by
              rw [mgL_sum]
              have := HT.out
              unfold totL at this
              rw [List.take_of_length_le (by omega)] at this
              omega
            have HMG := Lib.hid (merge_any HSM1.out (fun r hr => (hfM r hr).1) (fun r hr => (hfM r hr).2))
            have HRM := Lib.hid (fun W (hW : SlM W a b off k cap M) => rmerge_any hW (fun r hr => (hfM r hr).1) htot)
            have k9 : (mgE M == mgE M) = true := by simp
            have k8 : (mgE M != mgE M) = false := by simp
            unfold MgPost at HMG HRM
            generalize mgE M = E at *
            generalize mgR M = R at *
            clear hfM htot
            go_wp2_with fail
            refine HMG.out.mono ?_
            rintro e w2 ⟨v2, rfl, ho2, hb2⟩
            obtain ⟨a3, b3, c3, rfl, sl3, _⟩ := slx_own ho2
            have HSM2 := Lib.hid (HSM1.out.keep hb2)
            have HSL2 := Lib.hid (HSL1.out.keep hb2)
            have HRM2 := Lib.hid (HRM.out _ HSM2.out)
            have HX2 := Lib.hid sl3
            have HB2 := Lib.hid (HB1.out.trans (hb2.mono HB1.out.size))
            clear ho2 sl3 hb2 HMG HRM
            go_wp2_with fail
            refine HRM2.out.mono ?_
            rintro e w3 ⟨v3, rfl, ho3, hb3⟩
            obtain ⟨a4, b4, c4, rfl, sl4, _⟩ := slx_own ho3
            have HSL3 := Lib.hid (HSL2.out.keep hb3)
            have HSS := Lib.hid (same_any (HX2.out.keep hb3) sl4)
            rw [decide_eq_true rfl] at HSS
            have HB3 := Lib.hid (HB2.out.trans (hb3.mono HB2.out.size))
            clear ho3 sl4 hb3 HRM2 HX2 HSL2 HSM2
            go_wp2_with fail
            refine HSS.out.mono ?_
            rintro e w4 ⟨rfl, hb4⟩
            have HSL4 := Lib.hid (HSL3.out.keep hb4)
            have HSP4 := Lib.hid (HSP.out _ HSL4.out)
            have HB4 := Lib.hid (HB3.out.trans (hb4.mono HB3.out.size))
            clear hb4 HSS HSL3 HSP
            go_wp2_with fail
            refine HSP4.out.mono ?_
            rintro e w5 ⟨v5, N, rfl, hom, hNE, hb5⟩
            obtain ⟨a6, b6, c6, rfl, slm⟩ := owm_slm hom
            have hsf := split_fit HFT.out hNE
            have HM5 := Lib.hid (merge_any slm (fun r hr => (hsf r hr).1) (fun r hr => by have := (hsf r hr).2; omega))
            have HME := Lib.hid (fun (h0 : chkL L = 0) => split_merge h0 hNE)
            have HSL5 := Lib.hid (HSL4.out.keep hb5)
            have HB5 := Lib.hid (HB4.out.trans (hb5.mono HB4.out.size))
            unfold MgPost at HM5
            generalize mgE N = E2 at *
            generalize mgR N = R2 at *
            clear hom slm hsf hNE hb5 HSP4 HSL4
            go_wp2_with fail
            refine HM5.out.mono ?_
            rintro e w6 ⟨v6, rfl, ho6, hb6⟩
            obtain ⟨a7, b7, c7, rfl, sl7, _⟩ := slx_own ho6
            have HSL6 := Lib.hid (HSL5.out.keep hb6)
            have HCK6 := Lib.hid (HCK.out _ HSL6.out)
            have HX6 := Lib.hid sl7
            have HB6 := Lib.hid (HB5.out.trans (hb6.mono HB5.out.size))
            clear ho6 sl7 hb6 HM5 HSL5 HCK
            by_cases h0 : chkL L = 0
            · obtain ⟨rfl, rfl⟩ := HME.out h0
              rw [h0] at HCK6
              clear HME h0
              go_wp2_with fail
              refine HCK6.out.mono ?_
              rintro e w7 ⟨rfl, hb7⟩
              have HSS7 := Lib.hid (same_any (HX6.out.keep hb7) (HSL6.out.keep hb7))
              rw [decide_eq_true rfl, hl2] at HSS7
              have HB7 := Lib.hid (HB6.out.trans (hb7.mono HB6.out.size))
              clear hb7 HX6 HSL6 HCK6
              go_wp2_with fail
              refine HSS7.out.mono ?_
              rintro e w8 ⟨rfl, hb8⟩
              have HB8 := Lib.hid (HB7.out.trans (hb8.mono HB7.out.size))
              go_wp2_with fail
              go_ret
              exact ⟨by first | rfl | simp, HB8.out⟩
            · have k0 : (chkL L == 0) = false := by simpa using h0
              have k1 : (chkL L != 0) = true := by simpa using h0
              clear HME h0
              go_wp2_with fail
              refine HCK6.out.mono ?_
              rintro e w7 ⟨rfl, hb7⟩
              have HB7 := Lib.hid (HB6.out.trans (hb7.mono HB6.out.size))
              clear hb7 HX6 HSL6 HCK6
              go_wp2_with fail
              go_ret
              exact ⟨by first | rfl | simp, HB7.out⟩
end Go.Proofs.Ytccglojnjakbfaa
