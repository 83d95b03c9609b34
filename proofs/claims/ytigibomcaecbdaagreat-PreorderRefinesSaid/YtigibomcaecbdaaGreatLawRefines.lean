/- Refine returns the refined places of any ranking, or the first error: the law. -/
import Derived.Test.YtigibomcaecbdaaGreatFew
import Derived.Test.YtigibomcaecbdaaGreatSam
import Derived.Test.YtigibomcaecbdaaGreatAwk
import Derived.Test.YtigibomcaecbdaaGreatRqh
import Derived.Test.YtigibomcaecbdaaGreatRnk
import Derived.Test.YtigibomcaecbdaaGreatRfx
set_option linter.unusedSimpArgs false
set_option linter.unusedVariables false
namespace Go.Proofs.YtigibomcaecbdaaGreat
open Go.RowKit Go.Sort

set_option maxHeartbeats 4000000 in
set_option maxRecDepth 100000 in
theorem refines_law {ap a : Option Addr} {gp op pl cp b off len cap : Nat} {P : List Int} {M : List Rw} {w : World} (hP : SlI w ap gp op pl cp P) (hI : InI P) (h : SlR w a b off len cap M) :
    Calls Tryz.prog 9 #[.slice ap pl cp, .slice a len cap] w fun e w' => e = .returned (.bool true) ∧ Below w.heap.size w w' := by
  have HA := Lib.hid (fun w => awake_any w)
  have hf0 := few_any h
  have hl := h.sl.hl
  have hcap := h.sl.hcap
  have hmax := h.sl.hmax
  have hcp := hP.hcap
  have hmp := hP.hmax
  unfold maxLen at hmax hmp
  have HS := Lib.hid h
  have HPI := Lib.hid hP
  have HI := Lib.hid hI
  clear h hP hI
  cases hf : fewB (crit M) with
  | false =>
    rw [hf] at hf0
    have HF := Lib.hid hf0
    clear hf hf0
    go_enter Tryz.func9, Tryz.ntmps9
    go_wp2_with fail
    refine (HF.out).mono ?_
    rintro e w1 ⟨rfl, rfl⟩
    go_wp2_with fail
    refine (HA.out _).mono ?_
    rintro e w9 ⟨rfl, hb⟩
    have HB9 := Lib.hid (hb)
    clear hb HA
    go_wp2
    go_ret
    exact ⟨rfl, HB9.out⟩
  | true =>
    rw [hf] at hf0
    have HF := Lib.hid hf0
    have HCK := Lib.hid (fun W (hB : Below w.heap.size w W) => rcheck_any (HS.out.keep hB))
    clear hf hf0
    by_cases hp : 20 < pl
    · have k0 : decide (20 < (pl : Int)) = true := decide_eq_true (by omega)
      have k1 : decide ((pl : Int) > 20) = true := decide_eq_true (by omega)
      go_enter Tryz.func9, Tryz.ntmps9
      go_wp2_with fail
      refine (HF.out).mono ?_
      rintro e w1 ⟨rfl, rfl⟩
      go_wp2_with fail
      refine (HA.out _).mono ?_
      rintro e w9 ⟨rfl, hb⟩
      have HB9 := Lib.hid (hb)
      clear hb HA
      go_wp2
      go_ret
      exact ⟨rfl, HB9.out⟩
    · have p0 : decide (20 < (pl : Int)) = false := decide_eq_false (by omega)
      have p1 : decide ((pl : Int) > 20) = false := decide_eq_false (by omega)
      by_cases hc : chkL (crit M) = 0
      · rw [hc] at HCK
        by_cases hq : pl = len
        · subst hq
          have q0 : ((pl : Int) != (pl : Int)) = false := by simp
          have q1 : ((pl : Int) == (pl : Int)) = true := by simp
          have HRK := Lib.hid (fun W (hB : Below w.heap.size w W) => rnkr_any (HPI.out.keep hB) HI.out (by omega))
          cases hr : rnkB P with
          | true =>
            rw [hr] at HRK
            have HP := Lib.hid (refine_ok HPI.out HS.out hc hr)
            have HRP := Lib.hid (fun W (hB : Below w.heap.size w W) => rrefine_any (HPI.out.keep hB) (HS.out.keep hB) (by omega))
            rw [plcD_ref] at HP
            obtain ⟨Q, hQ⟩ : ∃ Q, plcD (refD P (crit M)) pl = Q := ⟨_, rfl⟩
            rw [hQ] at HP HRP
            clear hQ hc hr
            go_enter Tryz.func9, Tryz.ntmps9
            go_wp2_with fail
            refine (HF.out).mono ?_
            rintro e w1 ⟨rfl, rfl⟩
            go_wp2_with fail
            refine (HP.out).mono ?_
            rintro e w2 ⟨gp, rfl, hsp, _, hb⟩
            have HB2 := Lib.hid hb
            have HSP := Lib.hid hsp
            clear hb hsp HF HP
            go_wp2_with fail
            refine (HCK.out _ HB2.out).mono ?_
            rintro e w3 ⟨rfl, hb⟩
            have HB3 := Lib.hid (HB2.out.trans (hb.mono HB2.out.size))
            have HSP3 := Lib.hid (HSP.out.keep hb)
            clear hb HSP HB2 HCK
            go_wp2_with fail
            refine (HRK.out _ HB3.out).mono ?_
            rintro e w4 ⟨rfl, q, rfl⟩
            have HB4 := Lib.hid (bel_drewN HB3.out q)
            have HSP4 := Lib.hid (HSP3.out.drewN q)
            clear HSP3 HB3 HRK
            generalize w3.drewN q = w4 at *
            go_wp2_with fail
            refine (HA.out _).mono ?_
            rintro e w5 ⟨rfl, hb⟩
            have HB5 := Lib.hid (HB4.out.trans (hb.mono HB4.out.size))
            have HSP5 := Lib.hid (HSP4.out.keep hb)
            clear hb HSP4 HB4 HA
            go_wp2_with fail
            refine (HRP.out _ HB5.out).mono ?_
            rintro e w6 ⟨ra, rb, rc, rfl, hs, hb⟩
            have HB6 := Lib.hid (HB5.out.trans (hb.mono HB5.out.size))
            have hsm := same_any (HSP5.out.keep hb) hs
            rw [decide_eq_true rfl] at hsm
            have HSM := Lib.hid hsm
            clear hb hs hsm HSP5 HB5 HRP
            go_wp2_with fail
            refine (HSM.out).mono ?_
            rintro e w7 ⟨rfl, q, rfl⟩
            have HB7 := Lib.hid (bel_drewN HB6.out q)
            go_wp2
            go_ret
            exact ⟨rfl, HB7.out⟩
          | false =>
            rw [hr] at HRK
            have HP := Lib.hid (refine_no (c := 1) HPI.out HS.out (Or.inr (Or.inr ⟨hc, rfl, rfl, by omega, hr⟩)))
            clear hc hr
            go_enter Tryz.func9, Tryz.ntmps9
            go_wp2_with fail
            refine (HF.out).mono ?_
            rintro e w1 ⟨rfl, rfl⟩
            go_wp2_with fail
            refine (HP.out).mono ?_
            rintro e w2 ⟨rfl, hb⟩
            have HB2 := Lib.hid hb
            clear hb HF HP
            go_wp2_with fail
            refine (HCK.out _ HB2.out).mono ?_
            rintro e w3 ⟨rfl, hb⟩
            have HB3 := Lib.hid (HB2.out.trans (hb.mono HB2.out.size))
            clear hb HB2 HCK
            go_wp2_with fail
            refine (HRK.out _ HB3.out).mono ?_
            rintro e w4 ⟨rfl, q, rfl⟩
            have HB4 := Lib.hid (bel_drewN HB3.out q)
            clear HB3 HRK
            generalize w3.drewN q = w4 at *
            go_wp2_with fail
            refine (HA.out _).mono ?_
            rintro e w5 ⟨rfl, hb⟩
            have HB5 := Lib.hid (HB4.out.trans (hb.mono HB4.out.size))
            clear hb HB4 HA
            go_wp2
            go_ret
            exact ⟨rfl, HB5.out⟩
        · have HP := Lib.hid (refine_no (c := 1) HPI.out HS.out (Or.inr (Or.inl ⟨hc, rfl, hq⟩)))
          have q0 : ((pl : Int) != (len : Int)) = true := by simp only [bne_iff_ne, ne_eq]; omega
          clear hc
          go_enter Tryz.func9, Tryz.ntmps9
          go_wp2_with fail
          refine (HF.out).mono ?_
          rintro e w1 ⟨rfl, rfl⟩
          go_wp2_with fail
          refine (HP.out).mono ?_
          rintro e w2 ⟨rfl, hb⟩
          have HB2 := Lib.hid hb
          clear hb HF HP
          go_wp2_with fail
          refine (HCK.out _ HB2.out).mono ?_
          rintro e w3 ⟨rfl, hb⟩
          have HB3 := Lib.hid (HB2.out.trans (hb.mono HB2.out.size))
          clear hb HB2 HCK
          go_wp2_with fail
          refine (HA.out _).mono ?_
          rintro e w5 ⟨rfl, hb⟩
          have HB5 := Lib.hid (HB3.out.trans (hb.mono HB3.out.size))
          clear hb HB3 HA
          go_wp2
          go_ret
          exact ⟨rfl, HB5.out⟩
      · have HP := Lib.hid (refine_no HPI.out HS.out (Or.inl ⟨rfl, hc⟩))
        obtain ⟨c, hcc⟩ : ∃ c, chkL (crit M) = c := ⟨_, rfl⟩
        rw [hcc] at HP HCK hc
        have k0 : (c != 0) = true := by simpa using hc
        have k1 : (c == c) = true := by simp
        have k2 : (c != c) = false := by simp
        clear hcc hc
        go_enter Tryz.func9, Tryz.ntmps9
        go_wp2_with fail
        refine (HF.out).mono ?_
        rintro e w1 ⟨rfl, rfl⟩
        go_wp2_with fail
        refine (HP.out).mono ?_
        rintro e w2 ⟨rfl, hb⟩
        have HB2 := Lib.hid hb
        clear hb HF HP
        go_wp2_with fail
        refine (HCK.out _ HB2.out).mono ?_
        rintro e w3 ⟨rfl, hb⟩
        have HB3 := Lib.hid (HB2.out.trans (hb.mono HB2.out.size))
        clear hb HB2 HCK
        go_wp2_with fail
        refine (HA.out _).mono ?_
        rintro e w5 ⟨rfl, hb⟩
        have HB5 := Lib.hid (HB3.out.trans (hb.mono HB3.out.size))
        clear hb HB3 HA
        go_wp2
        go_ret
        exact ⟨rfl, HB5.out⟩
end Go.Proofs.YtigibomcaecbdaaGreat
