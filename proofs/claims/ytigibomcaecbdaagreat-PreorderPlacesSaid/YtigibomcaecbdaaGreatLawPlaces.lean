/- The place of a row is one more than the number of rows that rank ahead of it; matrices that are not valid are refused: the law. -/
import Derived.Test.YtigibomcaecbdaaGreatFew
import Derived.Test.YtigibomcaecbdaaGreatSam
import Derived.Test.YtigibomcaecbdaaGreatAwk
import Derived.Test.YtigibomcaecbdaaGreatRqh
import Derived.Test.YtigibomcaecbdaaGreatRnk
set_option linter.unusedSimpArgs false
set_option linter.unusedVariables false
namespace Go.Proofs.YtigibomcaecbdaaGreat
open Go.RowKit Go.Sort

theorem rnk_rows {C : List (List (Int × Int))} {m : Nat} (hl : ∀ r ∈ C, r.length = m) : rnkB (plcL ahC C) = true := by
  have hn := plcL_len ahC C
  refine rnk_yes (fun j hj => ?_)
  rw [hn] at hj
  rw [plc_rows hj]
  congr 2
  unfold ltN
  rw [plc_ahead, List.countP_map]
  unfold nAhead
  apply List.countP_congr
  intro k hk
  have hk' : k < C.length := by simpa using hk
  simp only [Function.comp, decide_eq_true_eq]
  have T := tot_ix hl
  constructor
  · intro h
    have := ahead_lt hl hj hk' h
    unfold nAhead at this
    omega
  · intro h
    have h' : nAhead C k < nAhead C j := by unfold nAhead; omega
    rcases Int.lt_trichotomy (ahC (C.getD k []) (C.getD j [])) 0 with h1 | h1 | h1
    · exact h1
    · have := ahead_eq hl hj hk' h1; omega
    · have ht := T.turn ⟨j, hj⟩ ⟨k, hk'⟩
      simp only at ht
      have := ahead_lt hl hk' hj (by omega)
      omega
set_option maxHeartbeats 4000000 in
set_option maxRecDepth 100000 in
theorem places_law {a : Option Addr} {b off len cap : Nat} {M : List Rw} {w : World} (h : SlR w a b off len cap M) :
    Calls Tryz.prog 4 #[.slice a len cap] w fun e w' => e = .returned (.bool true) ∧ Below w.heap.size w w' := by
  have HA := Lib.hid (fun w => awake_any w)
  have hf0 := few_any h
  have hl := h.sl.hl
  have hcl : (crit M).length = len := by unfold crit; rw [List.length_map, hl]
  have hcap := h.sl.hcap
  have hmax := h.sl.hmax
  unfold maxLen at hmax
  have HS := Lib.hid h
  have HCL := Lib.hid hcl
  clear h
  cases hf : fewB (crit M) with
  | false =>
    rw [hf] at hf0
    have HF := Lib.hid hf0
    clear hf hf0 hcl
    go_enter Tryz.func4, Tryz.ntmps4
    go_wp2_with fail
    refine (HF.out).mono ?_
    rintro e w1 ⟨rfl, rfl⟩
    go_wp2_with fail
    refine (HA.out _).mono ?_
    rintro e w9 ⟨rfl, hb⟩
    have HB9 := Lib.hid (hb)
    clear hb HA
    go_wp2
    go_ret
    exact ⟨rfl, HB9.out⟩
  | true =>
    rw [hf] at hf0
    have HF := Lib.hid hf0
    have h12 : len ≤ 12 := by have := (fewB_ok hf).1; omega
    have HCK := Lib.hid (fun W (hB : Below w.heap.size w W) => rcheck_any (HS.out.keep hB))
    clear hf hf0 hcl
    by_cases hc : chkL (crit M) = 0
    · rw [hc] at HCK
      have HP := Lib.hid (places_ok HS.out hc)
      have HRP := Lib.hid (fun W (hB : Below w.heap.size w W) => rplaces_any (HS.out.keep hB) (by omega))
      have HEQ := Lib.hid (show plcD (aheadD (crit M)) len = plcL ahC (crit M) by rw [plcD_ahead, HCL.out])
      have HRK := Lib.hid (rnk_rows (chk_ok hc).2.2.1)
      rw [HEQ.out] at HRP
      generalize plcL ahC (crit M) = P at *
      clear hc HEQ
      go_enter Tryz.func4, Tryz.ntmps4
      go_wp2_with fail
      refine (HF.out).mono ?_
      rintro e w1 ⟨rfl, rfl⟩
      go_wp2_with fail
      refine (HP.out).mono ?_
      rintro e w2 ⟨gp, rfl, hsp, _, hb⟩
      have HB2 := Lib.hid hb
      have HSP := Lib.hid hsp
      clear hb hsp HF HP
      go_wp2_with fail
      refine (HCK.out _ HB2.out).mono ?_
      rintro e w3 ⟨rfl, hb⟩
      have HB3 := Lib.hid (HB2.out.trans (hb.mono HB2.out.size))
      have HSP3 := Lib.hid (HSP.out.keep hb)
      clear hb HSP HB2 HCK
      go_wp2_with fail
      refine (HA.out _).mono ?_
      rintro e w4 ⟨rfl, hb⟩
      have HB4 := Lib.hid (HB3.out.trans (hb.mono HB3.out.size))
      have HSP4 := Lib.hid (HSP3.out.keep hb)
      clear hb HSP3 HB3 HA
      go_wp2_with fail
      refine (HRP.out _ HB4.out).mono ?_
      rintro e w5 ⟨ra, rb, rc, rfl, hs, hb⟩
      have HB5 := Lib.hid (HB4.out.trans (hb.mono HB4.out.size))
      have HSP5 := Lib.hid (HSP4.out.keep hb)
      have hsm := same_any HSP5.out hs
      rw [decide_eq_true rfl] at hsm
      have HSM := Lib.hid hsm
      clear hb hs hsm HSP4 HB4 HRP
      go_wp2_with fail
      refine (HSM.out).mono ?_
      rintro e w6 ⟨rfl, q, rfl⟩
      have HB6 := Lib.hid (bel_drewN HB5.out q)
      have hrk := ranking_any (HSP5.out.drewN q) (by omega)
      rw [HRK.out] at hrk
      have HRA := Lib.hid hrk
      clear hrk HSM HSP5 HB5
      generalize w5.drewN q = w6 at *
      go_wp2_with fail
      refine (HRA.out).mono ?_
      rintro e w7 ⟨rfl, hb⟩
      have HB7 := Lib.hid (HB6.out.trans (hb.mono HB6.out.size))
      clear hb HRA HB6
      go_wp2
      go_ret
      exact ⟨rfl, HB7.out⟩
    · have HP := Lib.hid (places_no HS.out rfl hc)
      obtain ⟨c, hcc⟩ : ∃ c, chkL (crit M) = c := ⟨_, rfl⟩
      rw [hcc] at HP HCK hc
      have k0 : (c != 0) = true := by simpa using hc
      have k1 : (c == c) = true := by simp
      have k2 : (c != c) = false := by simp
      clear hcc hc
      go_enter Tryz.func4, Tryz.ntmps4
      go_wp2_with fail
      refine (HF.out).mono ?_
      rintro e w1 ⟨rfl, rfl⟩
      go_wp2_with fail
      refine (HP.out).mono ?_
      rintro e w2 ⟨rfl, hb⟩
      have HB2 := Lib.hid hb
      clear hb HF HP
      go_wp2_with fail
      refine (HCK.out _ HB2.out).mono ?_
      rintro e w3 ⟨rfl, hb⟩
      have HB3 := Lib.hid (HB2.out.trans (hb.mono HB2.out.size))
      clear hb HB2 HCK
      go_wp2_with fail
      refine (HA.out _).mono ?_
      rintro e w4 ⟨rfl, hb⟩
      have HB4 := Lib.hid (HB3.out.trans (hb.mono HB3.out.size))
      clear hb HB3 HA
      go_wp2
      go_ret
      exact ⟨rfl, HB4.out⟩
end Go.Proofs.YtigibomcaecbdaaGreat
