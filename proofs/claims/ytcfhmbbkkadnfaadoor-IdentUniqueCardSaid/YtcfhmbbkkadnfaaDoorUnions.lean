/- The walk of IdentUnions. -/
import Derived.Test.YtcfhmbbkkadnfaaDoorUniP
import Derived.Test.YtcfhmbbkkadnfaaDoorSmall
import Derived.Test.YtcfhmbbkkadnfaaDoorRNatural
set_option linter.unusedSimpArgs false
set_option linter.unusedVariables false
namespace Go.Proofs.YtcfhmbbkkadnfaaDoor
open Go.RowKit

theorem hasS {a : Option Addr} {b off len cap : Nat} {L : List ByteArray} {W : World} {x : ByteArray} {r : Bool} (h : SlS W a b off len cap L) (hr : Lib.containsS L x = r) :
    Calls Tryd.prog 28 #[.slice a len cap, .string x] W fun e w' => e = .returned (.bool r) ∧ W = w' := by
  refine (has_any h x).mono ?_
  rw [hr]
  rintro e w1 ⟨rfl, rfl⟩
  exact ⟨rfl, rfl⟩
set_option maxHeartbeats 4000000 in
set_option maxRecDepth 100000 in
theorem unions_in {a a' a2 : Option Addr} {b b' b2 off off' off2 len len' len2 cap cap' cap2 : Nat} {A B C : List ByteArray} {w : World} (hA : SlS w a b off len cap A) (hB : SlS w a' b' off' len' cap' B) (hC : SlS w a2 b2 off2 len2 cap2 C)
    (nA : a = none → cap = 0) (nB : a' = none → cap' = 0) (nC : a2 = none → cap2 = 0) (sA : smallB A = true) (sB : smallB B = true) (sC : smallB C = true) :
    Calls Tryd.prog 5 #[.slice a len cap, .slice a' len' cap', .slice a2 len2 cap2] w fun e w' => e = .returned (.bool true) ∧ Below w.heap.size w w' := by
  have zA := (small_len sA).1
  have zB := (small_len sB).1
  have zC := (small_len sC).1
  have lA : len ≤ 500000 := by rw [← hA.hl]; omega
  have lB : len' ≤ 500000 := by rw [← hB.hl]; omega
  have lC : len2 ≤ 500000 := by rw [← hC.hl]; omega
  have HA := Lib.hid hA
  have HB := Lib.hid hB
  have HC := Lib.hid hC
  clear hA hB hC
  go_enter Tryd.func5, Tryd.ntmps5
  go_wp2_with fail
  refine (awake_any _).mono ?_
  rintro e w1 ⟨rfl, hb⟩
  have HW := Lib.hid hb
  clear hb
  go_wp2_with fail
  refine (small_any (HA.out.keep HW.out)).mono ?_
  rw [sA]
  rintro e w2 ⟨rfl, rfl⟩
  go_wp2_with fail
  refine (small_any (HB.out.keep HW.out)).mono ?_
  rw [sB]
  rintro e w2 ⟨rfl, rfl⟩
  go_wp2_with fail
  refine (small_any (HC.out.keep HW.out)).mono ?_
  rw [sC]
  rintro e w2 ⟨rfl, rfl⟩
  go_wp2_with fail
  refine (union_any (HA.out.keep HW.out) (HB.out.keep HW.out) nA nB lA lB).mono ?_
  rintro e wn ⟨v, rfl, hown, hb⟩
  obtain ⟨aU, bU, cU, rfl, hsU, nU⟩ := own_any hown
  have HU := Lib.hid hsU
  have lU : (setL (A ++ B)).length ≤ 500000 := by have := set_len (A ++ B); rw [List.length_append] at this; omega
  replace HW := Lib.hid (HW.out.trans (hb.mono HW.out.size))
  clear hown hb hsU
  go_wp2_with fail
  refine (union_any (HB.out.keep HW.out) (HA.out.keep HW.out) nB nA lB lA).mono ?_
  rintro e wn ⟨v, rfl, hown, hb⟩
  obtain ⟨aV, bV, cV, rfl, hsV, nV⟩ := own_any hown
  have HV := Lib.hid hsV
  have lV : (setL (B ++ A)).length ≤ 500000 := by have := set_len (B ++ A); rw [List.length_append] at this; omega
  replace HU := Lib.hid (HU.out.keep hb)
  replace HW := Lib.hid (HW.out.trans (hb.mono HW.out.size))
  clear hown hb hsV
  go_wp2_with fail
  refine (same_any HU.out HV.out).mono ?_
  rw [decide_eq_true (set_comm A B)]
  rintro e wn ⟨rfl, n, rfl⟩
  replace HU := Lib.hid (HU.out.drewN n)
  replace HV := Lib.hid (HV.out.drewN n)
  replace HW := Lib.hid (bel_drewN HW.out n)
  generalize World.drewN _ n = wq at *
  clear HV nV lV
  go_wp2_with fail
  refine (union_any HU.out (HC.out.keep HW.out) nU nC lU lC).mono ?_
  rintro e wn ⟨v, rfl, hown, hb⟩
  obtain ⟨aP, bP, cP, rfl, hsP, nP⟩ := own_any hown
  have HP := Lib.hid hsP
  have lP : (setL (setL (A ++ B) ++ C)).length ≤ 500000 := by have h1 := set_len (A ++ B); have h2 := set_len (setL (A ++ B) ++ C); rw [List.length_append] at h1 h2; omega
  replace HU := Lib.hid (HU.out.keep hb)
  replace HW := Lib.hid (HW.out.trans (hb.mono HW.out.size))
  clear hown hb hsP
  go_wp2_with fail
  refine (union_any (HB.out.keep HW.out) (HC.out.keep HW.out) nB nC lB lC).mono ?_
  rintro e wn ⟨v, rfl, hown, hb⟩
  obtain ⟨aQ, bQ, cQ, rfl, hsQ, nQ⟩ := own_any hown
  have HQ := Lib.hid hsQ
  have lQ : (setL (B ++ C)).length ≤ 500000 := by have := set_len (B ++ C); rw [List.length_append] at this; omega
  replace HU := Lib.hid (HU.out.keep hb)
  replace HP := Lib.hid (HP.out.keep hb)
  replace HW := Lib.hid (HW.out.trans (hb.mono HW.out.size))
  clear hown hb hsQ
  go_wp2_with fail
  refine (union_any (HA.out.keep HW.out) HQ.out nA nQ lA lQ).mono ?_
  rintro e wn ⟨v, rfl, hown, hb⟩
  obtain ⟨aR, bR, cR, rfl, hsR, nR⟩ := own_any hown
  have HR := Lib.hid hsR
  have lR : (setL (A ++ setL (B ++ C))).length ≤ 500000 := by have h1 := set_len (B ++ C); have h2 := set_len (A ++ setL (B ++ C)); rw [List.length_append] at h1 h2; omega
  replace HU := Lib.hid (HU.out.keep hb)
  replace HP := Lib.hid (HP.out.keep hb)
  replace HQ := Lib.hid (HQ.out.keep hb)
  replace HW := Lib.hid (HW.out.trans (hb.mono HW.out.size))
  clear hown hb hsR
  go_wp2_with fail
  refine (same_any HP.out HR.out).mono ?_
  rw [decide_eq_true (set_assoc A B C)]
  rintro e wn ⟨rfl, n, rfl⟩
  replace HU := Lib.hid (HU.out.drewN n)
  replace HP := Lib.hid (HP.out.drewN n)
  replace HQ := Lib.hid (HQ.out.drewN n)
  replace HR := Lib.hid (HR.out.drewN n)
  replace HW := Lib.hid (bel_drewN HW.out n)
  generalize World.drewN _ n = wq at *
  clear HP nP lP
  clear HQ nQ lQ
  clear HR nR lR
  go_wp2_with fail
  refine (union_any HU.out HU.out nU nU lU lU).mono ?_
  rintro e wn ⟨v, rfl, hown, hb⟩
  obtain ⟨aS, bS, cS, rfl, hsS, nS⟩ := own_any hown
  have HS := Lib.hid hsS
  have lS : (setL (setL (A ++ B) ++ setL (A ++ B))).length ≤ 500000 := by have h1 := set_len (A ++ B); have h2 := set_len (setL (A ++ B) ++ setL (A ++ B)); rw [List.length_append] at h1 h2; omega
  replace HU := Lib.hid (HU.out.keep hb)
  replace HW := Lib.hid (HW.out.trans (hb.mono HW.out.size))
  clear hown hb hsS
  go_wp2_with fail
  refine (same_any HS.out HU.out).mono ?_
  rw [decide_eq_true (set_self (set_srt (A ++ B)))]
  rintro e wn ⟨rfl, n, rfl⟩
  replace HU := Lib.hid (HU.out.drewN n)
  replace HS := Lib.hid (HS.out.drewN n)
  replace HW := Lib.hid (bel_drewN HW.out n)
  generalize World.drewN _ n = wq at *
  clear HS nS lS
  go_wp2_with fail
  refine (sorted_any HU.out).mono ?_
  rw [set_srt (A ++ B)]
  rintro e wn ⟨rfl, n, rfl⟩
  replace HU := Lib.hid (HU.out.drewN n)
  replace HW := Lib.hid (bel_drewN HW.out n)
  generalize World.drewN _ n = wq at *
  go_wp2_with fail
  refine (minus_any (HA.out.keep HW.out) (HB.out.keep HW.out) nA nB lA lB).mono ?_
  rw [show ((setL A).filter fun x => !Lib.containsS (setL B) x) = minL A B from rfl]
  rintro e wn ⟨v, rfl, hown, hb⟩
  obtain ⟨aD, bD, cD, rfl, hsD, nD⟩ := own_any hown
  have HD := Lib.hid hsD
  have lD : (minL A B).length ≤ 500000 := by have h1 := set_len A; have h2 : (minL A B).length ≤ (setL A).length := List.length_filter_le _ _; omega
  replace HU := Lib.hid (HU.out.keep hb)
  replace HW := Lib.hid (HW.out.trans (hb.mono HW.out.size))
  clear hown hb hsD
  go_wp2_with fail
  go_loopw [9] (fun s9 wr => ∃ (k m : Nat), k ≤ len ∧ s9 = .int .i64 (k : Int) ∧ wn.drewN m = wr) (fun s9 _ => (len - (intOf s9)).toNat)
  case atStart => exact ⟨0, 0, Nat.zero_le _, rfl, by simp [World.drewN_zero]⟩
  case round =>
    obtain ⟨k, m, hk, rfl, rfl⟩ := hrel
    replace HD := Lib.hid (HD.out.drewN m)
    replace HU := Lib.hid (HU.out.drewN m)
    replace HW := Lib.hid (bel_drewN HW.out m)
    obtain ⟨wi, hwi⟩ : ∃ wi, wn.drewN m = wi := ⟨_, rfl⟩
    rw [hwi] at HD HU HW ⊢
    have HWI := Lib.hid hwi
    clear hwi
    by_cases hlt : k < len
    · have l1 : (k : Int) < (len : Int) := by omega
      obtain rfl := HA.out.ha (by omega)
      have hkA : k < A.length := by rw [HA.out.hl]; exact hlt
      have cA := (HA.out.keep HW.out).cell k hkA
      have e1 := has_min B (List.getElem_mem hkA)
      have e2 := has_union B (List.getElem_mem hkA)
      obtain ⟨x, hx⟩ : ∃ x, A[k]'hkA = x := ⟨_, rfl⟩
      rw [hx] at cA e1 e2
      have H3 := Lib.hid (fun n => hasS (HU.out.drewN n) e2)
      cases hc : Lib.containsS B x with
      | true =>
        rw [hc, Bool.not_true] at e1
        have H1 := Lib.hid (fun n => hasS (HD.out.drewN n) e1)
        have H2 := Lib.hid (fun n => hasS ((HB.out.keep HW.out).drewN n) hc)
        clear e1 e2 hc hx
        go_wp2_with fail
        go_quiet ((first | (go_at_call 28; with_reducible exact quietS (H1.out _)) | (go_at_call 28; with_reducible exact quietS (H2.out _)) | (go_at_call 28; with_reducible exact quietS (H3.out _))))
        go_wp2_with fail
        go_roundw
        case rel => exact ⟨k + 1, m + nq, by omega, by go_num, by rw [← HWI.out, World.drewN_drewN]⟩
        case measure => simp [intOf]; omega
      | false =>
        rw [hc, Bool.not_false] at e1
        have H1 := Lib.hid (fun n => hasS (HD.out.drewN n) e1)
        have H2 := Lib.hid (fun n => hasS ((HB.out.keep HW.out).drewN n) hc)
        clear e1 e2 hc hx
        go_wp2_with fail
        go_quiet ((first | (go_at_call 28; with_reducible exact quietS (H1.out _)) | (go_at_call 28; with_reducible exact quietS (H2.out _)) | (go_at_call 28; with_reducible exact quietS (H3.out _))))
        go_wp2_with fail
        go_roundw
        case rel => exact ⟨k + 1, m + nq, by omega, by go_num, by rw [← HWI.out, World.drewN_drewN]⟩
        case measure => simp [intOf]; omega
    · have l1 : ¬ (k : Int) < (len : Int) := by omega
      clear HWI
      go_wp2_with fail
      refine (subset_any (HA.out.keep HW.out) HU.out nA nU lA lU).mono ?_
      rw [sub_union A B]
      rintro e wn ⟨rfl, hb⟩
      replace HU := Lib.hid (HU.out.keep hb)
      replace HD := Lib.hid (HD.out.keep hb)
      replace HW := Lib.hid (HW.out.trans (hb.mono HW.out.size))
      clear hb
      go_wp2_with fail
      refine (subset_any HD.out (HA.out.keep HW.out) nD nA lD lA).mono ?_
      rw [sub_min A B]
      rintro e wn ⟨rfl, hb⟩
      replace HU := Lib.hid (HU.out.keep hb)
      replace HD := Lib.hid (HD.out.keep hb)
      replace HW := Lib.hid (HW.out.trans (hb.mono HW.out.size))
      clear hb
      go_wp2_with fail
      obtain ⟨r, hr⟩ : ∃ r, subB A B = r := ⟨_, rfl⟩
      have hlen : (minL A B).length = 0 ↔ r = true := by rw [← hr]; unfold subB; simp
      have hsame : decide (setL (A ++ B) = setL B) = r := by rw [← hr, sub_same]
      cases r with
      | true =>
        have z : ((minL A B).length : Int) = 0 := by have := hlen.2 rfl; omega
        refine (subset_any (HA.out.keep HW.out) (HB.out.keep HW.out) nA nB lA lB).mono ?_
        rw [hr]
        rintro e wn ⟨rfl, hb⟩
        replace HU := Lib.hid (HU.out.keep hb)
        replace HD := Lib.hid (HD.out.keep hb)
        replace HW := Lib.hid (HW.out.trans (hb.mono HW.out.size))
        clear hb
        go_wp2_with fail
        refine (subset_any (HA.out.keep HW.out) (HB.out.keep HW.out) nA nB lA lB).mono ?_
        rw [hr]
        rintro e wn ⟨rfl, hb⟩
        replace HU := Lib.hid (HU.out.keep hb)
        replace HD := Lib.hid (HD.out.keep hb)
        replace HW := Lib.hid (HW.out.trans (hb.mono HW.out.size))
        clear hb
        go_wp2_with fail
        refine (set_any (HB.out.keep HW.out) nB lB).mono ?_
        rintro e wn ⟨v, rfl, hown, hb⟩
        obtain ⟨aE, bE, cE, rfl, hsE, nE⟩ := own_any hown
        have HE := Lib.hid hsE
        replace HU := Lib.hid (HU.out.keep hb)
        replace HW := Lib.hid (HW.out.trans (hb.mono HW.out.size))
        clear hown hb hsE
        go_wp2_with fail
        refine (same_any HU.out HE.out).mono ?_
        rw [hsame]
        rintro e wn ⟨rfl, n, rfl⟩
        replace HW := Lib.hid (bel_drewN HW.out n)
        generalize World.drewN _ n = wq at *
        go_wp2
        go_ret
        exact ⟨rfl, HW.out⟩
      | false =>
        have z : ¬ ((minL A B).length : Int) = 0 := by intro h; have := hlen.1 (by omega); cases this
        refine (subset_any (HA.out.keep HW.out) (HB.out.keep HW.out) nA nB lA lB).mono ?_
        rw [hr]
        rintro e wn ⟨rfl, hb⟩
        replace HU := Lib.hid (HU.out.keep hb)
        replace HD := Lib.hid (HD.out.keep hb)
        replace HW := Lib.hid (HW.out.trans (hb.mono HW.out.size))
        clear hb
        go_wp2_with fail
        refine (subset_any (HA.out.keep HW.out) (HB.out.keep HW.out) nA nB lA lB).mono ?_
        rw [hr]
        rintro e wn ⟨rfl, hb⟩
        replace HU := Lib.hid (HU.out.keep hb)
        replace HD := Lib.hid (HD.out.keep hb)
        replace HW := Lib.hid (HW.out.trans (hb.mono HW.out.size))
        clear hb
        go_wp2_with fail
        refine (set_any (HB.out.keep HW.out) nB lB).mono ?_
        rintro e wn ⟨v, rfl, hown, hb⟩
        obtain ⟨aE, bE, cE, rfl, hsE, nE⟩ := own_any hown
        have HE := Lib.hid hsE
        replace HU := Lib.hid (HU.out.keep hb)
        replace HW := Lib.hid (HW.out.trans (hb.mono HW.out.size))
        clear hown hb hsE
        go_wp2_with fail
        refine (same_any HU.out HE.out).mono ?_
        rw [hsame]
        rintro e wn ⟨rfl, n, rfl⟩
        replace HW := Lib.hid (bel_drewN HW.out n)
        generalize World.drewN _ n = wq at *
        go_wp2
        go_ret
        exact ⟨by show Ending.returned (Value.bool (!(((minL A B).length : Int) == 0))) = _; rw [show ((((minL A B).length : Int) == 0) = false) by simpa using z]; rfl, HW.out⟩
set_option maxHeartbeats 1000000 in
set_option maxRecDepth 100000 in
theorem unions_walk {a a' a2 : Option Addr} {b b' b2 off off' off2 len len' len2 cap cap' cap2 : Nat} {A B C : List ByteArray} {w : World} (hA : SlS w a b off len cap A) (hB : SlS w a' b' off' len' cap' B) (hC : SlS w a2 b2 off2 len2 cap2 C)
    (nA : a = none → cap = 0) (nB : a' = none → cap' = 0) (nC : a2 = none → cap2 = 0) :
    Calls Tryd.prog 5 #[.slice a len cap, .slice a' len' cap', .slice a2 len2 cap2] w fun e w' => e = .returned (.bool true) ∧ Below w.heap.size w w' := by
  by_cases hall : smallB A = true ∧ smallB B = true ∧ smallB C = true
  · exact unions_in hA hB hC nA nB nC hall.1 hall.2.1 hall.2.2
  · have HA := Lib.hid hA
    have HB := Lib.hid hB
    have HC := Lib.hid hC
    clear hA hB hC
    go_enter Tryd.func5, Tryd.ntmps5
    go_wp2_with fail
    refine (awake_any _).mono ?_
    rintro e w1 ⟨rfl, hb⟩
    have HW := Lib.hid hb
    clear hb
    go_wp2_with fail
    refine (small_any (HA.out.keep HW.out)).mono ?_
    cases sA : smallB A with
    | false =>
      rintro e w2 ⟨rfl, rfl⟩
      go_wp2
      go_ret
      exact ⟨rfl, HW.out⟩
    | true =>
      rintro e w2 ⟨rfl, rfl⟩
      go_wp2_with fail
      refine (small_any (HB.out.keep HW.out)).mono ?_
      cases sB : smallB B with
      | false =>
        rintro e w2 ⟨rfl, rfl⟩
        go_wp2
        go_ret
        exact ⟨rfl, HW.out⟩
      | true =>
        have sC : smallB C = false := by
          cases h : smallB C with
          | false => rfl
          | true => exact absurd ⟨sA, sB, h⟩ hall
        rintro e w2 ⟨rfl, rfl⟩
        go_wp2_with fail
        refine (small_any (HC.out.keep HW.out)).mono ?_
        rw [sC]
        rintro e w2 ⟨rfl, rfl⟩
        go_wp2
        go_ret
        exact ⟨rfl, HW.out⟩
end Go.Proofs.YtcfhmbbkkadnfaaDoor
