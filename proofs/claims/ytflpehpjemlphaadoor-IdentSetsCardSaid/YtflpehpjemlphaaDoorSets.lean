/- The law of the functions on sets. -/
import Derived.Test.YtflpehpjemlphaaDoorUniP
import Derived.Test.YtflpehpjemlphaaDoorSmall
import Derived.Test.YtflpehpjemlphaaDoorRUni
import Derived.Test.YtflpehpjemlphaaDoorAwake
set_option linter.unusedSimpArgs false
set_option linter.unusedVariables false
namespace Go.Proofs.YtflpehpjemlphaaDoor
open Go.RowKit

set_option maxHeartbeats 4000000 in
set_option maxRecDepth 100000 in
theorem sets_in {a a' : Option Addr} {b b' off off' len len' cap cap' : Nat} {A B : List ByteArray} {s : ByteArray} {w : World} (hA : SlS w a b off len cap A) (hB : SlS w a' b' off' len' cap' B)
    (nA : a = none → cap = 0) (nB : a' = none → cap' = 0) (sA : smallB A = true) (sB : smallB B = true) :
    Calls Tryd.prog 3 #[.slice a len cap, .slice a' len' cap', .string s] w fun e w' => e = .returned (.bool true) ∧ Below w.heap.size w w' := by
  have zA := (small_len sA).1
  have zB := (small_len sB).1
  have lA : len ≤ 500 := by rw [← hA.hl]; omega
  have lB : len' ≤ 500 := by rw [← hB.hl]; omega
  have lA2 : len ≤ 500000 := by omega
  have lB2 : len' ≤ 500000 := by omega
  have HA := Lib.hid hA
  have HB := Lib.hid hB
  clear hA hB
  go_enter Tryd.func3, Tryd.ntmps3
  go_wp2_with fail
  refine (awake_any _).mono ?_
  rintro e w1 ⟨rfl, hb⟩
  have HW := Lib.hid hb
  clear hb
  go_wp2_with fail
  refine (small_any (HA.out.keep HW.out)).mono ?_
  rw [sA]
  rintro e w2 ⟨rfl, rfl⟩
  go_wp2_with fail
  refine (small_any (HB.out.keep HW.out)).mono ?_
  rw [sB]
  rintro e w2 ⟨rfl, rfl⟩
  go_wp2_with fail
  refine (sorted_any (HA.out.keep HW.out)).mono ?_
  rintro e w3 ⟨rfl, q1, rfl⟩
  replace HW := Lib.hid (bel_drewN HW.out q1)
  generalize hr : srtL A = r at *
  generalize World.drewN _ q1 = w4 at *
  go_wp2_with fail
  refine (rsorted_any (HA.out.keep HW.out)).mono ?_
  rw [hr]
  rintro e w5 ⟨rfl, q2, rfl⟩
  replace HW := Lib.hid (bel_drewN HW.out q2)
  have k1 : (r == r) = true := by simp
  clear hr
  generalize World.drewN _ q2 = w6 at *
  go_wp2_with fail
  refine (set_any (HA.out.keep HW.out) nA lA2).mono ?_
  rintro e w7 ⟨v, rfl, ho, hb⟩
  obtain ⟨aU, bU, cU, rfl, hsU, nU⟩ := own_any ho
  have HU := Lib.hid hsU
  replace HW := Lib.hid (HW.out.trans (hb.mono HW.out.size))
  clear ho hb hsU
  go_wp2_with fail
  refine (rset_any (HA.out.keep HW.out) (by omega)).mono ?_
  rintro e w8 ⟨v, rfl, ho, hb⟩
  obtain ⟨aV, bV, cV, rfl, hsV, nV⟩ := own_any ho
  have HV := Lib.hid hsV
  replace HU := Lib.hid (HU.out.keep hb)
  replace HW := Lib.hid (HW.out.trans (hb.mono HW.out.size))
  clear ho hb hsV
  go_wp2_with fail
  refine (same_any HU.out HV.out).mono ?_
  rw [decide_eq_true rfl]
  rintro e w9 ⟨rfl, q3, rfl⟩
  replace HW := Lib.hid (bel_drewN HW.out q3)
  clear HU HV nU nV
  generalize World.drewN _ q3 = w10 at *
  have HH1 := Lib.hid (has_any (HA.out.keep HW.out) s)
  have HH2 := Lib.hid (rhas_any (HA.out.keep HW.out) s)
  generalize Lib.containsS A s = h at *
  have k2 : (h == h) = true := by simp
  go_wp2_with fail
  refine HH1.out.mono ?_
  rintro e w11 ⟨rfl, rfl⟩
  go_wp2_with fail
  refine HH2.out.mono ?_
  rintro e w12 ⟨rfl, rfl⟩
  clear HH1 HH2
  go_wp2_with fail
  refine (union_any (HA.out.keep HW.out) (HB.out.keep HW.out) nA nB lA2 lB2).mono ?_
  rintro e w13 ⟨v, rfl, ho, hb⟩
  obtain ⟨aU, bU, cU, rfl, hsU, nU⟩ := own_any ho
  have HU := Lib.hid hsU
  replace HW := Lib.hid (HW.out.trans (hb.mono HW.out.size))
  clear ho hb hsU
  go_wp2_with fail
  refine (runion_any (HA.out.keep HW.out) (HB.out.keep HW.out) nA nB lA lB).mono ?_
  rintro e w14 ⟨v, rfl, ho, hb⟩
  obtain ⟨aV, bV, cV, rfl, hsV, nV⟩ := own_any ho
  have HV := Lib.hid hsV
  replace HU := Lib.hid (HU.out.keep hb)
  replace HW := Lib.hid (HW.out.trans (hb.mono HW.out.size))
  clear ho hb hsV
  go_wp2_with fail
  refine (same_any HU.out HV.out).mono ?_
  rw [decide_eq_true rfl]
  rintro e w15 ⟨rfl, q4, rfl⟩
  replace HW := Lib.hid (bel_drewN HW.out q4)
  clear HU HV nU nV
  generalize World.drewN _ q4 = w16 at *
  go_wp2_with fail
  refine (minus_any (HA.out.keep HW.out) (HB.out.keep HW.out) nA nB lA2 lB2).mono ?_
  rintro e w17 ⟨v, rfl, ho, hb⟩
  obtain ⟨aU, bU, cU, rfl, hsU, nU⟩ := own_any ho
  have HU := Lib.hid hsU
  replace HW := Lib.hid (HW.out.trans (hb.mono HW.out.size))
  clear ho hb hsU
  go_wp2_with fail
  refine (rminus_any (HA.out.keep HW.out) (HB.out.keep HW.out) lA).mono ?_
  rintro e w18 ⟨v, rfl, ho, hb⟩
  obtain ⟨aV, bV, cV, rfl, hsV, nV⟩ := own_any ho
  have HV := Lib.hid hsV
  replace HU := Lib.hid (HU.out.keep hb)
  replace HW := Lib.hid (HW.out.trans (hb.mono HW.out.size))
  clear ho hb hsV
  go_wp2_with fail
  refine (same_any HU.out HV.out).mono ?_
  rw [show decide ((List.filter (fun x => !Lib.containsS (setL B) x) (setL A)) = minL A B) = true from decide_eq_true rfl]
  rintro e w19 ⟨rfl, q5, rfl⟩
  replace HW := Lib.hid (bel_drewN HW.out q5)
  clear HU HV nU nV
  generalize World.drewN _ q5 = w20 at *
  have HS1 := Lib.hid (subset_any (HA.out.keep HW.out) (HB.out.keep HW.out) nA nB lA2 lB2)
  have HS2 := Lib.hid (fun W (hb : Below w.heap.size w W) => rsubset_any (HA.out.keep hb) (HB.out.keep hb) lA)
  generalize subB A B = u at *
  have k3 : (u == u) = true := by simp
  go_wp2_with fail
  refine HS1.out.mono ?_
  rintro e w21 ⟨rfl, hb⟩
  replace HW := Lib.hid (HW.out.trans (hb.mono HW.out.size))
  clear hb HS1
  go_wp2_with fail
  refine (HS2.out _ HW.out).mono ?_
  rintro e w22 ⟨rfl, hb⟩
  replace HW := Lib.hid (HW.out.trans (hb.mono HW.out.size))
  clear hb HS2
  go_wp2
  go_ret
  exact ⟨rfl, HW.out⟩
set_option maxHeartbeats 1000000 in
set_option maxRecDepth 100000 in
theorem sets_walk {a a' : Option Addr} {b b' off off' len len' cap cap' : Nat} {A B : List ByteArray} {s : ByteArray} {w : World} (hA : SlS w a b off len cap A) (hB : SlS w a' b' off' len' cap' B)
    (nA : a = none → cap = 0) (nB : a' = none → cap' = 0) :
    Calls Tryd.prog 3 #[.slice a len cap, .slice a' len' cap', .string s] w fun e w' => e = .returned (.bool true) ∧ Below w.heap.size w w' := by
  cases sA : smallB A with
  | false =>
    have HA := Lib.hid hA
    clear hA hB
    go_enter Tryd.func3, Tryd.ntmps3
    go_wp2_with fail
    refine (awake_any _).mono ?_
    rintro e w1 ⟨rfl, hb⟩
    have HW := Lib.hid hb
    clear hb
    go_wp2_with fail
    refine (small_any (HA.out.keep HW.out)).mono ?_
    rw [sA]
    rintro e w2 ⟨rfl, rfl⟩
    go_wp2
    go_ret
    exact ⟨rfl, HW.out⟩
  | true =>
  cases sB : smallB B with
  | false =>
    have HA := Lib.hid hA
    have HB := Lib.hid hB
    clear hA hB
    go_enter Tryd.func3, Tryd.ntmps3
    go_wp2_with fail
    refine (awake_any _).mono ?_
    rintro e w1 ⟨rfl, hb⟩
    have HW := Lib.hid hb
    clear hb
    go_wp2_with fail
    refine (small_any (HA.out.keep HW.out)).mono ?_
    rw [sA]
    rintro e w2 ⟨rfl, rfl⟩
    go_wp2_with fail
    refine (small_any (HB.out.keep HW.out)).mono ?_
    rw [sB]
    rintro e w2 ⟨rfl, rfl⟩
    go_wp2
    go_ret
    exact ⟨rfl, HW.out⟩
  | true => exact sets_in hA hB nA nB sA sB
end Go.Proofs.YtflpehpjemlphaaDoor
