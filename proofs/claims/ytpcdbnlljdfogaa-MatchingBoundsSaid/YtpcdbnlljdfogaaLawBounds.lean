/- MatchingBounds: for every graph, list of edges and cover: the weight is as specified, no matching is larger, and Proves accepts exactly the pairs with equal numbers. -/
import Derived.Test.YtpcdbnlljdfogaaAwk
import Derived.Test.YtpcdbnlljdfogaaRcov
import Derived.Test.YtpcdbnlljdfogaaRwgt
import Derived.Test.YtpcdbnlljdfogaaRis
import Derived.Test.YtpcdbnlljdfogaaRchk
import Derived.Test.YtpcdbnlljdfogaaSml
set_option linter.unusedSimpArgs false
set_option linter.unusedVariables false
namespace Go.Proofs.Ytpcdbnlljdfogaa
open Go.RowKit

theorem rises_ok {n : Nat} {L : List Int} (h : risesB n L = true) : Rises n L := by
  unfold risesB at h
  exact of_decide_eq_true h
set_option maxHeartbeats 16000000 in
set_option maxRecDepth 100000 in
theorem law_bounds (g : Gph) (c : Cvr) (w : World) (hg : GpAt w g) (hc : CvAt w c) {a : Option Addr} {b off len cap : Nat} {M : List Int} (hM : SlI w a b off len cap M) :
    Calls Try.prog 6 #[g.val, .slice a len cap, c.val] w fun e w' => e = .returned (.bool true) ∧ Below w.heap.size w w' := by
  have HB := Lib.hid (((Below.refl w.heap.size w).alloc (Nat.le_refl _) (gBox g)).alloc (by simp) (cBox c))
  have HGB := Lib.hid ((gb_new w g 25).keep ((Below.refl (w.alloc (gBox g)).heap.size (w.alloc (gBox g))).alloc (Nat.le_refl _) (cBox c)))
  have HCB := Lib.hid (show CbAt ((w.alloc (gBox g)).alloc (cBox c)) (w.heap.size + 1) c by have := cb_new (w.alloc (gBox g)) c 36; simpa using this)
  have HG := Lib.hid (fun W (h : Below w.heap.size w W) => hg.keep h)
  have HC := Lib.hid (fun W (h : Below w.heap.size w W) => hc.keep h)
  have HM := Lib.hid (fun W (h : Below w.heap.size w W) => hM.keep h)
  have hMl : M.length = len := hM.hl
  have HMl := Lib.hid hMl
  have hs0 : w.heap.size ≤ ((w.alloc (gBox g)).alloc (cBox c)).heap.size := HB.out.size
  have HAw := Lib.hid (awk_any ((w.alloc (gBox g)).alloc (cBox c)))
  clear hg hc hM hMl
  unfold gBox cBox at HB HGB HCB hs0 HAw
  unfold Gph.val Cvr.val
  go_enter Try.func6, Try.ntmps6
  go_wp2_with fail
  refine HAw.out.mono ?_
  rintro e w1 ⟨rfl, hb1⟩
  have HB1 := Lib.hid (HB.out.trans (hb1.mono hs0))
  have HGB1 := Lib.hid (HGB.out.keep hb1)
  have HCB1 := Lib.hid (HCB.out.keep hb1)
  have hs1 : w.heap.size ≤ w1.heap.size := HB1.out.size
  clear hb1 HB HGB HCB hs0 HAw
  have HS1 := Lib.hid (small_any g w1 40 60)
  unfold Gph.val at HS1
  obtain ⟨g0, g1, g2, gl⟩ := HGB1.out
  obtain ⟨d0, d1, dl⟩ := HCB1.out
  go_wp2_with fail
  refine HS1.out.mono ?_
  rintro e w2 ⟨rfl, hb2⟩
  have HB2 := Lib.hid (HB1.out.trans (hb2.mono hs1))
  have HGB2 := Lib.hid (HGB1.out.keep hb2)
  have HCB2 := Lib.hid (HCB1.out.keep hb2)
  have hs2 : w.heap.size ≤ w2.heap.size := HB2.out.size
  clear hb2 HGB1 HCB1 HB1 hs1 HS1 g0 g1 g2 gl d0 d1 dl
  obtain ⟨g0, g1, g2, gl⟩ := HGB2.out
  obtain ⟨d0, d1, dl⟩ := HCB2.out
  generalize smallB g 40 60 = sm
  cases sm with
  | false =>
    go_wp2_with fail
    go_ret
    exact ⟨rfl, HB2.out⟩
  | true =>
    by_cases q1 : (len : Int) > 80
    · have p1 : decide ((len : Int) > 80) = true := decide_eq_true q1
      go_wp2_with fail
      go_ret
      exact ⟨rfl, HB2.out⟩
    · have p1 : decide ((len : Int) > 80) = false := decide_eq_false q1
      clear q1
      by_cases q2 : (c.A.length : Int) > 60
      · have p2 : decide ((c.A.length : Int) > 60) = true := decide_eq_true q2
        go_wp2_with fail
        go_ret
        exact ⟨rfl, HB2.out⟩
      · have p2 : decide ((c.A.length : Int) > 60) = false := decide_eq_false q2
        clear q2
        by_cases q3 : (c.B.length : Int) > 60
        · have p3 : decide ((c.B.length : Int) > 60) = true := decide_eq_true q3
          go_wp2_with fail
          go_ret
          exact ⟨rfl, HB2.out⟩
        · have p3 : decide ((c.B.length : Int) > 60) = false := decide_eq_false q3
          clear q3
          have HK := Lib.hid (rchk_any g w2 (HG.out w2 HB2.out))
          unfold Gph.val at HK
          go_wp2_with fail
          refine HK.out.mono ?_
          rintro e w3 ⟨rfl, hb3⟩
          have HB3 := Lib.hid (HB2.out.trans (hb3.mono hs2))
          have HGB3 := Lib.hid (HGB2.out.keep hb3)
          have HCB3 := Lib.hid (HCB2.out.keep hb3)
          have hs3 : w.heap.size ≤ w3.heap.size := HB3.out.size
          clear hb3 HGB2 HCB2 HB2 hs2 HK g0 g1 g2 gl d0 d1 dl p1 p2 p3
          obtain ⟨g0, g1, g2, gl⟩ := HGB3.out
          obtain ⟨d0, d1, dl⟩ := HCB3.out
          by_cases hk : chk g = 0
          · have hk1 : (chk g != 0) = false := by simp [hk]
            have HKz := Lib.hid hk
            have HW := Lib.hid (wgt_any g c w3 (HG.out w3 HB3.out) (HC.out w3 HB3.out))
            unfold Gph.val Cvr.val at HW
            have HwE := Lib.hid (show wgtE g c = if (risesB g.L.length c.A && risesB g.R.length c.B) = true then 0 else 1 by unfold wgtE; rw [if_neg (by simpa using hk)])
            have HwY := Lib.hid (fun h => wgtW_ok (g := g) (c := c) h)
            have HwN := Lib.hid (fun h => wgtW_no (g := g) (c := c) h)
            have HPv := Lib.hid (show prvB g M c = (decide (wgtE g c = 0) && isM g.L g.R g.E M && decide ((M.length : Int) = wgtW g c)) from rfl)
            generalize chk g = kk at hk1
            clear hk
            generalize hwe : wgtE g c = we at *
            generalize hww : wgtW g c = ww at *
            go_wp2_with fail
            refine HW.out.mono ?_
            rintro e w4 ⟨rfl, hb4⟩
            have HB4 := Lib.hid (HB3.out.trans (hb4.mono hs3))
            have HGB4 := Lib.hid (HGB3.out.keep hb4)
            have HCB4 := Lib.hid (HCB3.out.keep hb4)
            have hs4 : w.heap.size ≤ w4.heap.size := HB4.out.size
            clear hb4 HGB3 HCB3 HB3 hs3 g0 g1 g2 gl d0 d1 dl
            obtain ⟨g0, g1, g2, gl⟩ := HGB4.out
            obtain ⟨d0, d1, dl⟩ := HCB4.out
            have HCv := Lib.hid (rcov_any g c w4 (HG.out w4 HB4.out) (HC.out w4 HB4.out))
            unfold Gph.val Cvr.val at HCv
            obtain ⟨cv, hcv⟩ : ∃ y, y = (risesB g.L.length c.A && risesB g.R.length c.B) := ⟨_, rfl⟩
            rw [← hcv] at HCv HwE
            go_wp2_with fail
            refine HCv.out.mono ?_
            rintro e w5 ⟨rfl, hb5⟩
            have HB5 := Lib.hid (HB4.out.trans (hb5.mono hs4))
            have HGB5 := Lib.hid (HGB4.out.keep hb5)
            have HCB5 := Lib.hid (HCB4.out.keep hb5)
            have hs5 : w.heap.size ≤ w5.heap.size := HB5.out.size
            clear hb5 HGB4 HCB4 HB4 hs4 g0 g1 g2 gl d0 d1 dl
            obtain ⟨g0, g1, g2, gl⟩ := HGB5.out
            obtain ⟨d0, d1, dl⟩ := HCB5.out
            clear HW HCv
            have HPr := Lib.hid (prv_any g c w5 (HG.out w5 HB5.out) (HC.out w5 HB5.out) (HM.out w5 HB5.out))
            unfold Gph.val Cvr.val at HPr
            cases cv with
            | false =>
              have hw1 : we = 1 := by rw [HwE.out]; rfl
              subst hw1
              have hw0 : ww = 0 := HwN.out (by decide)
              subst hw0
              rw [HPv.out] at HPr
              rw [show decide ((1 : Int) = 0) = false from rfl, Bool.false_and, Bool.false_and] at HPr
              clear hcv HwE HwY HwN HPv hwe hww
              go_wp2_with fail
              refine HPr.out.mono ?_
              rintro e w6 ⟨rfl, hb6⟩
              have HB6 := Lib.hid (HB5.out.trans (hb6.mono hs5))
              clear hb6
              go_wp2_with fail
              go_ret
              exact ⟨rfl, HB6.out⟩
            | true =>
              have hw1 : we = 0 := by rw [HwE.out]; rfl
              subst hw1
              have hwy := HwY.out rfl
              have hcv2 := hcv.symm
              rw [Bool.and_eq_true] at hcv2
              have hA := rises_ok hcv2.1
              have hBB := rises_ok hcv2.2
              obtain ⟨l1, l2, l3, hL, hR, hE, hN⟩ := chk_ok HKz.out
              have HWk := Lib.hid (fun (h : isM g.L g.R g.E M = true) => weak hE (fun x hx => (hL x hx).1) (fun x hx => (hR x hx).1) h hA hBB)
              rw [← hwy, HMl.out] at HWk
              have HIs := Lib.hid (ris_any g w5 (HG.out w5 HB5.out) (HM.out w5 HB5.out))
              have HRw := Lib.hid (fun W hW => rwgt_any g c W (HG.out W hW) (HC.out W hW) HKz.out hA hBB)
              rw [show isB g M = isM g.L g.R g.E M by unfold isB; rw [decide_eq_true HKz.out, Bool.true_and]] at HIs
              rw [← hwy] at HRw
              have HPr2 := Lib.hid (fun W hW => prv_any g c W (HG.out W hW) (HC.out W hW) (HM.out W hW))
              rw [HPv.out, show decide ((0 : Int) = 0) = true from rfl, Bool.true_and, HMl.out] at HPr2
              unfold Gph.val at HIs HRw HPr2
              unfold Cvr.val at HRw HPr2
              clear hcv hcv2 HwE HwY HwN HPv hwe hww hwy hA hBB hL hR hE hN l1 l2 l3 HPr
              generalize isM g.L g.R g.E M = is at *
              go_wp2_with fail
              refine HIs.out.mono ?_
              rintro e w6 ⟨rfl, hb6⟩
              have HB6 := Lib.hid (HB5.out.trans (hb6.mono hs5))
              have HGB6 := Lib.hid (HGB5.out.keep hb6)
              have HCB6 := Lib.hid (HCB5.out.keep hb6)
              have hs6 : w.heap.size ≤ w6.heap.size := HB6.out.size
              clear hb6 HGB5 HCB5 HB5 hs5 g0 g1 g2 gl d0 d1 dl
              obtain ⟨g0, g1, g2, gl⟩ := HGB6.out
              obtain ⟨d0, d1, dl⟩ := HCB6.out
              have HR6 := Lib.hid (HRw.out w6 HB6.out)
              clear HIs HRw
              go_wp2_with fail
              refine HR6.out.mono ?_
              rintro e w7 ⟨rfl, hb7⟩
              have HB7 := Lib.hid (HB6.out.trans (hb7.mono hs6))
              have HGB7 := Lib.hid (HGB6.out.keep hb7)
              have HCB7 := Lib.hid (HCB6.out.keep hb7)
              have hs7 : w.heap.size ≤ w7.heap.size := HB7.out.size
              clear hb7 HGB6 HCB6 HB6 hs6 g0 g1 g2 gl d0 d1 dl
              obtain ⟨g0, g1, g2, gl⟩ := HGB7.out
              obtain ⟨d0, d1, dl⟩ := HCB7.out
              have HP7 := Lib.hid (HPr2.out w7 HB7.out)
              clear HPr2 HR6
              have hww0 : (ww == ww) = true := by simp
              cases is with
              | false =>
                rw [Bool.false_and] at HP7
                go_wp2_with fail
                refine HP7.out.mono ?_
                rintro e w8 ⟨rfl, hb8⟩
                have HB8 := Lib.hid (HB7.out.trans (hb8.mono hs7))
                clear hb8
                go_wp2_with fail
                go_ret
                exact ⟨rfl, HB8.out⟩
              | true =>
                rw [Bool.true_and] at HP7
                have hle := HWk.out rfl
                have hle2 : decide ((len : Int) ≤ ww) = true := decide_eq_true hle
                obtain ⟨eqb, heqb⟩ : ∃ y, y = decide ((len : Int) = ww) := ⟨_, rfl⟩
                rw [← heqb] at HP7
                have heq2 : ((len : Int) == ww) = eqb := by rw [heqb]; rfl
                clear heqb
                go_wp2_with fail
                refine HP7.out.mono ?_
                rintro e w8 ⟨rfl, hb8⟩
                have HB8 := Lib.hid (HB7.out.trans (hb8.mono hs7))
                clear hb8
                have heqq : (eqb == eqb) = true := by simp
                go_wp2_with fail
                go_ret
                exact ⟨by first | rfl | (rw [heqq]; done), HB8.out⟩
          · have hk1 : (chk g != 0) = true := by simpa using hk
            generalize chk g = kk at hk1
            go_wp2_with fail
            go_ret
            exact ⟨rfl, HB3.out⟩
end Go.Proofs.Ytpcdbnlljdfogaa
