/- MatchingKonig: for every graph: the greatest matching and the cover prove each other. -/
import Derived.Test.YtpcdbnlljdfogaaAwk
import Derived.Test.YtpcdbnlljdfogaaFle
import Derived.Test.YtpcdbnlljdfogaaIs
import Derived.Test.YtpcdbnlljdfogaaSml
set_option linter.unusedSimpArgs false
set_option linter.unusedVariables false
namespace Go.Proofs.Ytpcdbnlljdfogaa
open Go.RowKit

theorem rises_selN (p : Nat → Bool) : ∀ (n : Nat), Rises n (selN p n)
  | 0 => by simp [selN, Rises]
  | n + 1 => by
    rw [selN_succ]
    have ih := rises_selN p n
    split
    · exact rises_add1 ih
    · rw [List.append_nil]
      exact rises_more ih
theorem risesB_of {n : Nat} {L : List Int} (h : Rises n L) : risesB n L = true := by
  unfold risesB
  exact decide_eq_true h
theorem cov_wgtE {g : Gph} (hc : chk g = 0) {R : List Int} {c : Cvr} (hA : c.A = covL g R) (hB : c.B = covR g R) : wgtE g c = 0 := by
  unfold wgtE
  rw [if_neg (by simpa using hc), hA, hB, show risesB g.L.length (covL g R) = true from risesB_of (rises_selN _ _), show risesB g.R.length (covR g R) = true from risesB_of (rises_selN _ _)]
  rfl
theorem cov_wgtW {g : Gph} (hc : chk g = 0) {R : List Int} {c : Cvr} (hA : c.A = covL g R) (hB : c.B = covR g R) : wgtW g c = weigh g.L g.R g.E (covL g R) (covR g R) := by
  rw [wgtW_ok (cov_wgtE hc hA hB), hA, hB]
set_option maxHeartbeats 16000000 in
set_option maxRecDepth 100000 in
theorem law_konig (g : Gph) (w : World) (hg : GpAt w g) :
    Calls Try.prog 5 #[g.val] w fun e w' => e = .returned (.bool true) ∧ Below w.heap.size w w' := by
  have HB := Lib.hid ((Below.refl w.heap.size w).alloc (Nat.le_refl _) (gBox g))
  have HGB := Lib.hid (gb_new w g 25)
  have HG := Lib.hid (fun W (h : Below w.heap.size w W) => hg.keep h)
  have hs0 : w.heap.size ≤ (w.alloc (gBox g)).heap.size := HB.out.size
  have HAw := Lib.hid (awk_any (w.alloc (gBox g)))
  clear hg
  unfold gBox at HB HGB hs0 HAw
  unfold Gph.val
  go_enter Try.func5, Try.ntmps5
  go_wp2_with fail
  refine HAw.out.mono ?_
  rintro e w1 ⟨rfl, hb1⟩
  have HB1 := Lib.hid (HB.out.trans (hb1.mono hs0))
  have HGB1 := Lib.hid (HGB.out.keep hb1)
  have hs1 : w.heap.size ≤ w1.heap.size := HB1.out.size
  clear hb1 HB HGB hs0 HAw
  have HS1 := Lib.hid (small_any g w1 40 100)
  unfold Gph.val at HS1
  obtain ⟨g0, g1, g2, gl⟩ := HGB1.out
  go_wp2_with fail
  refine HS1.out.mono ?_
  rintro e w2 ⟨rfl, hb2⟩
  have HB2 := Lib.hid (HB1.out.trans (hb2.mono hs1))
  have HGB2 := Lib.hid (HGB1.out.keep hb2)
  have hs2 : w.heap.size ≤ w2.heap.size := HB2.out.size
  clear hb2 HGB1 HB1 hs1 HS1 g0 g1 g2 gl
  obtain ⟨g0, g1, g2, gl⟩ := HGB2.out
  generalize smallB g 40 100 = sm
  cases sm with
  | false =>
    go_wp2_with fail
    go_ret
    exact ⟨rfl, HB2.out⟩
  | true =>
  have HK := Lib.hid (check_any g w2 (HG.out w2 HB2.out))
  unfold Gph.val at HK
  go_wp2_with fail
  refine HK.out.mono ?_
  rintro e w3 ⟨rfl, hb3⟩
  have HB3 := Lib.hid (HB2.out.trans (hb3.mono hs2))
  have HGB3 := Lib.hid (HGB2.out.keep hb3)
  have hs3 : w.heap.size ≤ w3.heap.size := HB3.out.size
  clear hb3 HGB2 HB2 hs2 HK g0 g1 g2 gl
  obtain ⟨g0, g1, g2, gl⟩ := HGB3.out
  by_cases hk : chk g = 0
  · have hk1 : (chk g != 0) = false := by simp [hk]
    obtain ⟨Rf, M, f1, f2, f3, m1, m2⟩ := konig hk (nG g) (1000 * mG g + 1) (Nat.le_refl _) (Nat.lt_succ_self _)
    have HGr := Lib.hid (fun W (hW : Below w.heap.size w W) => gre_any g W (HG.out W hW) hk _ _ M f2)
    have HCo := Lib.hid (fun W (hW : Below w.heap.size w W) => cov_any g W (HG.out W hW) hk _ _ Rf f1)
    have HWe := Lib.hid (fun c hA hB => cov_wgtE hk (R := Rf) (c := c) hA hB)
    have HWw := Lib.hid (fun c hA hB => (cov_wgtW hk (R := Rf) (c := c) hA hB).trans m2.symm)
    have HIb := Lib.hid (show isB g M = true by unfold isB; rw [decide_eq_true hk, m1]; rfl)
    have HM1 := Lib.hid m1
    generalize chk g = kk at hk1
    clear hk m1 m2 f1 f2 f3
    unfold Gph.val at HGr HCo
    generalize hCL : covL g Rf = CL at *
    generalize hCR : covR g Rf = CR at *
    clear hCL hCR
    have HN3 := Lib.hid (HGr.out w3 HB3.out)
    go_wp2_with fail
    refine HN3.out.mono ?_
    rintro e w4 ⟨vm, rfl, hom, hb4⟩
    obtain ⟨am, bm, cm, rfl, hsm, -⟩ := own_sli hom
    have HSm := Lib.hid hsm
    have HB4 := Lib.hid (HB3.out.trans (hb4.mono hs3))
    have HGB4 := Lib.hid (HGB3.out.keep hb4)
    have hs4 : w.heap.size ≤ w4.heap.size := HB4.out.size
    clear hb4 hom hsm HGB3 HB3 hs3 HN3 HGr g0 g1 g2 gl
    obtain ⟨g0, g1, g2, gl⟩ := HGB4.out
    have HN4 := Lib.hid (HCo.out w4 HB4.out)
    go_wp2_with fail
    refine HN4.out.mono ?_
    rintro e w5' ⟨v1, v2, rfl, ho1, ho2, hb5'⟩
    obtain ⟨a1, d1, c1, rfl, hs1', -⟩ := own_sli ho1
    obtain ⟨a2, d2, c2, rfl, hs2', -⟩ := own_sli ho2
    have hb5 := hb5'.alloc hb5'.size (.cells #[.slice a1 CL.length c1, .slice a2 CR.length c2] 36)
    have hn5 := (Below.refl w5'.heap.size w5').alloc (Nat.le_refl _) (.cells #[.slice a1 CL.length c1, .slice a2 CR.length c2] 36)
    obtain ⟨w5, hw5⟩ : ∃ y, y = w5'.alloc (.cells #[.slice a1 CL.length c1, .slice a2 CR.length c2] 36) := ⟨_, rfl⟩
    rw [← hw5] at hb5 hn5
    have k0 : w5.cell? ⟨w5'.heap.size, 0, none⟩ = some (.slice a1 CL.length c1) := by rw [hw5]; simp [go_sem]
    have k1 : w5.cell? ⟨w5'.heap.size, 1, none⟩ = some (.slice a2 CR.length c2) := by rw [hw5]; simp [go_sem]
    have hk5 : w5'.heap.size < w5.heap.size := by rw [hw5]; simp
    have HCv := Lib.hid (show CvAt w5 ⟨CL, CR, a1, d1, 0, c1, a2, d2, 0, c2⟩ from ⟨hs1'.keep hn5, hs2'.keep hn5⟩)
    have HSm5 := Lib.hid (HSm.out.keep hb5)
    have gz0 := (hb5'.cell (p := ⟨w.heap.size, 0, none⟩) gl).trans g0
    have gz1 := (hb5'.cell (p := ⟨w.heap.size, 1, none⟩) gl).trans g1
    have gz2 := (hb5'.cell (p := ⟨w.heap.size, 2, none⟩) gl).trans g2
    have gzl := Nat.lt_of_lt_of_le gl hb5'.size
    have K0 := Lib.hid k0
    have K1 := Lib.hid k1
    have Hw5 := Lib.hid hw5
    have HB5 := Lib.hid (HB4.out.trans (hb5.mono hs4))
    have HGB5 := Lib.hid (HGB4.out.keep hb5)
    have hs5 : w.heap.size ≤ w5.heap.size := HB5.out.size
    have HN5 := Lib.hid (wgt_any g ⟨CL, CR, a1, d1, 0, c1, a2, d2, 0, c2⟩ w5 (HG.out w5 HB5.out) HCv.out)
    rw [HWe.out ⟨CL, CR, a1, d1, 0, c1, a2, d2, 0, c2⟩ rfl rfl, HWw.out ⟨CL, CR, a1, d1, 0, c1, a2, d2, 0, c2⟩ rfl rfl] at HN5
    unfold Gph.val Cvr.val at HN5
    have HPq := Lib.hid (show prvB g M ⟨CL, CR, a1, d1, 0, c1, a2, d2, 0, c2⟩ = true by
      unfold prvB
      rw [HWe.out ⟨CL, CR, a1, d1, 0, c1, a2, d2, 0, c2⟩ rfl rfl, HWw.out ⟨CL, CR, a1, d1, 0, c1, a2, d2, 0, c2⟩ rfl rfl, HM1.out]
      simp)
    clear HGB4 HB4 hs4 g0 g1 g2 gl hb5 hb5' hn5 HN4 HCo hw5 ho1 ho2 hs1' hs2' HSm k0 k1 HWe HWw HM1
    go_wp2_with fail
    rw [← Hw5.out]
    clear gz0 gz1 gz2 gzl
    obtain ⟨g0, g1, g2, gl⟩ := HGB5.out
    have k0 := K0.out
    have k1 := K1.out
    clear K0 K1 Hw5
    refine HN5.out.mono ?_
    rintro e w6 ⟨rfl, hb6⟩
    have HB6 := Lib.hid (HB5.out.trans (hb6.mono hs5))
    have HGB6 := Lib.hid (HGB5.out.keep hb6)
    have hs6 : w.heap.size ≤ w6.heap.size := HB6.out.size
    have HSm6 := Lib.hid (HSm5.out.keep hb6)
    have HCv6 := Lib.hid (HCv.out.keep hb6)
    replace k0 := (hb6.cell (p := ⟨w5'.heap.size, 0, none⟩) hk5).trans k0
    replace k1 := (hb6.cell (p := ⟨w5'.heap.size, 1, none⟩) hk5).trans k1
    have hk6 := Nat.lt_of_lt_of_le hk5 hb6.size
    clear hb6 HGB5 HB5 hs5 HN5 HSm5 HCv hk5 g0 g1 g2 gl
    obtain ⟨g0, g1, g2, gl⟩ := HGB6.out
    have HN6 := Lib.hid (is_any g w6 (HG.out w6 HB6.out) HSm6.out)
    rw [HIb.out] at HN6
    unfold Gph.val at HN6
    go_wp2_with fail
    refine HN6.out.mono ?_
    rintro e w7 ⟨rfl, hb7⟩
    have HB7 := Lib.hid (HB6.out.trans (hb7.mono hs6))
    have HGB7 := Lib.hid (HGB6.out.keep hb7)
    have hs7 : w.heap.size ≤ w7.heap.size := HB7.out.size
    have HSm7 := Lib.hid (HSm6.out.keep hb7)
    have HCv7 := Lib.hid (HCv6.out.keep hb7)
    replace k0 := (hb7.cell (p := ⟨w5'.heap.size, 0, none⟩) hk6).trans k0
    replace k1 := (hb7.cell (p := ⟨w5'.heap.size, 1, none⟩) hk6).trans k1
    have hk7 := Nat.lt_of_lt_of_le hk6 hb7.size
    clear hb7 HGB6 HB6 hs6 HN6 HSm6 HCv6 hk6 g0 g1 g2 gl
    obtain ⟨g0, g1, g2, gl⟩ := HGB7.out
    have HN7 := Lib.hid (prv_any g ⟨CL, CR, a1, d1, 0, c1, a2, d2, 0, c2⟩ w7 (HG.out w7 HB7.out) HCv7.out HSm7.out)
    rw [HPq.out] at HN7
    unfold Gph.val Cvr.val at HN7
    have hll : ((M.length : Int) == (M.length : Int)) = true := by simp
    go_wp2_with fail
    refine HN7.out.mono ?_
    rintro e w8 ⟨rfl, hb8⟩
    have HB8 := Lib.hid (HB7.out.trans (hb8.mono hs7))
    clear hb8
    go_wp2_with fail
    go_ret
    exact ⟨rfl, HB8.out⟩
  · have hk1 : (chk g != 0) = true := by simpa using hk
    generalize chk g = kk at hk1
    go_wp2_with fail
    go_ret
    exact ⟨rfl, HB3.out⟩
end Go.Proofs.Ytpcdbnlljdfogaa
