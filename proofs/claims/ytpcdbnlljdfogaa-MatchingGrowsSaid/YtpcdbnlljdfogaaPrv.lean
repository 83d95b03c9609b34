/- The contract of Proves. -/
import Derived.Test.YtpcdbnlljdfogaaWgt
set_option linter.unusedSimpArgs false
set_option linter.unusedVariables false
namespace Go.Proofs.Ytpcdbnlljdfogaa
open Go.RowKit

theorem wgtE_chk {g : Gph} {c : Cvr} (h : wgtE g c = 0) : chk g = 0 := by
  unfold wgtE at h
  split at h
  · exact h
  · rename_i h1
    simpa using h1
noncomputable def prvB (g : Gph) (M : List Int) (c : Cvr) : Bool := decide (wgtE g c = 0) && isM g.L g.R g.E M && decide ((M.length : Int) = wgtW g c)
set_option maxHeartbeats 4000000 in
set_option maxRecDepth 100000 in
theorem prv_any (g : Gph) (c : Cvr) (w : World) (hg : GpAt w g) (hc : CvAt w c) {a : Option Addr} {b off len cap : Nat} {M : List Int} (hM : SlI w a b off len cap M) :
    Calls Try.prog 22 #[g.val, .slice a len cap, c.val] w fun e w' => e = .returned (.bool (prvB g M c)) ∧ Below w.heap.size w w' := by
  have HB := Lib.hid (((Below.refl w.heap.size w).alloc (Nat.le_refl _) (gBox g)).alloc (by simp) (cBox c))
  have HGB := Lib.hid ((gb_new w g 25).keep ((Below.refl (w.alloc (gBox g)).heap.size (w.alloc (gBox g))).alloc (Nat.le_refl _) (cBox c)))
  have HCB := Lib.hid (show CbAt ((w.alloc (gBox g)).alloc (cBox c)) (w.heap.size + 1) c by have := cb_new (w.alloc (gBox g)) c 36; simpa using this)
  have HK := Lib.hid (wgt_any g c _ (hg.keep HB.out) (hc.keep HB.out))
  have HG := Lib.hid (hg.keep HB.out)
  have HM := Lib.hid (hM.keep HB.out)
  have HMl := Lib.hid hM.hl
  have HMt := Lib.hid (fun (h : wgtE g c = 0) W hb => mat_any g W (HG.out.keep hb) (wgtE_chk h) (HM.out.keep hb))
  have hs0 : w.heap.size ≤ ((w.alloc (gBox g)).alloc (cBox c)).heap.size := HB.out.size
  have HE := Lib.hid (show prvB g M c = (decide (wgtE g c = 0) && isM g.L g.R g.E M && decide ((M.length : Int) = wgtW g c)) from rfl)
  clear hg hc hM HG HM
  unfold Gph.val at HK HMt ⊢
  unfold Cvr.val at HK ⊢
  rw [HMl.out] at HE
  generalize prvB g M c = r at *
  generalize isM g.L g.R g.E M = m at *
  generalize wgtE g c = f at *
  generalize wgtW g c = v at *
  obtain ⟨g0, g1, g2, gl⟩ := HGB.out
  obtain ⟨d0, d1, dl⟩ := HCB.out
  by_cases h : f = 0
  · have HT := Lib.hid (HMt.out h)
    subst h
    clear HMt
    cases m with
    | false =>
      have HN := Lib.hid (show r = false by rw [HE.out]; simp)
      go_enter Try.func22, Try.ntmps22
      go_wp2_with fail
      refine HK.out.mono ?_
      rintro e w1 ⟨rfl, hb1⟩
      have HB1 := Lib.hid (HB.out.trans (hb1.mono hs0))
      have HGB1 := Lib.hid (HGB.out.keep hb1)
      have HT1 := Lib.hid (HT.out w1 hb1)
      have hs1 : w.heap.size ≤ w1.heap.size := HB1.out.size
      clear hb1 g0 g1 g2 gl d0 d1 dl HT HGB HCB HK HB
      obtain ⟨g0, g1, g2, gl⟩ := HGB1.out
      go_wp2_with fail
      refine HT1.out.mono ?_
      rintro e w2 ⟨rfl, hb2⟩
      have HB2 := Lib.hid (HB1.out.trans (hb2.mono hs1))
      clear hb2
      go_wp2_with fail
      go_ret
      exact ⟨ret_bool HN.out.symm, HB2.out⟩
    | true =>
      have HN := Lib.hid (show decide ((len : Int) = v) = r by rw [HE.out]; simp)
      go_enter Try.func22, Try.ntmps22
      go_wp2_with fail
      refine HK.out.mono ?_
      rintro e w1 ⟨rfl, hb1⟩
      have HB1 := Lib.hid (HB.out.trans (hb1.mono hs0))
      have HGB1 := Lib.hid (HGB.out.keep hb1)
      have HT1 := Lib.hid (HT.out w1 hb1)
      have hs1 : w.heap.size ≤ w1.heap.size := HB1.out.size
      clear hb1 g0 g1 g2 gl d0 d1 dl HT HGB HCB HK HB
      obtain ⟨g0, g1, g2, gl⟩ := HGB1.out
      go_wp2_with fail
      refine HT1.out.mono ?_
      rintro e w2 ⟨rfl, hb2⟩
      have HB2 := Lib.hid (HB1.out.trans (hb2.mono hs1))
      clear hb2
      go_wp2_with fail
      go_ret
      exact ⟨ret_bool (by rw [← HN.out]; rfl), HB2.out⟩
  · have h2 : (f == 0) = false := by simpa using h
    have HN := Lib.hid (show r = false by rw [HE.out, decide_eq_false h]; rfl)
    clear HMt HE
    go_enter Try.func22, Try.ntmps22
    go_wp2_with fail
    refine HK.out.mono ?_
    rintro e w1 ⟨rfl, hb1⟩
    have HB1 := Lib.hid (HB.out.trans (hb1.mono hs0))
    clear hb1
    go_wp2_with fail
    go_ret
    exact ⟨ret_bool HN.out.symm, HB1.out⟩
end Go.Proofs.Ytpcdbnlljdfogaa
