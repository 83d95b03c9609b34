/- The contract of matching.Is. -/
import Derived.Test.YtpcdbnlljdfogaaMat
set_option linter.unusedSimpArgs false
set_option linter.unusedVariables false
namespace Go.Proofs.Ytpcdbnlljdfogaa
open Go.RowKit

def isB (g : Gph) (M : List Int) : Bool := decide (chk g = 0) && isM g.L g.R g.E M
set_option maxHeartbeats 1000000 in
set_option maxRecDepth 100000 in
theorem is_any (g : Gph) (w : World) (hg : GpAt w g) {a : Option Addr} {b off len cap : Nat} {M : List Int} (hM : SlI w a b off len cap M) :
    Calls Try.prog 15 #[g.val, .slice a len cap] w fun e w' => e = .returned (.bool (isB g M)) ∧ Below w.heap.size w w' := by
  have HB := Lib.hid ((Below.refl w.heap.size w).alloc (Nat.le_refl _) (.cells #[.slice g.aL g.L.length g.cL, .slice g.aR g.R.length g.cR, .slice g.aE g.E.length g.cE] 25))
  have HGB := Lib.hid (gb_new w g 25)
  have HC := Lib.hid (check_any g _ (hg.keep HB.out))
  have HG := Lib.hid (hg.keep HB.out)
  have HM := Lib.hid (hM.keep HB.out)
  have HMt := Lib.hid (fun (hc : chk g = 0) W hb => mat_any g W (HG.out.keep hb) hc (HM.out.keep hb))
  have gl0 : w.heap.size < (w.alloc (.cells #[.slice g.aL g.L.length g.cL, .slice g.aR g.R.length g.cR, .slice g.aE g.E.length g.cE] 25)).heap.size := HGB.out.lt
  have HE := Lib.hid (show isB g M = (decide (chk g = 0) && isM g.L g.R g.E M) from rfl)
  clear hg hM HG HM
  unfold Gph.val at HC HMt ⊢
  generalize isB g M = r at *
  generalize isM g.L g.R g.E M = m at *
  generalize chk g = c at *
  obtain ⟨g0, g1, g2, gl⟩ := HGB.out
  by_cases h : c = 0
  · have HT := Lib.hid (HMt.out h)
    subst h
    clear HMt
    go_enter Try.func15, Try.ntmps15
    go_wp2_with fail
    refine HC.out.mono ?_
    rintro e w1 ⟨rfl, hb1⟩
    have HB1 := Lib.hid (HB.out.trans (hb1.mono (Nat.le_of_lt gl0)))
    have HGB1 := Lib.hid (HGB.out.keep hb1)
    have HT1 := Lib.hid (HT.out w1 hb1)
    have hs1 : w.heap.size ≤ w1.heap.size := HB1.out.size
    clear hb1 g0 g1 g2 gl HT HGB HC HB
    obtain ⟨g0, g1, g2, gl⟩ := HGB1.out
    go_wp2_with fail
    refine HT1.out.mono ?_
    rintro e w2 ⟨rfl, hb2⟩
    have HB2 := Lib.hid (HB1.out.trans (hb2.mono hs1))
    clear hb2
    go_wp2_with fail
    go_ret
    exact ⟨ret_bool (by rw [HE.out]; simp), HB2.out⟩
  · have h2 : (c == 0) = false := by simpa using h
    have HN := Lib.hid (show r = false by rw [HE.out, decide_eq_false h]; rfl)
    clear HMt HE
    go_enter Try.func15, Try.ntmps15
    go_wp2_with fail
    refine HC.out.mono ?_
    rintro e w1 ⟨rfl, hb1⟩
    have HB1 := Lib.hid (HB.out.trans (hb1.mono (Nat.le_of_lt gl0)))
    clear hb1
    go_wp2_with fail
    go_ret
    exact ⟨ret_bool HN.out.symm, HB1.out⟩
end Go.Proofs.Ytpcdbnlljdfogaa
