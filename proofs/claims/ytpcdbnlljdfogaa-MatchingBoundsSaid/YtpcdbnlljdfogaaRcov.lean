/- The reference's Covers. -/
import Derived.Test.YtpcdbnlljdfogaaRis
import Derived.Deep.QuietTactic
set_option linter.unusedSimpArgs false
set_option linter.unusedVariables false
namespace Go.Proofs.Ytpcdbnlljdfogaa
open Go.RowKit

theorem q_same {P : Program} {f : FuncId} {args : Array Value} {w : World} {v : Value} (h : Calls P f args w fun e w' => e = .returned v ∧ w = w') :
    Calls P f args w fun e w' => e = .returned v ∧ ∃ m, w' = w.drewN m :=
  h.mono (by rintro e w' ⟨rfl, rfl⟩; exact ⟨rfl, 0, rfl⟩)
set_option maxHeartbeats 2000000 in
set_option maxRecDepth 100000 in
theorem rcov_any (g : Gph) (c : Cvr) (w : World) (hg : GpAt w g) (hc : CvAt w c) :
    Calls Try.prog 25 #[g.val, c.val] w fun e w' => e = .returned (.bool (risesB g.L.length c.A && risesB g.R.length c.B)) ∧ Below w.heap.size w w' := by
  have HB := Lib.hid (((Below.refl w.heap.size w).alloc (Nat.le_refl _) (gBox g)).alloc (by simp) (cBox c))
  have HGB := Lib.hid ((gb_new w g 25).keep ((Below.refl (w.alloc (gBox g)).heap.size (w.alloc (gBox g))).alloc (Nat.le_refl _) (cBox c)))
  have HCB := Lib.hid (show CbAt ((w.alloc (gBox g)).alloc (cBox c)) (w.heap.size + 1) c by have := cb_new (w.alloc (gBox g)) c 36; simpa using this)
  have HK1 := Lib.hid (rris_any (hc.keep HB.out).a g.L.length)
  have HK2 := Lib.hid (fun W hb => rris_any ((hc.keep HB.out).b.keep (w' := W) hb) g.R.length)
  have hs0 : w.heap.size ≤ ((w.alloc (gBox g)).alloc (cBox c)).heap.size := HB.out.size
  clear hg hc
  unfold Gph.val Cvr.val
  obtain ⟨g0, g1, g2, gl⟩ := HGB.out
  obtain ⟨d0, d1, dl⟩ := HCB.out
  cases e1 : risesB g.L.length c.A with
  | false =>
    rw [e1] at HK1
    go_enter Try.func25, Try.ntmps25
    go_wp2_with fail
    refine HK1.out.mono ?_
    rintro e w1 ⟨rfl, hb1⟩
    have HB1 := Lib.hid (HB.out.trans (hb1.mono hs0))
    clear hb1
    go_wp2_with fail
    go_ret
    exact ⟨rfl, HB1.out⟩
  | true =>
    rw [e1] at HK1
    obtain ⟨r, hr⟩ : ∃ r, r = risesB g.R.length c.B := ⟨_, rfl⟩
    rw [← hr] at HK2 ⊢
    clear hr e1
    go_enter Try.func25, Try.ntmps25
    go_wp2_with fail
    refine HK1.out.mono ?_
    rintro e w1 ⟨rfl, hb1⟩
    have HB1 := Lib.hid (HB.out.trans (hb1.mono hs0))
    have HGB1 := Lib.hid (HGB.out.keep hb1)
    have HCB1 := Lib.hid (HCB.out.keep hb1)
    have HK3 := Lib.hid (HK2.out w1 hb1)
    have hs1 : w.heap.size ≤ w1.heap.size := HB1.out.size
    clear hb1 g0 g1 g2 gl d0 d1 dl HK1 HK2
    obtain ⟨g0, g1, g2, gl⟩ := HGB1.out
    obtain ⟨d0, d1, dl⟩ := HCB1.out
    go_wp2_with fail
    refine HK3.out.mono ?_
    rintro e w2 ⟨rfl, hb2⟩
    have HB2 := Lib.hid (HB1.out.trans (hb2.mono hs1))
    clear hb2
    go_wp2_with fail
    go_ret
    exact ⟨by first | rfl | simp, HB2.out⟩
end Go.Proofs.Ytpcdbnlljdfogaa
