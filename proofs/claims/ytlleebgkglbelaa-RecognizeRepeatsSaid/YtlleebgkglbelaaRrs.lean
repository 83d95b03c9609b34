/- Contracts of layer 20's reference: Reason. -/
import Derived.Test.YtlleebgkglbelaaRch
import Derived.Test.YtlleebgkglbelaaFul
set_option linter.unusedSimpArgs false
set_option linter.unusedVariables false
namespace Go.Proofs.Ytlleebgkglbelaa
open Go.RowKit

/-- the reason, given the chain of the code -/
def rsn (C : List El) (x : It) : Int := if x.v = true then 1 else if C.length = 0 then 2 else if x.d < 0 ∨ x.d ≥ (C.length : Int) then 3 else 0
set_option maxHeartbeats 4000000 in
set_option maxRecDepth 100000 in
theorem rreason_any {w : World} {c : Ct} (h : CtOk w c) (x : It) {n : Nat} {C : List El} (hC : chF c.E n x.c = some C) (hl : C.length ≤ 1000000) : Calls Try.prog 12 #[c.val, x.val] w fun e w' => e = .returned (.int .i64 (rsn C x)) ∧ Below w.heap.size w w' := by
  have HOK := Lib.hid h
  have HCH := Lib.hid (fun W (hW : CtOk W c) => rchain_any hW x.c hC hl)
  have HN := ct_new w c 27
  have HI := it_new (w.alloc (.cells #[.slice c.ag c.ng c.cg, .slice c.ak c.nk c.ck, .slice c.ae c.ne c.ce, .slice c.ac c.nc c.cc] 27)) x 29
  rw [World.size_alloc] at HI
  replace HN := Lib.hid (show CtAt ((w.alloc (.cells #[.slice c.ag c.ng c.cg, .slice c.ak c.nk c.ck, .slice c.ae c.ne c.ce, .slice c.ac c.nc c.cc] 27)).alloc (.cells #[.string x.c, .int .i64 x.d, .bool x.r, .bool x.v, .bool x.j] 29)) _ _ from HN.keep ((Below.refl _ _).alloc (Nat.le_refl _) _))
  replace HI := Lib.hid (show ItAt ((w.alloc (.cells #[.slice c.ag c.ng c.cg, .slice c.ak c.nk c.ck, .slice c.ae c.ne c.ce, .slice c.ac c.nc c.cc] 27)).alloc (.cells #[.string x.c, .int .i64 x.d, .bool x.r, .bool x.v, .bool x.j] 29)) _ _ from HI)
  have HB0 := Lib.hid (show Below w.heap.size w ((w.alloc (.cells #[.slice c.ag c.ng c.cg, .slice c.ak c.nk c.ck, .slice c.ae c.ne c.ce, .slice c.ac c.nc c.cc] 27)).alloc (.cells #[.string x.c, .int .i64 x.d, .bool x.r, .bool x.v, .bool x.j] 29)) from (by repeat (first | with_reducible exact Below.refl _ _ | (with_reducible refine Below.setCell ?_ (by first | exact Nat.le_refl _ | omega | (simp; done) | (simp; omega)) _) | (with_reducible refine Below.alloc ?_ (by first | exact Nat.le_refl _ | omega | (simp; done) | (simp; omega)) _) | with_reducible refine Below.drew ?_ | with_reducible refine bel_drewN ?_ _ | (with_reducible refine bel_by (by with_reducible assumption) (by first | exact Nat.le_refl _ | omega | (simp; done) | (simp; omega)) ?_))))
  unfold RchPost at HCH
  obtain ⟨r, hr⟩ : ∃ r, rsn C x = r := ⟨_, rfl⟩
  rw [hr]
  unfold rsn at hr
  have HR := Lib.hid hr
  clear h hC hr
  unfold Ct.val It.val at *
  obtain ⟨ag, bg, og, ng, cg, ak, bk, ok, nk, ck, ae, be, oe, ne, ce, ac, bc, oc, nc, cc, G, K, E, X⟩ := c
  obtain ⟨xc, xd, xr, xv, xj⟩ := x
  simp only at HCH HN HI HB0 HR ⊢
  cases xv with
  | true =>
    have hr := HR.out
    rw [if_pos (by first | rfl | trivial)] at hr
    subst hr
    go_enter Try.func12, Try.ntmps12
    go_wp2_with fail
    obtain ⟨i0, i1, i2, i3, i4, iff, il⟩ := HI.out
    simp only at i0 i1 i2 i3 i4
    go_wp2_with fail
    go_ret
    exact ⟨rfl, HB0.out⟩
  | false =>
    have hr := HR.out
    simp only [Bool.false_eq_true, if_false] at hr
    replace HR := Lib.hid hr
    clear hr
    go_enter Try.func12, Try.ntmps12
    go_wp2_with fail
    obtain ⟨z0, z1, z2, z3, zf, zl⟩ := HN.out
    obtain ⟨i0, i1, i2, i3, i4, iff, il⟩ := HI.out
    simp only at z0 z1 z2 z3 i0 i1 i2 i3 i4
    go_wp2_with fail
    refine (HCH.out _ (HOK.out.keep HB0.out)).mono ?_
    rintro e w1 ⟨v, rfl, ho, hb1⟩
    have HB1 := Lib.hid (HB0.out.trans (hb1.mono HB0.out.size))
    have HI1 := Lib.hid (HI.out.keep hb1)
    obtain ⟨ao, cv, rfl⟩ := own_form ho
    clear hb1 ho HB0 z0 z1 z2 z3 zf zl HN i0 i1 i2 i3 i4 iff il HI
    obtain ⟨i0, i1, i2, i3, i4, iff, il⟩ := HI1.out
    simp only at i0 i1 i2 i3 i4
    by_cases h0 : C.length = 0
    · have hr := HR.out
      rw [if_pos h0] at hr
      subst hr
      have g0 : ((C.length : Int) == 0) = true := by simp [h0]
      go_wp2_with fail
      go_ret
      exact ⟨rfl, HB1.out⟩
    · have hr := HR.out
      rw [if_neg h0] at hr
      have g0 : ((C.length : Int) == 0) = false := by simpa using h0
      by_cases h1 : xd < 0
      · rw [if_pos (Or.inl h1)] at hr
        subst hr
        have g1 : decide (xd < 0) = true := decide_eq_true h1
        clear h0 h1
        go_wp2_with fail
        go_ret
        exact ⟨rfl, HB1.out⟩
      · have g1 : decide (xd < 0) = false := decide_eq_false h1
        by_cases h2 : xd ≥ (C.length : Int)
        · rw [if_pos (Or.inr h2)] at hr
          subst hr
          have g2 : decide (xd ≥ (C.length : Int)) = true := decide_eq_true h2
          clear h0 h1 h2
          go_wp2_with fail
          go_ret
          exact ⟨rfl, HB1.out⟩
        · rw [if_neg (by omega)] at hr
          subst hr
          have g2 : decide (xd ≥ (C.length : Int)) = false := decide_eq_false h2
          clear h0 h1 h2
          go_wp2_with fail
          go_ret
          exact ⟨rfl, HB1.out⟩
end Go.Proofs.Ytlleebgkglbelaa
