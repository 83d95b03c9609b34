/- Contracts of layer 20: performed, Reason. -/
import Derived.Test.YtlleebgkglbelaaLow
set_option linter.unusedSimpArgs false
set_option linter.unusedVariables false
namespace Go.Proofs.Ytlleebgkglbelaa
open Go.RowKit

theorem st_el {w w1 : World} {b : Nat} {x : El} (hB : Below w.heap.size w w1) (h : ElAt w1 b x) (hb : w.heap.size ≤ b) (y : El) (o : Obj) : ElAt ((((((w1.setCell ⟨b, 0, none⟩ (.string y.c)).setCell ⟨b, 1, none⟩ (.string y.g)).setCell ⟨b, 2, none⟩ (.int .i64 y.n)).setCell ⟨b, 3, none⟩ (.string y.s)).setCell ⟨b, 4, none⟩ (.string y.l)).alloc o) b y ∧ Below w.heap.size w ((((((w1.setCell ⟨b, 0, none⟩ (.string y.c)).setCell ⟨b, 1, none⟩ (.string y.g)).setCell ⟨b, 2, none⟩ (.int .i64 y.n)).setCell ⟨b, 3, none⟩ (.string y.s)).setCell ⟨b, 4, none⟩ (.string y.l)).alloc o) := by
  refine ⟨(el_set h y).keep ((Below.refl _ _).alloc (Nat.le_refl _) _), ?_⟩
  have h2 := ((((((hB.setCell hb _).setCell hb _).setCell hb _).setCell hb _).setCell hb _ : Below w.heap.size w (((((w1.setCell ⟨b, 0, none⟩ (.string y.c)).setCell ⟨b, 1, none⟩ (.string y.g)).setCell ⟨b, 2, none⟩ (.int .i64 y.n)).setCell ⟨b, 3, none⟩ (.string y.s)).setCell ⟨b, 4, none⟩ (.string y.l))))
  exact h2.alloc h2.size _
/-- the element that counts, and the reason -/
def perfE (L : List El) (x : It) : El × Int :=
  if x.v = true then (El.zero, 1) else if (lowE L x.c x.d).2 = 0 then ((lowE L x.c x.d).1, 0) else if (lowE L x.c x.d).2 = 3 then (El.zero, 2) else (El.zero, 3)
set_option maxHeartbeats 4000000 in
set_option maxRecDepth 100000 in
theorem performed_any {w : World} {c : Ct} (h : CtOk w c) (hE : c.E.length ≤ 1000000) (x : It) (hs : x.c.size ≤ maxLen) : Calls Try.prog 34 #[c.val, x.val] w (EnPost w (perfE c.E x)) := by
  have HOK := Lib.hid h
  have HLO := Lib.hid (fun W (hW : CtOk W c) => lowr_any hW hE x.c hs x.d)
  have HN := ct_new w c 27
  have HI := it_new (w.alloc (.cells #[.slice c.ag c.ng c.cg, .slice c.ak c.nk c.ck, .slice c.ae c.ne c.ce, .slice c.ac c.nc c.cc] 27)) x 29
  rw [World.size_alloc] at HI
  have HZ := el_new ((w.alloc (.cells #[.slice c.ag c.ng c.cg, .slice c.ak c.nk c.ck, .slice c.ae c.ne c.ce, .slice c.ac c.nc c.cc] 27)).alloc (.cells #[.string x.c, .int .i64 x.d, .bool x.r, .bool x.v, .bool x.j] 29)) El.zero 66
  rw [World.size_alloc, World.size_alloc] at HZ
  replace HI := Lib.hid (show ItAt (((w.alloc (.cells #[.slice c.ag c.ng c.cg, .slice c.ak c.nk c.ck, .slice c.ae c.ne c.ce, .slice c.ac c.nc c.cc] 27)).alloc (.cells #[.string x.c, .int .i64 x.d, .bool x.r, .bool x.v, .bool x.j] 29)).alloc (.cells #[.string El.zero.c, .string El.zero.g, .int .i64 El.zero.n, .string El.zero.s, .string El.zero.l] 66)) _ _ from HI.keep ((Below.refl _ _).alloc (Nat.le_refl _) _))
  replace HN := Lib.hid (show CtAt (((w.alloc (.cells #[.slice c.ag c.ng c.cg, .slice c.ak c.nk c.ck, .slice c.ae c.ne c.ce, .slice c.ac c.nc c.cc] 27)).alloc (.cells #[.string x.c, .int .i64 x.d, .bool x.r, .bool x.v, .bool x.j] 29)).alloc (.cells #[.string El.zero.c, .string El.zero.g, .int .i64 El.zero.n, .string El.zero.s, .string El.zero.l] 66)) _ _ from (HN.keep (show Below _ _ ((w.alloc (.cells #[.slice c.ag c.ng c.cg, .slice c.ak c.nk c.ck, .slice c.ae c.ne c.ce, .slice c.ac c.nc c.cc] 27)).alloc (.cells #[.string x.c, .int .i64 x.d, .bool x.r, .bool x.v, .bool x.j] 29)) from ((Below.refl _ _).alloc (Nat.le_refl _) _))).keep ((Below.refl _ _).alloc (Nat.le_refl _) _))
  replace HZ := Lib.hid HZ
  have HB0 := Lib.hid (show Below w.heap.size w (((w.alloc (.cells #[.slice c.ag c.ng c.cg, .slice c.ak c.nk c.ck, .slice c.ae c.ne c.ce, .slice c.ac c.nc c.cc] 27)).alloc (.cells #[.string x.c, .int .i64 x.d, .bool x.r, .bool x.v, .bool x.j] 29)).alloc (.cells #[.string El.zero.c, .string El.zero.g, .int .i64 El.zero.n, .string El.zero.s, .string El.zero.l] 66)) from (by repeat (first | with_reducible exact Below.refl _ _ | (with_reducible refine Below.setCell ?_ (by first | exact Nat.le_refl _ | omega | (simp; done) | (simp; omega)) _) | (with_reducible refine Below.alloc ?_ (by first | exact Nat.le_refl _ | omega | (simp; done) | (simp; omega)) _) | with_reducible refine Below.drew ?_ | with_reducible refine bel_drewN ?_ _ | (with_reducible refine bel_by (by with_reducible assumption) (by first | exact Nat.le_refl _ | omega | (simp; done) | (simp; omega)) ?_))))
  unfold EnPost perfE
  unfold EnPost at HLO
  obtain ⟨y, hy⟩ : ∃ y, lowE c.E x.c x.d = y := ⟨_, rfl⟩
  rw [hy] at HLO ⊢
  clear hy h hE
  obtain ⟨p, hp⟩ : ∃ p, (if x.v = true then (El.zero, (1 : Int)) else if y.2 = 0 then (y.1, 0) else if y.2 = 3 then (El.zero, 2) else (El.zero, 3)) = p := ⟨_, rfl⟩
  rw [hp]
  have HP := Lib.hid hp
  clear hp
  unfold Ct.val at HLO ⊢
  unfold It.val
  obtain ⟨ag, bg, og, ng, cg, ak, bk, ok, nk, ck, ae, be, oe, ne, ce, ac, bc, oc, nc, cc, G, K, E, X⟩ := c
  obtain ⟨xc, xd, xr, xv, xj⟩ := x
  obtain ⟨⟨yc, yg, yn, ys, yl⟩, ye⟩ := y
  simp only [El.zero, El.val] at HLO HN HI HZ HB0 HP hs ⊢
  cases xv with
  | true =>
    go_enter Try.func34, Try.ntmps34
    go_wp2_with fail
    obtain ⟨z0, z1, z2, z3, zf, zl⟩ := HN.out
    obtain ⟨i0, i1, i2, i3, i4, iff, il⟩ := HI.out
    obtain ⟨y0, y1, y2, y3, y4, yf, yll⟩ := HZ.out
    simp only at z0 z1 z2 z3 y0 y1 y2 y3 y4 i0 i1 i2 i3 i4
    have hp := HP.out
    rw [if_pos trivial] at hp
    have hbw := HB0.out
    have HQ := Lib.hid hp
    clear hp
    go_wp2_with fail
    change bodyPost _ _ _ _ _ _
    refine bodyPost_ret (v := .tuple #[.agg #[.string ⟨#[]⟩, .string ⟨#[]⟩, .int .i64 0, .string ⟨#[]⟩, .string ⟨#[]⟩], .int .i64 1]) (by simp [results, Try.results34, go_sem, y0, y1, y2, y3, y4, yf, yll]) rfl ?_
    exact ⟨by rw [← HQ.out], (by repeat (first | with_reducible exact Below.refl _ _ | (with_reducible refine Below.setCell ?_ (by first | exact Nat.le_refl _ | omega | (simp; done) | (simp; omega)) _) | (with_reducible refine Below.alloc ?_ (by first | exact Nat.le_refl _ | omega | (simp; done) | (simp; omega)) _) | with_reducible refine Below.drew ?_ | with_reducible refine bel_drewN ?_ _ | (with_reducible refine bel_by (by with_reducible assumption) (by first | exact Nat.le_refl _ | omega | (simp; done) | (simp; omega)) ?_)))⟩
  | false =>
    go_enter Try.func34, Try.ntmps34
    go_wp2_with fail
    obtain ⟨z0, z1, z2, z3, zf, zl⟩ := HN.out
    obtain ⟨i0, i1, i2, i3, i4, iff, il⟩ := HI.out
    obtain ⟨y0, y1, y2, y3, y4, yf, yll⟩ := HZ.out
    simp only at z0 z1 z2 z3 y0 y1 y2 y3 y4 i0 i1 i2 i3 i4
    have hp := HP.out
    simp only [Bool.false_eq_true, if_false] at hp
    replace HP := Lib.hid hp
    clear hp
    go_wp2_with fail
    refine (HLO.out _ (HOK.out.keep HB0.out)).mono ?_
    rintro e w1 ⟨rfl, hb1⟩
    have HB1 := Lib.hid (HB0.out.trans (hb1.mono HB0.out.size))
    have HZ1 := Lib.hid (HZ.out.keep hb1)
    have hsz1 : w.heap.size + 1 + 1 < w1.heap.size := HZ1.out.lt
    clear hb1 HB0 z0 z1 z2 z3 zf zl y0 y1 y2 y3 y4 yf yll HN HZ i0 i1 i2 i3 i4 iff il HI
    have HV := Lib.hid (el_new w1 ⟨yc, yg, yn, ys, yl⟩ 66)
    have HZ2 := Lib.hid (show ElAt (w1.alloc (.cells #[.string yc, .string yg, .int .i64 yn, .string ys, .string yl] 66)) (w.heap.size + 1 + 1) _ from HZ1.out.keep ((Below.refl _ _).alloc (Nat.le_refl _) _))
    have HB2 := Lib.hid (show Below w.heap.size w (w1.alloc (.cells #[.string yc, .string yg, .int .i64 yn, .string ys, .string yl] 66)) from HB1.out.alloc HB1.out.size _)
    obtain ⟨y0, y1, y2, y3, y4, yf, yll⟩ := HZ2.out
    obtain ⟨u0, u1, u2, u3, u4, uf, ul⟩ := HZ1.out
    obtain ⟨v0, v1, v2, v3, v4, vf, vl⟩ := HV.out
    simp only at y0 y1 y2 y3 y4 v0 v1 v2 v3 v4 u0 u1 u2 u3 u4
    have hbw := HB2.out
    by_cases h0 : ye = 0
    · have hp := HP.out
      rw [if_pos h0] at hp
      have HQ := Lib.hid hp
      clear hp
      subst h0
      go_wp2_with fail
      change bodyPost _ _ _ _ _ ((((((w1.setCell ⟨w.heap.size + 1 + 1, 0, none⟩ (.string yc)).setCell ⟨w.heap.size + 1 + 1, 1, none⟩ (.string yg)).setCell ⟨w.heap.size + 1 + 1, 2, none⟩ (.int .i64 yn)).setCell ⟨w.heap.size + 1 + 1, 3, none⟩ (.string ys)).setCell ⟨w.heap.size + 1 + 1, 4, none⟩ (.string yl)).alloc (.cells #[.string yc, .string yg, .int .i64 yn, .string ys, .string yl] 66))
      obtain ⟨HF, HB5⟩ := st_el HB1.out HZ1.out (show w.heap.size ≤ w.heap.size + 1 + 1 by omega) ⟨yc, yg, yn, ys, yl⟩ (.cells #[.string yc, .string yg, .int .i64 yn, .string ys, .string yl] 66)
      simp only [El.zero] at HF HB5
      generalize ((((((w1.setCell ⟨w.heap.size + 1 + 1, 0, none⟩ (.string yc)).setCell ⟨w.heap.size + 1 + 1, 1, none⟩ (.string yg)).setCell ⟨w.heap.size + 1 + 1, 2, none⟩ (.int .i64 yn)).setCell ⟨w.heap.size + 1 + 1, 3, none⟩ (.string ys)).setCell ⟨w.heap.size + 1 + 1, 4, none⟩ (.string yl)).alloc (.cells #[.string yc, .string yg, .int .i64 yn, .string ys, .string yl] 66)) = W5 at HF HB5 ⊢
      obtain ⟨f0, f1, f2, f3, f4, ff, fl⟩ := HF
      simp only at f0 f1 f2 f3 f4
      refine bodyPost_ret (v := .tuple #[.agg #[.string yc, .string yg, .int .i64 yn, .string ys, .string yl], .int .i64 0]) (by simp [results, Try.results34, go_sem, f0, f1, f2, f3, f4]) rfl ?_
      exact ⟨by rw [← HQ.out], HB5⟩
    · have hp := HP.out
      rw [if_neg h0] at hp
      replace HP := Lib.hid hp
      clear hp
      have k0 : (ye == 0) = false := by simpa using h0
      by_cases h3 : ye = 3
      · have hp := HP.out
        rw [if_pos h3] at hp
        have HQ := Lib.hid hp
        clear hp h0
        subst h3
        go_wp2_with fail
        change bodyPost _ _ _ _ _ ((((((w1.setCell ⟨w.heap.size + 1 + 1, 0, none⟩ (.string ⟨#[]⟩)).setCell ⟨w.heap.size + 1 + 1, 1, none⟩ (.string ⟨#[]⟩)).setCell ⟨w.heap.size + 1 + 1, 2, none⟩ (.int .i64 0)).setCell ⟨w.heap.size + 1 + 1, 3, none⟩ (.string ⟨#[]⟩)).setCell ⟨w.heap.size + 1 + 1, 4, none⟩ (.string ⟨#[]⟩)).alloc (.cells #[.string yc, .string yg, .int .i64 yn, .string ys, .string yl] 66))
        obtain ⟨HF, HB5⟩ := st_el HB1.out HZ1.out (show w.heap.size ≤ w.heap.size + 1 + 1 by omega) El.zero (.cells #[.string yc, .string yg, .int .i64 yn, .string ys, .string yl] 66)
        simp only [El.zero] at HF HB5
        generalize ((((((w1.setCell ⟨w.heap.size + 1 + 1, 0, none⟩ (.string ⟨#[]⟩)).setCell ⟨w.heap.size + 1 + 1, 1, none⟩ (.string ⟨#[]⟩)).setCell ⟨w.heap.size + 1 + 1, 2, none⟩ (.int .i64 0)).setCell ⟨w.heap.size + 1 + 1, 3, none⟩ (.string ⟨#[]⟩)).setCell ⟨w.heap.size + 1 + 1, 4, none⟩ (.string ⟨#[]⟩)).alloc (.cells #[.string yc, .string yg, .int .i64 yn, .string ys, .string yl] 66)) = W5 at HF HB5 ⊢
        obtain ⟨f0, f1, f2, f3, f4, ff, fl⟩ := HF
        simp only at f0 f1 f2 f3 f4
        refine bodyPost_ret (v := .tuple #[.agg #[.string ⟨#[]⟩, .string ⟨#[]⟩, .int .i64 0, .string ⟨#[]⟩, .string ⟨#[]⟩], .int .i64 2]) (by simp [results, Try.results34, go_sem, f0, f1, f2, f3, f4]) rfl ?_
        exact ⟨by rw [← HQ.out], HB5⟩
      · have hp := HP.out
        rw [if_neg h3] at hp
        have HQ := Lib.hid hp
        clear hp h0
        have k3 : (ye == 3) = false := by simpa using h3
        clear h3
        go_wp2_with fail
        change bodyPost _ _ _ _ _ ((((((w1.setCell ⟨w.heap.size + 1 + 1, 0, none⟩ (.string ⟨#[]⟩)).setCell ⟨w.heap.size + 1 + 1, 1, none⟩ (.string ⟨#[]⟩)).setCell ⟨w.heap.size + 1 + 1, 2, none⟩ (.int .i64 0)).setCell ⟨w.heap.size + 1 + 1, 3, none⟩ (.string ⟨#[]⟩)).setCell ⟨w.heap.size + 1 + 1, 4, none⟩ (.string ⟨#[]⟩)).alloc (.cells #[.string yc, .string yg, .int .i64 yn, .string ys, .string yl] 66))
        obtain ⟨HF, HB5⟩ := st_el HB1.out HZ1.out (show w.heap.size ≤ w.heap.size + 1 + 1 by omega) El.zero (.cells #[.string yc, .string yg, .int .i64 yn, .string ys, .string yl] 66)
        simp only [El.zero] at HF HB5
        generalize ((((((w1.setCell ⟨w.heap.size + 1 + 1, 0, none⟩ (.string ⟨#[]⟩)).setCell ⟨w.heap.size + 1 + 1, 1, none⟩ (.string ⟨#[]⟩)).setCell ⟨w.heap.size + 1 + 1, 2, none⟩ (.int .i64 0)).setCell ⟨w.heap.size + 1 + 1, 3, none⟩ (.string ⟨#[]⟩)).setCell ⟨w.heap.size + 1 + 1, 4, none⟩ (.string ⟨#[]⟩)).alloc (.cells #[.string yc, .string yg, .int .i64 yn, .string ys, .string yl] 66)) = W5 at HF HB5 ⊢
        obtain ⟨f0, f1, f2, f3, f4, ff, fl⟩ := HF
        simp only at f0 f1 f2 f3 f4
        refine bodyPost_ret (v := .tuple #[.agg #[.string ⟨#[]⟩, .string ⟨#[]⟩, .int .i64 0, .string ⟨#[]⟩, .string ⟨#[]⟩], .int .i64 3]) (by simp [results, Try.results34, go_sem, f0, f1, f2, f3, f4]) rfl ?_
        exact ⟨by rw [← HQ.out], HB5⟩
set_option maxHeartbeats 4000000 in
set_option maxRecDepth 100000 in
theorem reason_any {w : World} {c : Ct} (h : CtOk w c) (hE : c.E.length ≤ 1000000) (x : It) (hs : x.c.size ≤ maxLen) : Calls Try.prog 11 #[c.val, x.val] w fun e w' => e = .returned (.int .i64 (perfE c.E x).2) ∧ Below w.heap.size w w' := by
  have HOK := Lib.hid h
  have HLO := Lib.hid (fun W (hW : CtOk W c) => performed_any hW hE x hs)
  have HN := ct_new w c 27
  have HI := it_new (w.alloc (.cells #[.slice c.ag c.ng c.cg, .slice c.ak c.nk c.ck, .slice c.ae c.ne c.ce, .slice c.ac c.nc c.cc] 27)) x 29
  rw [World.size_alloc] at HI
  replace HN := Lib.hid (show CtAt ((w.alloc (.cells #[.slice c.ag c.ng c.cg, .slice c.ak c.nk c.ck, .slice c.ae c.ne c.ce, .slice c.ac c.nc c.cc] 27)).alloc (.cells #[.string x.c, .int .i64 x.d, .bool x.r, .bool x.v, .bool x.j] 29)) _ _ from HN.keep ((Below.refl _ _).alloc (Nat.le_refl _) _))
  replace HI := Lib.hid (show ItAt ((w.alloc (.cells #[.slice c.ag c.ng c.cg, .slice c.ak c.nk c.ck, .slice c.ae c.ne c.ce, .slice c.ac c.nc c.cc] 27)).alloc (.cells #[.string x.c, .int .i64 x.d, .bool x.r, .bool x.v, .bool x.j] 29)) _ _ from HI)
  have HB0 := Lib.hid (show Below w.heap.size w ((w.alloc (.cells #[.slice c.ag c.ng c.cg, .slice c.ak c.nk c.ck, .slice c.ae c.ne c.ce, .slice c.ac c.nc c.cc] 27)).alloc (.cells #[.string x.c, .int .i64 x.d, .bool x.r, .bool x.v, .bool x.j] 29)) from (by repeat (first | with_reducible exact Below.refl _ _ | (with_reducible refine Below.setCell ?_ (by first | exact Nat.le_refl _ | omega | (simp; done) | (simp; omega)) _) | (with_reducible refine Below.alloc ?_ (by first | exact Nat.le_refl _ | omega | (simp; done) | (simp; omega)) _) | with_reducible refine Below.drew ?_ | with_reducible refine bel_drewN ?_ _ | (with_reducible refine bel_by (by with_reducible assumption) (by first | exact Nat.le_refl _ | omega | (simp; done) | (simp; omega)) ?_))))
  unfold EnPost at HLO
  obtain ⟨y, hy⟩ : ∃ y, perfE c.E x = y := ⟨_, rfl⟩
  rw [hy] at HLO ⊢
  clear hy h hE
  unfold Ct.val It.val at HLO ⊢
  obtain ⟨ag, bg, og, ng, cg, ak, bk, ok, nk, ck, ae, be, oe, ne, ce, ac, bc, oc, nc, cc, G, K, E, X⟩ := c
  obtain ⟨xc, xd, xr, xv, xj⟩ := x
  obtain ⟨⟨yc, yg, yn, ys, yl⟩, ye⟩ := y
  simp only [El.val] at HLO HN HI HB0 hs ⊢
  go_enter Try.func11, Try.ntmps11
  go_wp2_with fail
  obtain ⟨z0, z1, z2, z3, zf, zl⟩ := HN.out
  obtain ⟨i0, i1, i2, i3, i4, iff, il⟩ := HI.out
  simp only at z0 z1 z2 z3 i0 i1 i2 i3 i4
  go_wp2_with fail
  refine (HLO.out _ (HOK.out.keep HB0.out)).mono ?_
  rintro e w1 ⟨rfl, hb1⟩
  have HB1 := Lib.hid (HB0.out.trans (hb1.mono HB0.out.size))
  clear hb1 HB0 z0 z1 z2 z3 zf zl HN i0 i1 i2 i3 i4 iff il HI
  have HB2 := Lib.hid (show Below w.heap.size w (w1.alloc (.cells #[.string yc, .string yg, .int .i64 yn, .string ys, .string yl] 66)) from HB1.out.alloc HB1.out.size _)
  go_wp2_with fail
  go_ret
  exact ⟨rfl, HB2.out⟩
end Go.Proofs.Ytlleebgkglbelaa
