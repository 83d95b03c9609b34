/- Contracts of layer 20: Item, Full. -/
import Derived.Test.YtlleebgkglbelaaPrf
set_option linter.unusedSimpArgs false
set_option linter.unusedVariables false
namespace Go.Proofs.Ytlleebgkglbelaa
open Go.RowKit

theorem st_rg {w w1 : World} {b : Nat} {x : Rg} (hB : Below w.heap.size w w1) (h : RgAt w1 b x) (hb : w.heap.size ≤ b) (y : Rg) (o : Obj) : RgAt ((((((((w1.setCell ⟨b, 0, none⟩ (.bool y.k)).setCell ⟨b, 1, none⟩ (.string y.c)).setCell ⟨b, 2, none⟩ (.string y.g)).setCell ⟨b, 3, none⟩ (.string y.s)).setCell ⟨b, 4, none⟩ (.int .i64 y.n)).setCell ⟨b, 5, none⟩ (.bool y.r)).setCell ⟨b, 6, none⟩ (.bool y.j)).alloc o) b y ∧ Below w.heap.size w ((((((((w1.setCell ⟨b, 0, none⟩ (.bool y.k)).setCell ⟨b, 1, none⟩ (.string y.c)).setCell ⟨b, 2, none⟩ (.string y.g)).setCell ⟨b, 3, none⟩ (.string y.s)).setCell ⟨b, 4, none⟩ (.int .i64 y.n)).setCell ⟨b, 5, none⟩ (.bool y.r)).setCell ⟨b, 6, none⟩ (.bool y.j)).alloc o) := by
  refine ⟨(rg_set h y).keep ((Below.refl _ _).alloc (Nat.le_refl _) _), ?_⟩
  have h2 : Below w.heap.size w (((((((w1.setCell ⟨b, 0, none⟩ (.bool y.k)).setCell ⟨b, 1, none⟩ (.string y.c)).setCell ⟨b, 2, none⟩ (.string y.g)).setCell ⟨b, 3, none⟩ (.string y.s)).setCell ⟨b, 4, none⟩ (.int .i64 y.n)).setCell ⟨b, 5, none⟩ (.bool y.r)).setCell ⟨b, 6, none⟩ (.bool y.j)) := ((((((hB.setCell hb _).setCell hb _).setCell hb _).setCell hb _).setCell hb _).setCell hb _).setCell hb _
  exact h2.alloc h2.size _
/-- what an item is worth -/
def itemS (L : List El) (x : It) : Rg :=
  if (perfE L x).2 = 0 then ⟨true, (perfE L x).1.c, (perfE L x).1.g, (perfE L x).1.s, (perfE L x).1.n, x.r, x.j⟩ else ⟨false, ⟨#[]⟩, ⟨#[]⟩, ⟨#[]⟩, 0, false, x.j⟩
def RgPost (w : World) (y : Rg) (e : Ending) (w' : World) : Prop := e = .returned y.val ∧ Below w.heap.size w w'
set_option maxHeartbeats 4000000 in
set_option maxRecDepth 100000 in
theorem item_any {w : World} {c : Ct} (h : CtOk w c) (hE : c.E.length ≤ 1000000) (x : It) (hs : x.c.size ≤ maxLen) : Calls Try.prog 13 #[c.val, x.val] w (RgPost w (itemS c.E x)) := by
  have HOK := Lib.hid h
  have HLO := Lib.hid (fun W (hW : CtOk W c) => performed_any hW hE x hs)
  have HN := ct_new w c 27
  have HI := it_new (w.alloc (.cells #[.slice c.ag c.ng c.cg, .slice c.ak c.nk c.ck, .slice c.ae c.ne c.ce, .slice c.ac c.nc c.cc] 27)) x 29
  rw [World.size_alloc] at HI
  have HZ := rg_new ((w.alloc (.cells #[.slice c.ag c.ng c.cg, .slice c.ak c.nk c.ck, .slice c.ae c.ne c.ce, .slice c.ac c.nc c.cc] 27)).alloc (.cells #[.string x.c, .int .i64 x.d, .bool x.r, .bool x.v, .bool x.j] 29)) Rg.zero 35
  rw [World.size_alloc, World.size_alloc] at HZ
  replace HI := Lib.hid (show ItAt (((w.alloc (.cells #[.slice c.ag c.ng c.cg, .slice c.ak c.nk c.ck, .slice c.ae c.ne c.ce, .slice c.ac c.nc c.cc] 27)).alloc (.cells #[.string x.c, .int .i64 x.d, .bool x.r, .bool x.v, .bool x.j] 29)).alloc (.cells #[.bool Rg.zero.k, .string Rg.zero.c, .string Rg.zero.g, .string Rg.zero.s, .int .i64 Rg.zero.n, .bool Rg.zero.r, .bool Rg.zero.j] 35)) _ _ from HI.keep ((Below.refl _ _).alloc (Nat.le_refl _) _))
  replace HN := Lib.hid (show CtAt (((w.alloc (.cells #[.slice c.ag c.ng c.cg, .slice c.ak c.nk c.ck, .slice c.ae c.ne c.ce, .slice c.ac c.nc c.cc] 27)).alloc (.cells #[.string x.c, .int .i64 x.d, .bool x.r, .bool x.v, .bool x.j] 29)).alloc (.cells #[.bool Rg.zero.k, .string Rg.zero.c, .string Rg.zero.g, .string Rg.zero.s, .int .i64 Rg.zero.n, .bool Rg.zero.r, .bool Rg.zero.j] 35)) _ _ from (HN.keep (show Below _ _ ((w.alloc (.cells #[.slice c.ag c.ng c.cg, .slice c.ak c.nk c.ck, .slice c.ae c.ne c.ce, .slice c.ac c.nc c.cc] 27)).alloc (.cells #[.string x.c, .int .i64 x.d, .bool x.r, .bool x.v, .bool x.j] 29)) from ((Below.refl _ _).alloc (Nat.le_refl _) _))).keep ((Below.refl _ _).alloc (Nat.le_refl _) _))
  replace HZ := Lib.hid HZ
  have HB0 := Lib.hid (show Below w.heap.size w (((w.alloc (.cells #[.slice c.ag c.ng c.cg, .slice c.ak c.nk c.ck, .slice c.ae c.ne c.ce, .slice c.ac c.nc c.cc] 27)).alloc (.cells #[.string x.c, .int .i64 x.d, .bool x.r, .bool x.v, .bool x.j] 29)).alloc (.cells #[.bool Rg.zero.k, .string Rg.zero.c, .string Rg.zero.g, .string Rg.zero.s, .int .i64 Rg.zero.n, .bool Rg.zero.r, .bool Rg.zero.j] 35)) from (by repeat (first | with_reducible exact Below.refl _ _ | (with_reducible refine Below.setCell ?_ (by first | exact Nat.le_refl _ | omega | (simp; done) | (simp; omega)) _) | (with_reducible refine Below.alloc ?_ (by first | exact Nat.le_refl _ | omega | (simp; done) | (simp; omega)) _) | with_reducible refine Below.drew ?_ | with_reducible refine bel_drewN ?_ _ | (with_reducible refine bel_by (by with_reducible assumption) (by first | exact Nat.le_refl _ | omega | (simp; done) | (simp; omega)) ?_))))
  unfold RgPost itemS
  unfold EnPost at HLO
  obtain ⟨y, hy⟩ : ∃ y, perfE c.E x = y := ⟨_, rfl⟩
  rw [hy] at HLO ⊢
  clear hy h hE
  obtain ⟨p, hp⟩ : ∃ p : Rg, (if y.2 = 0 then ⟨true, y.1.c, y.1.g, y.1.s, y.1.n, x.r, x.j⟩ else ⟨false, ⟨#[]⟩, ⟨#[]⟩, ⟨#[]⟩, 0, false, x.j⟩) = p := ⟨_, rfl⟩
  rw [hp]
  have HP := Lib.hid hp
  clear hp
  unfold Ct.val It.val at HLO ⊢
  obtain ⟨ag, bg, og, ng, cg, ak, bk, ok, nk, ck, ae, be, oe, ne, ce, ac, bc, oc, nc, cc, G, K, E, X⟩ := c
  obtain ⟨xc, xd, xr, xv, xj⟩ := x
  obtain ⟨⟨yc, yg, yn, ys, yl⟩, ye⟩ := y
  simp only [Rg.zero, El.val] at HLO HN HI HZ HB0 HP hs ⊢
  go_enter Try.func13, Try.ntmps13
  go_wp2_with fail
  obtain ⟨z0, z1, z2, z3, zf, zl⟩ := HN.out
  obtain ⟨i0, i1, i2, i3, i4, iff, il⟩ := HI.out
  simp only at z0 z1 z2 z3 i0 i1 i2 i3 i4
  go_wp2_with fail
  refine (HLO.out _ (HOK.out.keep HB0.out)).mono ?_
  rintro e w1 ⟨rfl, hb1⟩
  have HB1 := Lib.hid (HB0.out.trans (hb1.mono HB0.out.size))
  have HZ1 := Lib.hid (HZ.out.keep hb1)
  have HI1 := Lib.hid (HI.out.keep hb1)
  have hsz1 : w.heap.size + 1 + 1 < w1.heap.size := HZ1.out.lt
  clear hb1 HB0 z0 z1 z2 z3 zf zl HN HZ i0 i1 i2 i3 i4 iff il HI
  have HV := Lib.hid (el_new w1 ⟨yc, yg, yn, ys, yl⟩ 66)
  obtain ⟨i0, i1, i2, i3, i4, iff, il⟩ := HI1.out
  obtain ⟨u0, u1, u2, u3, u4, u5, u6, uf, ul⟩ := HZ1.out
  obtain ⟨v0, v1, v2, v3, v4, vf, vl⟩ := HV.out
  simp only at i0 i1 i2 i3 i4 v0 v1 v2 v3 v4 u0 u1 u2 u3 u4 u5 u6
  by_cases h0 : ye = 0
  · have hp := HP.out
    rw [if_pos h0] at hp
    have HQ := Lib.hid hp
    clear hp
    subst h0
    go_wp2_with fail
    change bodyPost _ _ _ _ _ ((((((((w1.setCell ⟨w.heap.size + 1 + 1, 0, none⟩ (.bool true)).setCell ⟨w.heap.size + 1 + 1, 1, none⟩ (.string yc)).setCell ⟨w.heap.size + 1 + 1, 2, none⟩ (.string yg)).setCell ⟨w.heap.size + 1 + 1, 3, none⟩ (.string ys)).setCell ⟨w.heap.size + 1 + 1, 4, none⟩ (.int .i64 yn)).setCell ⟨w.heap.size + 1 + 1, 5, none⟩ (.bool xr)).setCell ⟨w.heap.size + 1 + 1, 6, none⟩ (.bool xj)).alloc (.cells #[.string yc, .string yg, .int .i64 yn, .string ys, .string yl] 66))
    obtain ⟨HF, HB5⟩ := st_rg HB1.out HZ1.out (show w.heap.size ≤ w.heap.size + 1 + 1 by omega) ⟨true, yc, yg, ys, yn, xr, xj⟩ (.cells #[.string yc, .string yg, .int .i64 yn, .string ys, .string yl] 66)
    simp only at HF HB5
    generalize ((((((((w1.setCell ⟨w.heap.size + 1 + 1, 0, none⟩ (.bool true)).setCell ⟨w.heap.size + 1 + 1, 1, none⟩ (.string yc)).setCell ⟨w.heap.size + 1 + 1, 2, none⟩ (.string yg)).setCell ⟨w.heap.size + 1 + 1, 3, none⟩ (.string ys)).setCell ⟨w.heap.size + 1 + 1, 4, none⟩ (.int .i64 yn)).setCell ⟨w.heap.size + 1 + 1, 5, none⟩ (.bool xr)).setCell ⟨w.heap.size + 1 + 1, 6, none⟩ (.bool xj)).alloc (.cells #[.string yc, .string yg, .int .i64 yn, .string ys, .string yl] 66)) = W5 at HF HB5 ⊢
    obtain ⟨f0, f1, f2, f3, f4, f5, f6, ff, fl⟩ := HF
    simp only at f0 f1 f2 f3 f4 f5 f6
    refine bodyPost_ret (v := .agg #[.bool true, .string yc, .string yg, .string ys, .int .i64 yn, .bool xr, .bool xj]) (by simp [results, Try.results13, go_sem, f0, f1, f2, f3, f4, f5, f6]) rfl ?_
    exact ⟨by rw [← HQ.out]; rfl, HB5⟩
  · have hp := HP.out
    rw [if_neg h0] at hp
    have HQ := Lib.hid hp
    clear hp
    have k0 : (ye == 0) = false := by simpa using h0
    have k1 : (ye != 0) = true := by simpa using h0
    clear h0
    go_wp2_with fail
    change bodyPost _ _ _ _ _ ((((((((w1.setCell ⟨w.heap.size + 1 + 1, 0, none⟩ (.bool false)).setCell ⟨w.heap.size + 1 + 1, 1, none⟩ (.string ⟨#[]⟩)).setCell ⟨w.heap.size + 1 + 1, 2, none⟩ (.string ⟨#[]⟩)).setCell ⟨w.heap.size + 1 + 1, 3, none⟩ (.string ⟨#[]⟩)).setCell ⟨w.heap.size + 1 + 1, 4, none⟩ (.int .i64 0)).setCell ⟨w.heap.size + 1 + 1, 5, none⟩ (.bool false)).setCell ⟨w.heap.size + 1 + 1, 6, none⟩ (.bool xj)).alloc (.cells #[.string yc, .string yg, .int .i64 yn, .string ys, .string yl] 66))
    obtain ⟨HF, HB5⟩ := st_rg HB1.out HZ1.out (show w.heap.size ≤ w.heap.size + 1 + 1 by omega) ⟨false, ⟨#[]⟩, ⟨#[]⟩, ⟨#[]⟩, 0, false, xj⟩ (.cells #[.string yc, .string yg, .int .i64 yn, .string ys, .string yl] 66)
    simp only at HF HB5
    generalize ((((((((w1.setCell ⟨w.heap.size + 1 + 1, 0, none⟩ (.bool false)).setCell ⟨w.heap.size + 1 + 1, 1, none⟩ (.string ⟨#[]⟩)).setCell ⟨w.heap.size + 1 + 1, 2, none⟩ (.string ⟨#[]⟩)).setCell ⟨w.heap.size + 1 + 1, 3, none⟩ (.string ⟨#[]⟩)).setCell ⟨w.heap.size + 1 + 1, 4, none⟩ (.int .i64 0)).setCell ⟨w.heap.size + 1 + 1, 5, none⟩ (.bool false)).setCell ⟨w.heap.size + 1 + 1, 6, none⟩ (.bool xj)).alloc (.cells #[.string yc, .string yg, .int .i64 yn, .string ys, .string yl] 66)) = W5 at HF HB5 ⊢
    obtain ⟨f0, f1, f2, f3, f4, f5, f6, ff, fl⟩ := HF
    simp only at f0 f1 f2 f3 f4 f5 f6
    refine bodyPost_ret (v := .agg #[.bool false, .string ⟨#[]⟩, .string ⟨#[]⟩, .string ⟨#[]⟩, .int .i64 0, .bool false, .bool xj]) (by simp [results, Try.results13, go_sem, f0, f1, f2, f3, f4, f5, f6]) rfl ?_
    exact ⟨by rw [← HQ.out]; rfl, HB5⟩

/-- an item without marks -/
def bareI (x : It) : It := ⟨x.c, 0, false, false, x.j⟩
end Go.Proofs.Ytlleebgkglbelaa
