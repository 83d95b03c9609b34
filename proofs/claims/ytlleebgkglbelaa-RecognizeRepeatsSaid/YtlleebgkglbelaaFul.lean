/- Contract of layer 20: Full. -/
import Derived.Test.YtlleebgkglbelaaIts
set_option linter.unusedSimpArgs false
set_option linter.unusedVariables false
namespace Go.Proofs.Ytlleebgkglbelaa
open Go.RowKit

theorem st_rg0 {w w1 : World} {b : Nat} {x : Rg} (hB : Below w.heap.size w w1) (h : RgAt w1 b x) (hb : w.heap.size ≤ b) (y : Rg) : RgAt (((((((w1.setCell ⟨b, 0, none⟩ (.bool y.k)).setCell ⟨b, 1, none⟩ (.string y.c)).setCell ⟨b, 2, none⟩ (.string y.g)).setCell ⟨b, 3, none⟩ (.string y.s)).setCell ⟨b, 4, none⟩ (.int .i64 y.n)).setCell ⟨b, 5, none⟩ (.bool y.r)).setCell ⟨b, 6, none⟩ (.bool y.j)) b y ∧ Below w.heap.size w (((((((w1.setCell ⟨b, 0, none⟩ (.bool y.k)).setCell ⟨b, 1, none⟩ (.string y.c)).setCell ⟨b, 2, none⟩ (.string y.g)).setCell ⟨b, 3, none⟩ (.string y.s)).setCell ⟨b, 4, none⟩ (.int .i64 y.n)).setCell ⟨b, 5, none⟩ (.bool y.r)).setCell ⟨b, 6, none⟩ (.bool y.j)) := by
  refine ⟨rg_set h y, ?_⟩
  exact ((((((hB.setCell hb _).setCell hb _).setCell hb _).setCell hb _).setCell hb _).setCell hb _).setCell hb _
set_option maxHeartbeats 4000000 in
set_option maxRecDepth 100000 in
theorem full_any {w : World} {c : Ct} (h : CtOk w c) (hE : c.E.length ≤ 1000000) (x : It) (hs : x.c.size ≤ maxLen) : Calls Try.prog 15 #[c.val, x.val] w (RgPost w (itemS c.E (bareI x))) := by
  have HOK := Lib.hid h
  have HLO := Lib.hid (fun W (hW : CtOk W c) => item_any hW hE (bareI x) hs)
  have HN := ct_new w c 27
  have HI := it_new (w.alloc (.cells #[.slice c.ag c.ng c.cg, .slice c.ak c.nk c.ck, .slice c.ae c.ne c.ce, .slice c.ac c.nc c.cc] 27)) x 29
  rw [World.size_alloc] at HI
  have HZ := rg_new ((w.alloc (.cells #[.slice c.ag c.ng c.cg, .slice c.ak c.nk c.ck, .slice c.ae c.ne c.ce, .slice c.ac c.nc c.cc] 27)).alloc (.cells #[.string x.c, .int .i64 x.d, .bool x.r, .bool x.v, .bool x.j] 29)) Rg.zero 35
  rw [World.size_alloc, World.size_alloc] at HZ
  replace HI := Lib.hid (show ItAt (((w.alloc (.cells #[.slice c.ag c.ng c.cg, .slice c.ak c.nk c.ck, .slice c.ae c.ne c.ce, .slice c.ac c.nc c.cc] 27)).alloc (.cells #[.string x.c, .int .i64 x.d, .bool x.r, .bool x.v, .bool x.j] 29)).alloc (.cells #[.bool Rg.zero.k, .string Rg.zero.c, .string Rg.zero.g, .string Rg.zero.s, .int .i64 Rg.zero.n, .bool Rg.zero.r, .bool Rg.zero.j] 35)) _ _ from HI.keep ((Below.refl _ _).alloc (Nat.le_refl _) _))
  replace HN := Lib.hid (show CtAt (((w.alloc (.cells #[.slice c.ag c.ng c.cg, .slice c.ak c.nk c.ck, .slice c.ae c.ne c.ce, .slice c.ac c.nc c.cc] 27)).alloc (.cells #[.string x.c, .int .i64 x.d, .bool x.r, .bool x.v, .bool x.j] 29)).alloc (.cells #[.bool Rg.zero.k, .string Rg.zero.c, .string Rg.zero.g, .string Rg.zero.s, .int .i64 Rg.zero.n, .bool Rg.zero.r, .bool Rg.zero.j] 35)) _ _ from (HN.keep (show Below _ _ ((w.alloc (.cells #[.slice c.ag c.ng c.cg, .slice c.ak c.nk c.ck, .slice c.ae c.ne c.ce, .slice c.ac c.nc c.cc] 27)).alloc (.cells #[.string x.c, .int .i64 x.d, .bool x.r, .bool x.v, .bool x.j] 29)) from ((Below.refl _ _).alloc (Nat.le_refl _) _))).keep ((Below.refl _ _).alloc (Nat.le_refl _) _))
  replace HZ := Lib.hid HZ
  have HB0 := Lib.hid (show Below w.heap.size w (((w.alloc (.cells #[.slice c.ag c.ng c.cg, .slice c.ak c.nk c.ck, .slice c.ae c.ne c.ce, .slice c.ac c.nc c.cc] 27)).alloc (.cells #[.string x.c, .int .i64 x.d, .bool x.r, .bool x.v, .bool x.j] 29)).alloc (.cells #[.bool Rg.zero.k, .string Rg.zero.c, .string Rg.zero.g, .string Rg.zero.s, .int .i64 Rg.zero.n, .bool Rg.zero.r, .bool Rg.zero.j] 35)) from (by repeat (first | with_reducible exact Below.refl _ _ | (with_reducible refine Below.setCell ?_ (by first | exact Nat.le_refl _ | omega | (simp; done) | (simp; omega)) _) | (with_reducible refine Below.alloc ?_ (by first | exact Nat.le_refl _ | omega | (simp; done) | (simp; omega)) _) | with_reducible refine Below.drew ?_ | with_reducible refine bel_drewN ?_ _ | (with_reducible refine bel_by (by with_reducible assumption) (by first | exact Nat.le_refl _ | omega | (simp; done) | (simp; omega)) ?_))))
  unfold RgPost at HLO ⊢
  obtain ⟨y, hy⟩ : ∃ y, itemS c.E (bareI x) = y := ⟨_, rfl⟩
  rw [hy] at HLO ⊢
  clear hy h hE
  unfold bareI at HLO
  unfold Ct.val It.val at HLO ⊢
  obtain ⟨ag, bg, og, ng, cg, ak, bk, ok, nk, ck, ae, be, oe, ne, ce, ac, bc, oc, nc, cc, G, K, E, X⟩ := c
  obtain ⟨xc, xd, xr, xv, xj⟩ := x
  obtain ⟨yk, yc, yg, ys, yn, yr, yj⟩ := y
  simp only [Rg.zero, Rg.val] at HLO HN HI HZ HB0 hs ⊢
  go_enter Try.func15, Try.ntmps15
  go_wp2_with fail
  obtain ⟨z0, z1, z2, z3, zf, zl⟩ := HN.out
  obtain ⟨i0, i1, i2, i3, i4, iff, il⟩ := HI.out
  simp only at z0 z1 z2 z3 i0 i1 i2 i3 i4
  go_wp2_with fail
  refine (HLO.out _ (HOK.out.keep HB0.out)).mono ?_
  rintro e w1 ⟨rfl, hb1⟩
  have HB1 := Lib.hid (HB0.out.trans (hb1.mono HB0.out.size))
  have HZ1 := Lib.hid (HZ.out.keep hb1)
  clear hb1 HB0 z0 z1 z2 z3 zf zl HN HZ i0 i1 i2 i3 i4 iff il HI
  obtain ⟨u0, u1, u2, u3, u4, u5, u6, uf, ul⟩ := HZ1.out
  simp only at u0 u1 u2 u3 u4 u5 u6
  go_wp2_with fail
  change bodyPost _ _ _ _ _ (((((((w1.setCell ⟨w.heap.size + 1 + 1, 0, none⟩ (.bool yk)).setCell ⟨w.heap.size + 1 + 1, 1, none⟩ (.string yc)).setCell ⟨w.heap.size + 1 + 1, 2, none⟩ (.string yg)).setCell ⟨w.heap.size + 1 + 1, 3, none⟩ (.string ys)).setCell ⟨w.heap.size + 1 + 1, 4, none⟩ (.int .i64 yn)).setCell ⟨w.heap.size + 1 + 1, 5, none⟩ (.bool yr)).setCell ⟨w.heap.size + 1 + 1, 6, none⟩ (.bool yj))
  obtain ⟨HF, HB5⟩ := st_rg0 HB1.out HZ1.out (show w.heap.size ≤ w.heap.size + 1 + 1 by omega) ⟨yk, yc, yg, ys, yn, yr, yj⟩
  simp only at HF HB5
  generalize (((((((w1.setCell ⟨w.heap.size + 1 + 1, 0, none⟩ (.bool yk)).setCell ⟨w.heap.size + 1 + 1, 1, none⟩ (.string yc)).setCell ⟨w.heap.size + 1 + 1, 2, none⟩ (.string yg)).setCell ⟨w.heap.size + 1 + 1, 3, none⟩ (.string ys)).setCell ⟨w.heap.size + 1 + 1, 4, none⟩ (.int .i64 yn)).setCell ⟨w.heap.size + 1 + 1, 5, none⟩ (.bool yr)).setCell ⟨w.heap.size + 1 + 1, 6, none⟩ (.bool yj)) = W5 at HF HB5 ⊢
  obtain ⟨f0, f1, f2, f3, f4, f5, f6, ff, fl⟩ := HF
  simp only at f0 f1 f2 f3 f4 f5 f6
  refine bodyPost_ret (v := .agg #[.bool yk, .string yc, .string yg, .string ys, .int .i64 yn, .bool yr, .bool yj]) (by simp [results, Try.results15, go_sem, f0, f1, f2, f3, f4, f5, f6]) rfl ?_
  exact ⟨rfl, HB5⟩
end Go.Proofs.Ytlleebgkglbelaa
