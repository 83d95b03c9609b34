/- The law of RecognizeItems. -/
import Derived.Test.YtoiejllkdjjdnaaAwk
import Derived.Test.YtoiejllkdjjdnaaRfl
import Derived.BigQuiet
set_option linter.unusedSimpArgs false
set_option linter.unusedVariables false
namespace Go.Proofs.Ytoiejllkdjjdnaa
open Go.RowKit

set_option maxHeartbeats 8000000 in
set_option maxRecDepth 100000 in
theorem law_items (w : World) {c : Ct} (h : CtOk w c) (x : It) (hs : x.c.size ≤ maxLen) :
    Calls Try.prog 3 #[c.val, x.val] w fun e w' => e = .returned (.bool true) ∧ Below w.heap.size w w' := by
  have HOK := Lib.hid h
  have HSZ := Lib.hid hs
  have HA := Lib.hid (fun W => awake_any W)
  have HFI := Lib.hid (fun W b (hc : CtOk W c) (hW : SlX W (some ⟨b, 0, none⟩) b 0 1 1 [x]) => fits_any hc hW 1)
  have HC1 := Lib.hid (fun W (hW : CtOk W c) (hE : FitE c.E) => reason_any hW (by have := hE.len; omega) x hs)
  have HC2 := Lib.hid (fun W (hW : CtOk W c) (hE : FitE c.E) => rreason_fit hW hE x hs)
  have HC3 := Lib.hid (fun W (hW : CtOk W c) (hE : FitE c.E) => item_any hW (by have := hE.len; omega) x hs)
  have HC4 := Lib.hid (fun W (hW : CtOk W c) (hE : FitE c.E) => ritem_fit hW hE x hs)
  have HC5 := Lib.hid (fun W (hW : CtOk W c) (hE : FitE c.E) => full_any hW (by have := hE.len; omega) x hs)
  have HC6 := Lib.hid (fun W (hW : CtOk W c) (hE : FitE c.E) => rfull_any hW hE x hs)
  have HN := ct_new w c 27
  have HI := it_new (w.alloc (.cells #[.slice c.ag c.ng c.cg, .slice c.ak c.nk c.ck, .slice c.ae c.ne c.ce, .slice c.ac c.nc c.cc] 27)) x 29
  rw [World.size_alloc] at HI
  replace HN := Lib.hid (show CtAt ((w.alloc (.cells #[.slice c.ag c.ng c.cg, .slice c.ak c.nk c.ck, .slice c.ae c.ne c.ce, .slice c.ac c.nc c.cc] 27)).alloc (.cells #[.string x.c, .int .i64 x.d, .bool x.r, .bool x.v, .bool x.j] 29)) _ _ from HN.keep ((Below.refl _ _).alloc (Nat.le_refl _) _))
  replace HI := Lib.hid (show ItAt ((w.alloc (.cells #[.slice c.ag c.ng c.cg, .slice c.ak c.nk c.ck, .slice c.ae c.ne c.ce, .slice c.ac c.nc c.cc] 27)).alloc (.cells #[.string x.c, .int .i64 x.d, .bool x.r, .bool x.v, .bool x.j] 29)) _ _ from HI)
  have HB0 := Lib.hid (show Below w.heap.size w ((w.alloc (.cells #[.slice c.ag c.ng c.cg, .slice c.ak c.nk c.ck, .slice c.ae c.ne c.ce, .slice c.ac c.nc c.cc] 27)).alloc (.cells #[.string x.c, .int .i64 x.d, .bool x.r, .bool x.v, .bool x.j] 29)) from (by repeat (first | with_reducible exact Below.refl _ _ | (with_reducible refine Below.setCell ?_ (by first | exact Nat.le_refl _ | omega | (simp; done) | (simp; omega)) _) | (with_reducible refine Below.alloc ?_ (by first | exact Nat.le_refl _ | omega | (simp; done) | (simp; omega)) _) | with_reducible refine Below.drew ?_ | with_reducible refine bel_drewN ?_ _ | (with_reducible refine bel_by (by with_reducible assumption) (by first | exact Nat.le_refl _ | omega | (simp; done) | (simp; omega)) ?_))))
  have HSX := Lib.hid (show ∀ W : World, SlX (W.alloc (.cells #[.string x.c, .int .i64 x.d, .bool x.r, .bool x.v, .bool x.j] 29)) (some ⟨W.heap.size, 0, none⟩) W.heap.size 0 1 1 [x] from fun W => by
    refine ⟨rfl, fun _ => rfl, fun _ => by simp, Nat.le_refl _, (show (1 : Nat) ≤ maxLen from by unfold maxLen; decide), ?_, ?_, ?_, ?_, ?_⟩ <;> intro k hk <;> (match k, hk with | 0, _ => simp [go_sem]))
  unfold RgPost at HC3 HC4 HC5 HC6
  obtain ⟨r, hr⟩ : ∃ r, (perfE c.E x).2 = r := ⟨_, rfl⟩
  obtain ⟨y, hy⟩ : ∃ y, itemS c.E x = y := ⟨_, rfl⟩
  obtain ⟨z, hz⟩ : ∃ z, itemS c.E (bareI x) = z := ⟨_, rfl⟩
  rw [hr] at HC1 HC2
  rw [hy] at HC3 HC4
  rw [hz] at HC5 HC6
  clear h hs hr hy hz
  unfold Ct.val It.val at *
  obtain ⟨ag, bg, og, ng, cg, ak, bk, ok, nk, ck, ae, be, oe, ne, ce, ac, bc, oc, nc, cc, G, K, E, X⟩ := c
  obtain ⟨xc, xd, xr, xv, xj⟩ := x
  obtain ⟨yk, yc, yg, ys, yn, yr, yj⟩ := y
  obtain ⟨zk, zc, zg, zs, zn, zr, zj⟩ := z
  simp only [Rg.val] at HN HI HB0 HFI HC1 HC2 HC3 HC4 HC5 HC6 HSX ⊢
  go_enter Try.func3, Try.ntmps3
  go_wp2_with fail
  generalize ((w.alloc (.cells #[.slice ag ng cg, .slice ak nk ck, .slice ae ne ce, .slice ac nc cc] 27)).alloc (.cells #[.string xc, .int .i64 xd, .bool xr, .bool xv, .bool xj] 29)) = W0 at *
  refine (HA.out _).mono ?_
  rintro e w1 ⟨rfl, hb⟩
  have HB1 := Lib.hid (HB0.out.trans (hb.mono HB0.out.size))
  have HN1 := Lib.hid (HN.out.keep hb)
  have HI1 := Lib.hid (HI.out.keep hb)
  clear hb HN HI HB0 HA
  obtain ⟨z0, z1, z2, z3, zf, zl⟩ := HN1.out
  obtain ⟨i0, i1, i2, i3, i4, iff, il⟩ := HI1.out
  simp only at z0 z1 z2 z3 i0 i1 i2 i3 i4
  have HS2 := Lib.hid (HSX.out w1)
  have HBV := Lib.hid (show Below w1.heap.size w1 (w1.alloc (.cells #[.string xc, .int .i64 xd, .bool xr, .bool xv, .bool xj] 29)) from (Below.refl _ _).alloc (Nat.le_refl _) _)
  go_wp2_with fail
  have HB2 := Lib.hid (HB1.out.trans (HBV.out.mono HB1.out.size))
  refine (HFI.out _ _ (HOK.out.keep HB2.out) HS2.out).mono ?_
  rintro e w3 ⟨f, rfl, hb3, hff⟩
  have hbb := HBV.out.trans (hb3.mono HBV.out.size)
  have HB3 := Lib.hid (HB1.out.trans (hbb.mono HB1.out.size))
  have HN3 := Lib.hid (HN1.out.keep hbb)
  have HI3 := Lib.hid (HI1.out.keep hbb)
  have HOK3 := Lib.hid (HOK.out.keep HB3.out)
  have HFF := Lib.hid hff
  clear hb3 hbb hff HBV HS2 HB2 z0 z1 z2 z3 zf zl i0 i1 i2 i3 i4 iff il HN1 HI1 HFI
  cases f with
  | false =>
    go_wp2_with fail
    go_ret
    exact ⟨rfl, HB3.out⟩
  | true =>
    have hE := (HFF.out (by simp)).1
    obtain ⟨z0, z1, z2, z3, zf, zl⟩ := HN3.out
    obtain ⟨i0, i1, i2, i3, i4, iff, il⟩ := HI3.out
    simp only at z0 z1 z2 z3 i0 i1 i2 i3 i4 hE
    have a0 := fun d os => cell_regrown i0 d os
    have a1 := fun d os => cell_regrown i1 d os
    have a2 := fun d os => cell_regrown i2 d os
    have a3 := fun d os => cell_regrown i3 d os
    have a4 := fun d os => cell_regrown i4 d os
    have b0 := fun d os => cell_regrown z0 d os
    have b1 := fun d os => cell_regrown z1 d os
    have b2 := fun d os => cell_regrown z2 d os
    have b3 := fun d os => cell_regrown z3 d os
    have cQ1 := fun (d : Nat) (os : Array Obj) => Calls.regrown_of (HC1.out (Sort.grow (redrawn w3 d) os) (HOK3.out.keep (below_regrown w3 d os)) hE)
    have cQ2 := fun (d : Nat) (os : Array Obj) => Calls.regrown_of (HC2.out (Sort.grow (redrawn w3 d) os) (HOK3.out.keep (below_regrown w3 d os)) hE)
    have cQ3 := fun (d : Nat) (os : Array Obj) => Calls.regrown_of (HC3.out (Sort.grow (redrawn w3 d) os) (HOK3.out.keep (below_regrown w3 d os)) hE)
    have cQ4 := fun (d : Nat) (os : Array Obj) => Calls.regrown_of (HC4.out (Sort.grow (redrawn w3 d) os) (HOK3.out.keep (below_regrown w3 d os)) hE)
    have cQ5 := fun (d : Nat) (os : Array Obj) => Calls.regrown_of (HC5.out (Sort.grow (redrawn w3 d) os) (HOK3.out.keep (below_regrown w3 d os)) hE)
    have cQ6 := fun (d : Nat) (os : Array Obj) => Calls.regrown_of (HC6.out (Sort.grow (redrawn w3 d) os) (HOK3.out.keep (below_regrown w3 d os)) hE)
    clear hE HC1 HC2 HC3 HC4 HC5 HC6 HSX z0 z1 z2 z3 zf zl i0 i1 i2 i3 i4 iff il HFF
    have t1 : (yc.toList == yc.toList) = true := by simp
    have t2 : (yg.toList == yg.toList) = true := by simp
    have t3 : (ys.toList == ys.toList) = true := by simp
    have t4 : (zc.toList == zc.toList) = true := by simp
    have t5 : (zg.toList == zg.toList) = true := by simp
    have t6 : (zs.toList == zs.toList) = true := by simp
    go_upto_region 5 with fail
    refine wp_region_quiet_below (by kernel_rfl) (by kernel_rfl) ?_
    repeat (go_big_quiet_step (first | with_reducible exact cQ1 _ _ | with_reducible exact cQ2 _ _ | with_reducible exact cQ3 _ _ | with_reducible exact cQ4 _ _ | with_reducible exact cQ5 _ _ | with_reducible exact cQ6 _ _))
    refine wpQuiet_nil ?_
    intro _ hw'
    obtain ⟨⟨dq, osq⟩, hw''⟩ := hw'
    subst hw''
    have HBI := below_regrown w3 dq osq
    have HB7 := Lib.hid (HB3.out.trans (HBI.mono HB3.out.size))
    generalize Sort.grow (redrawn w3 dq) osq = w7 at *
    clear HBI cQ1 cQ2 cQ3 cQ4 cQ5 cQ6 a0 a1 a2 a3 a4 b0 b1 b2 b3
    go_wp2_with fail
    go_ret
    exact ⟨by first | rfl | simp, HB7.out⟩
end Go.Proofs.Ytoiejllkdjjdnaa
