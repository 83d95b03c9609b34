/- Contract of layer 20: Line. -/
import Derived.Test.YtlleebgkglbelaaFul
import Derived.Test.YtlleebgkglbelaaChx
set_option linter.unusedSimpArgs false
set_option linter.unusedVariables false
namespace Go.Proofs.Ytlleebgkglbelaa
open Go.RowKit

/-- what Line gives -/
def LinPost (w : World) (E : List El) (L : List It) (e : Ending) (w' : World) : Prop :=
  Below w.heap.size w w' ∧ ((chkL L ≠ 0 ∧ e = .returned (.tuple #[.slice none 0 0, .int .i64 (chkL L)])) ∨ (chkL L = 0 ∧ ∃ v, e = .returned (.tuple #[v, .int .i64 0]) ∧ w'.ownsRow w.heap.size 35 7 v (L.map (itemS E)).length (flatR (L.map (itemS E)))))
set_option maxHeartbeats 4000000 in
set_option maxRecDepth 100000 in
theorem line_any {w : World} {c : Ct} (h : CtOk w c) (hE : c.E.length ≤ 1000000) {a : Option Addr} {b off len cap : Nat} {L : List It} (hL : SlX w a b off len cap L) (hf : fitC L) (hm : len ≤ 1000000) : Calls Try.prog 17 #[c.val, .slice a len cap] w (LinPost w c.E L) := by
  obtain ⟨iz, hi, hz0, hz1, hz2⟩ := info_parts infoR
  have hl0 := hL.hl
  have HOK := Lib.hid h
  have HS := Lib.hid hL
  have HCK := Lib.hid (fun W (hW : SlX W a b off len cap L) => check_any hW hf)
  have HIT := Lib.hid (fun W (x : It) (hW : CtOk W c) (hx : x.c.size ≤ maxLen) => item_any hW hE x hx)
  have HF := Lib.hid (show ∀ (k : Nat) (h : k < L.length), (L[k]'h).c.size ≤ maxLen from fun k h => hf k h)
  have HN := Lib.hid (ct_new w c 27)
  have HB0 := Lib.hid (show Below w.heap.size w (w.alloc (.cells #[.slice c.ag c.ng c.cg, .slice c.ak c.nk c.ck, .slice c.ae c.ne c.ce, .slice c.ac c.nc c.cc] 27)) from (by repeat (first | with_reducible exact Below.refl _ _ | (with_reducible refine Below.setCell ?_ (by first | exact Nat.le_refl _ | omega | (simp; done) | (simp; omega)) _) | (with_reducible refine Below.alloc ?_ (by first | exact Nat.le_refl _ | omega | (simp; done) | (simp; omega)) _) | with_reducible refine Below.drew ?_ | with_reducible refine bel_drewN ?_ _ | (with_reducible refine bel_by (by with_reducible assumption) (by first | exact Nat.le_refl _ | omega | (simp; done) | (simp; omega)) ?_))))
  unfold RgPost at HIT
  unfold LinPost
  obtain ⟨M, hM⟩ : ∃ M, L.map (itemS c.E) = M := ⟨_, rfl⟩
  rw [hM]
  have HM := Lib.hid hM
  have hMl : M.length = len := by rw [← hM, List.length_map, hl0]
  unfold Ct.val at HIT ⊢
  obtain ⟨ag, bg, og, ng, cg, ak, bk, ok, nk, ck, ae, be, oe, ne, ce, ac, bc, oc, nc, cc, G, K, E, X⟩ := c
  simp only at HIT HN HB0 HM ⊢
  clear h hL hf hE hM
  obtain ⟨r, hr⟩ : ∃ r, chkL L = r := ⟨_, rfl⟩
  rw [hr] at HCK ⊢
  clear hr
  by_cases h0 : r = 0
  · subst h0
    go_enter Try.func17, Try.ntmps17
    go_wp2_with fail
    refine (HCK.out _ (HS.out.keep HB0.out)).mono ?_
    rintro e w1 ⟨rfl, hb1⟩
    have HB1 := Lib.hid (HB0.out.trans (hb1.mono HB0.out.size))
    have HN1 := Lib.hid (HN.out.keep hb1)
    have HN1l := HN1.out.lt
    clear hb1 HB0 HN
    go_wp2_with fail
    go_loopw [7, 17] (fun s7 s17 wr => ∃ (R : List Rg), R.length ≤ len ∧ s17 = .int .i64 (R.length : Int) ∧ Hid (wr.ownsRow (w.heap.size + 1) 35 7 s7 R.length (flatR R)) ∧ Hid (Below w.heap.size w wr) ∧ Hid (CtAt wr w.heap.size _) ∧ Hid (R = M.take R.length)) (fun _ s17 _ => (len - (intOf s17)).toNat)
    case atStart => exact ⟨[], Nat.zero_le _, rfl, Lib.hid (World.ownsRow_nil _ _ _ _), HB1, HN1, Lib.hid (by simp)⟩
    case round =>
      obtain ⟨R, hk, rfl, HO, HB, HNr, HR⟩ := hrel
      obtain ⟨ao, cv, rfl⟩ := own_form HO.out
      clear HB1 HN1 HN1l
      by_cases hlt : R.length < len
      · have hl : (R.length : Int) < (len : Int) := by omega
        have hkL : R.length < L.length := by omega
        have S := HS.out.keep HB.out
        obtain rfl := S.ha (by omega)
        have sb := S.hb (by omega)
        have c0 := S.c0 R.length hkL
        have c1 := S.c1 R.length hkL
        have c2 := S.c2 R.length hkL
        have c3 := S.c3 R.length hkL
        have c4 := S.c4 R.length hkL
        have hfx := HF.out R.length hkL
        have HX := Lib.hid (show M.take (R.length + 1) = R ++ [itemS E (L[R.length]'hkL)] by
          rw [List.take_succ_eq_append_getElem (by rw [hMl]; exact hlt), ← HR.out]
          congr 1
          have := HM.out
          subst this
          simp)
        clear S
        generalize L[R.length]'hkL = x at *
        obtain ⟨y, hy⟩ : ∃ y, itemS E x = y := ⟨_, rfl⟩
        have HIX := Lib.hid (fun W hW => HIT.out W x hW hfx)
        simp only [hy] at HIX HX
        clear hy hfx
        obtain ⟨xc, xd, xr, xv, xj⟩ := x
        obtain ⟨yk, yc, yg, ys, yn, yr, yj⟩ := y
        simp only [It.val, Rg.val] at c0 c1 c2 c3 c4 HIX
        have hszw : w.heap.size ≤ wr.heap.size := HB.out.size
        have HI := Lib.hid (it_new wr ⟨xc, xd, xr, xv, xj⟩ 29)
        have HOV := Lib.hid (HO.out.alloc (.cells #[.string xc, .int .i64 xd, .bool xr, .bool xv, .bool xj] 29))
        have HBV := Lib.hid (show Below w.heap.size w (wr.alloc (.cells #[.string xc, .int .i64 xd, .bool xr, .bool xv, .bool xj] 29)) from HB.out.alloc HB.out.size _)
        have HNV := Lib.hid (show CtAt (wr.alloc (.cells #[.string xc, .int .i64 xd, .bool xr, .bool xv, .bool xj] 29)) _ _ from HNr.out.keep ((Below.refl _ _).alloc (Nat.le_refl _) _))
        obtain ⟨i0, i1, i2, i3, i4, iff, il⟩ := HI.out
        obtain ⟨z0, z1, z2, z3, zf, zl⟩ := HNr.out
        simp only at i0 i1 i2 i3 i4 z0 z1 z2 z3
        clear HO HB HNr
        go_wp2_with fail
        refine (HIX.out _ (HOK.out.keep HBV.out)).mono ?_
        rintro e w2 ⟨rfl, hb2⟩
        have HB2 := Lib.hid (HBV.out.trans (hb2.mono HBV.out.size))
        have HO2 := Lib.hid (own_below HOV.out hb2)
        have HN2 := Lib.hid (HNV.out.keep hb2)
        clear hb2 HBV HOV HNV i0 i1 i2 i3 i4 iff il HI z0 z1 z2 z3 zf zl
        have HO3 := Lib.hid (HO2.out.alloc (.cells #[.bool yk, .string yc, .string yg, .string ys, .int .i64 yn, .bool yr, .bool yj] 35))
        have HB3 := Lib.hid (show Below w.heap.size w (w2.alloc (.cells #[.bool yk, .string yc, .string yg, .string ys, .int .i64 yn, .bool yr, .bool yj] 35)) from HB2.out.alloc HB2.out.size _)
        have HN3 := Lib.hid (show CtAt (w2.alloc (.cells #[.bool yk, .string yc, .string yg, .string ys, .int .i64 yn, .bool yr, .bool yj] 35)) _ _ from HN2.out.keep ((Below.refl _ _).alloc (Nat.le_refl _) _))
        have HCE := Lib.hid (rg_cells w2 ⟨yk, yc, yg, ys, yn, yr, yj⟩)
        simp only at HCE
        have HOL := Lib.hid (fun g h => HO2.out.lt g h)
        have HNE := Lib.hid (show ∀ g, Value.ownBlock (.slice ao R.length cv) = some g → g ≠ w.heap.size from fun g h e => by have := (HO2.out.lt g h).1; omega)
        have hsz2 : w.heap.size ≤ w2.heap.size := HB2.out.size
        clear HO2 HB2 HN2
        go_wp2_with (at_builtin; go_loud (refine wpList_append_blk _ rfl _ _ 38 rfl (w.heap.size + 1) 35 iz (.agg #[.bool false, .string ⟨#[]⟩, .string ⟨#[]⟩, .string ⟨#[]⟩, .int .i64 0, .bool false, .bool false]) 7 72 Try.underlying38 hi hz0 hz1 hz2 rfl (by decide) _ _ _ rfl HO3.out ⟨w2.heap.size, 0, none⟩ 1 1 [.bool yk, .string yc, .string yg, .string ys, .int .i64 yn, .bool yr, .bool yj] rfl rfl HCE.out ?n1 ?n2 ?n3 ?n4 (by decide) ?_))
        case n1 => first | exact ⟨rfl, rfl, rfl, rfl, rfl, rfl, rfl⟩ | (intro u hu; simp only [List.mem_cons, List.not_mem_nil, or_false] at hu; rcases hu with rfl | rfl | rfl | rfl | rfl | rfl | rfl <;> rfl)
        case n2 => unfold maxLen; omega
        case n3 => omega
        case n4 => first | omega | (simp; omega)
        intro v' w7 ho hg hbk
        have HO7 := Lib.hid (show w7.ownsRow (w.heap.size + 1) 35 7 v' (R ++ [(⟨yk, yc, yg, ys, yn, yr, yj⟩ : Rg)]).length (flatR (R ++ [(⟨yk, yc, yg, ys, yn, yr, yj⟩ : Rg)])) by rw [List.length_append, List.length_singleton, flatR_snoc]; exact ho)
        have HB7 := Lib.hid (HB3.out.grown hg (by simp; omega) (fun g h => by have := (HOL.out g h).1; omega))
        have HN7 := Lib.hid (show CtAt w7 w.heap.size _ from by
          obtain ⟨q0, q1, q2, q3, qf, ql⟩ := HN3.out
          have hne : some w.heap.size ≠ Value.ownBlock (.slice ao R.length cv) := fun e => HNE.out _ e.symm rfl
          exact ⟨(World.cell?_of_block (a := ⟨w.heap.size, 0, none⟩) (hg.block _ ql hne)).trans q0, (World.cell?_of_block (a := ⟨w.heap.size, 1, none⟩) (hg.block _ ql hne)).trans q1, (World.cell?_of_block (a := ⟨w.heap.size, 2, none⟩) (hg.block _ ql hne)).trans q2, (World.cell?_of_block (a := ⟨w.heap.size, 3, none⟩) (hg.block _ ql hne)).trans q3, fun k => (World.frozen?_of_block (a := ⟨w.heap.size, k, none⟩) (hg.block _ ql hne)).trans (qf k), Nat.lt_of_lt_of_le ql hg.size⟩)
        clear ho hg hbk HO3 HB3 HCE HOL HN3
        go_wp2_with fail
        go_roundw
        case rel => exact ⟨R ++ [(⟨yk, yc, yg, ys, yn, yr, yj⟩ : Rg)], by rw [List.length_append, List.length_singleton]; omega, by rw [List.length_append, List.length_singleton]; go_num, HO7, HB7, HN7, Lib.hid (by rw [List.length_append, List.length_singleton, HX.out])⟩
        case measure => simp [intOf]; omega
      · have hRl : R.length = len := by omega
        have HRM := Lib.hid (show R = M by
          have := HR.out
          rwa [hRl, ← hMl, List.take_length] at this)
        have hl : ¬ (R.length : Int) < (len : Int) := by omega
        clear HR hRl
        go_wp2_with fail
        refine bodyPost_ret (v := .tuple #[.slice ao R.length cv, .int .i64 0]) (by simp [results, Try.results17, go_sem]) rfl ?_
        exact ⟨HB.out, _, rfl, by rw [← hMl, ← HRM.out]; exact own_low HO.out (Nat.le_succ _)⟩
  · have k0 : (r == 0) = false := by simpa using h0
    have k1 : (r != 0) = true := by simpa using h0
    have H0 := Lib.hid h0
    clear h0
    go_enter Try.func17, Try.ntmps17
    go_wp2_with fail
    refine (HCK.out _ (HS.out.keep HB0.out)).mono ?_
    rintro e w1 ⟨rfl, hb1⟩
    have HB1 := Lib.hid (HB0.out.trans (hb1.mono HB0.out.size))
    clear hb1 HB0 HN
    go_wp2_with fail
    refine bodyPost_ret (v := .tuple #[.slice none 0 0, .int .i64 r]) (by simp [results, Try.results17, go_sem]) rfl ?_
    exact ⟨HB1.out, Or.inl ⟨H0.out, rfl⟩⟩
end Go.Proofs.Ytlleebgkglbelaa
