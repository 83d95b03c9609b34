/- Contract of layer 14: elementsOf. -/
import Derived.Test.YtlleebgkglbelaaCat
import Derived.Test.YtlleebgkglbelaaElm
set_option linter.unusedSimpArgs false
set_option linter.unusedVariables false
namespace Go.Proofs.Ytlleebgkglbelaa
open Go.RowKit

/-- what elementsOf gives -/
def ElsPost (w : World) (L : List El) (e : Ending) (w' : World) : Prop :=
  ∃ b, e = .returned (.map (some b)) ∧ w.heap.size ≤ b ∧ MapE w' b L.length L ∧ Below w.heap.size w w'
set_option maxHeartbeats 4000000 in
set_option maxRecDepth 100000 in
theorem elements_any {w : World} {c : Ct} (h : CtOk w c) : Calls Try.prog 62 #[c.val] w (ElsPost w c.E) := by
  have hmm := @run_makeMap Try.prog
  have hl0 := h.e.hl
  have hcap := h.e.hcap
  have hmax := h.e.hmax
  have HS := Lib.hid h.e
  have HZ := Lib.hid h.ec
  have HN := Lib.hid (ct_new w c 27)
  have HB0 := Lib.hid (show Below w.heap.size w (w.alloc (.cells #[.slice c.ag c.ng c.cg, .slice c.ak c.nk c.ck, .slice c.ae c.ne c.ce, .slice c.ac c.nc c.cc] 27)) from (by repeat (first | with_reducible exact Below.refl _ _ | (with_reducible refine Below.setCell ?_ (by first | exact Nat.le_refl _ | omega | (simp; done) | (simp; omega)) _) | (with_reducible refine Below.alloc ?_ (by first | exact Nat.le_refl _ | omega | (simp; done) | (simp; omega)) _) | with_reducible refine Below.drew ?_ | with_reducible refine bel_drewN ?_ _ | (with_reducible refine bel_by (by with_reducible assumption) (by first | exact Nat.le_refl _ | omega | (simp; done) | (simp; omega)) ?_))))
  unfold Ct.val ElsPost
  obtain ⟨ag, bg, og, ng, cg, ak, bk, ok, nk, ck, ae, be, oe, ne, ce, ac, bc, oc, nc, cc, G, K, E, C⟩ := c
  simp only at hl0 hcap hmax HS HZ HN HB0 ⊢
  clear h
  go_enter Try.func62, Try.ntmps62
  go_wp2_with fail
  have HM0 := Lib.hid (show MapE ((w.alloc (.cells #[.slice ag ng cg, .slice ak nk ck, .slice ae ne ce, .slice ac nc cc] 27)).alloc (.map #[] 0)) (w.heap.size + 1) 0 (E.take 0) by
    have := World.ownsMap_made (w.alloc (.cells #[.slice ag ng cg, .slice ak nk ck, .slice ae ne ce, .slice ac nc cc] 27)) Try.prog 9 elR
    rw [World.size_alloc] at this
    exact this)
  obtain ⟨z0, z1, z2, z3, zf, zl⟩ := HN.out
  simp only at z2
  go_wp2_with fail
  go_loopw [10] (fun s10 wr => ∃ k : Nat, k ≤ ne ∧ s10 = .int .i64 (k : Int) ∧ Hid (MapE wr (w.heap.size + 1) k (E.take k)) ∧ Hid (Below w.heap.size w wr)) (fun s10 _ => (ne - (intOf s10)).toNat)
  case atStart => exact ⟨0, Nat.zero_le _, rfl, HM0, Lib.hid (HB0.out.alloc (by simp) _)⟩
  case round =>
    obtain ⟨k, hk, rfl, HM, HB⟩ := hrel
    clear z0 z1 z2 z3 zf zl HM0 HB0 HN
    unfold maxLen at hmax
    by_cases hlt : k < ne
    · have hl : (k : Int) < (ne : Int) := by omega
      have hkL : k < E.length := by omega
      have S := HS.out.keep HB.out
      obtain rfl := S.ha (by omega)
      have sb := S.hb (by omega)
      have c0 := S.c0 k hkL
      have c1 := S.c1 k hkL
      have c2 := S.c2 k hkL
      have c3 := S.c3 k hkL
      have c4 := S.c4 k hkL
      have HZX := Lib.hid (HZ.out _ (List.getElem_mem hkL))
      have HT := Lib.hid (List.take_succ_eq_append_getElem hkL)
      clear S
      generalize E[k]'hkL = x at *
      obtain ⟨xc, xg, xn, xs, xl⟩ := x
      simp only at c0 c1 c2 c3 c4 HZX
      have HX := Lib.hid (el_new wr ⟨xc, xg, xn, xs, xl⟩ 66)
      have hws := HM.out.lt
      have HMV := Lib.hid (show MapE (wr.alloc (.cells #[.string xc, .string xg, .int .i64 xn, .string xs, .string xl] 66)) (w.heap.size + 1) k (E.take k) from HM.out.keep ((Below.refl _ _).alloc (Nat.le_refl _) _))
      have HBV := Lib.hid (show Below w.heap.size w (wr.alloc (.cells #[.string xc, .string xg, .int .i64 xn, .string xs, .string xl] 66)) from HB.out.alloc HB.out.size _)
      obtain ⟨y0, y1, y2, y3, y4, yf, yl⟩ := HX.out
      simp only at y0 y1 y2 y3 y4
      have hkm : k < maxLen := by unfold maxLen; omega
      go_wp2_with (at_mapUpdate; go_loud (refine wpList_put_el _ rfl _ _ _ rfl (w.heap.size + 1) k (E.take k) rfl HMV.out hkm ⟨xc, xg, xn, xs, xl⟩ rfl rfl HZX.out ?_))
      intro w1 hm1 hg1
      have HM1 := Lib.hid (show MapE w1 (w.heap.size + 1) (k + 1) (E.take (k + 1)) by rw [HT.out]; exact hm1)
      have HB1 := Lib.hid (HBV.out.grown hg1 (by simp; omega) (by intro j hj; cases hj; omega))
      clear hm1 hg1 HMV HBV HM HB y0 y1 y2 y3 y4 yf yl HX
      go_wp2_with fail
      go_roundw
      case rel => exact ⟨k + 1, by omega, by go_num, HM1, HB1⟩
      case measure => simp [intOf]; omega
    · obtain rfl : k = ne := by omega
      have hl : ¬ (k : Int) < (k : Int) := by omega
      have HM1 := Lib.hid (show MapE wr (w.heap.size + 1) E.length E by
        have := HM.out
        rwa [List.take_of_length_le (by omega), ← hl0] at this)
      go_wp2_with fail
      go_ret
      exact ⟨_, rfl, Nat.le_succ _, by have := HM1.out; rw [hl0] at this; exact this, HB.out⟩
end Go.Proofs.Ytlleebgkglbelaa
