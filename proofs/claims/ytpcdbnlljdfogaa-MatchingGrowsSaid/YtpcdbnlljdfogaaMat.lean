/- The contract of matches. -/
import Derived.Test.YtpcdbnlljdfogaaOwI
import Derived.Test.YtpcdbnlljdfogaaChk
import Derived.Test.YtpcdbnlljdfogaaRgn
set_option linter.unusedSimpArgs false
set_option linter.unusedVariables false
namespace Go.Proofs.Ytpcdbnlljdfogaa
open Go.RowKit

theorem isM_no {L R : List Int} {E : List (Int × Int)} {M : List Int} (h : ¬ Rises E.length M) : isM L R E M = false := by
  unfold isM
  rw [decide_eq_false h]; rfl
theorem isM_none {L R : List Int} {E : List (Int × Int)} {M : List Int} {k : Nat} (h : leaves L R ((M.take k).map (pairE E)) = none) : isM L R E M = false := by
  unfold isM
  have : leaves L R (M.map (pairE E)) = none := by
    conv => lhs; rw [← List.take_append_drop k M, List.map_append]
    exact leaves_none _ _ _ _ h
  rw [takes_leaves, this]
  simp
theorem isM_some {L R : List Int} {E : List (Int × Int)} {M : List Int} {p : List Int × List Int} (hr : Rises E.length M) (h : leaves L R (M.map (pairE E)) = some p) : isM L R E M = true := by
  unfold isM
  rw [decide_eq_true hr, takes_leaves, h]; rfl
theorem leaves_take {L R : List Int} {E : List (Int × Int)} {M : List Int} {k : Nat} (hk : k < M.length) {LL RR : List Int} (h : leaves L R ((M.take k).map (pairE E)) = some (LL, RR)) {i iu iv : Nat} (hx : M[k]'hk = (i : Int)) (hi : i < E.length) (he : E[i]'hi = ((iu : Int), (iv : Int))) (hu : iu < LL.length) (hv : iv < RR.length) :
    leaves L R ((M.take (k + 1)).map (pairE E)) = if LL[iu]'hu = 0 ∨ RR[iv]'hv = 0 then none else some (LL.set iu (LL[iu]'hu - 1), RR.set iv (RR[iv]'hv - 1)) := by
  have hp : pairE E (i : Int) = ((iu : Int), (iv : Int)) := by
    unfold pairE
    rw [Int.toNat_natCast, List.getD_eq_getElem?_getD, List.getElem?_eq_getElem hi, he]
    rfl
  rw [List.take_succ_eq_append_getElem hk, List.map_append, List.map_cons, List.map_nil, hx, hp, leaves_snoc, h]
  simp only [Option.bind_some]
  rw [atI_eq (L := LL) (i := (iu : Int)) (by simpa using hu), atI_eq (L := RR) (i := (iv : Int)) (by simpa using hv)]
  simp
theorem GbAt.far {w : World} {b : Nat} {g : Gph} (h : GbAt w b g) {p : Addr} (u : Value) (hp : b + 1 ≤ p.block) : GbAt (w.setCell p u) b g :=
  h.low (B := b + 1) ((Below.refl (b + 1) w).setCell hp u) (Nat.lt_succ_self b)
set_option maxHeartbeats 4000000 in
set_option maxRecDepth 100000 in
theorem mat_any (g : Gph) (w : World) (hg : GpAt w g) (hv : chk g = 0) {a : Option Addr} {b off len cap : Nat} {M : List Int} (hM : SlI w a b off len cap M) :
    Calls Try.prog 38 #[g.val, .slice a len cap] w fun e w' => e = .returned (.bool (isM g.L g.R g.E M)) ∧ Below w.heap.size w w' := by
  have HB := Lib.hid ((Below.refl w.heap.size w).alloc (Nat.le_refl _) (.cells #[.slice g.aL g.L.length g.cL, .slice g.aR g.R.length g.cR, .slice g.aE g.E.length g.cE] 25))
  have HGB := Lib.hid (gb_new w g 25)
  have HG := Lib.hid (hg.keep HB.out)
  have HM := Lib.hid (hM.keep HB.out)
  have HOK := Lib.hid (chk_ok hv)
  have HMw := Lib.hid hM
  have HEw := Lib.hid hg.e
  have HI := Lib.hid (incP_any HM.out g.aE g.E.length g.cE)
  have gl0 : w.heap.size < (w.alloc (.cells #[.slice g.aL g.L.length g.cL, .slice g.aR g.R.length g.cR, .slice g.aE g.E.length g.cE] 25)).heap.size := HGB.out.lt
  clear hg hM hv
  unfold Gph.val
  obtain ⟨g0, g1, g2, gl⟩ := HGB.out
  by_cases hr : Rises g.E.length M
  · have HR := Lib.hid hr
    rw [risesB_ok hr] at HI
    clear hr
    have HDr := Lib.hid ((Below.refl (w.alloc (.cells #[.slice g.aL g.L.length g.cL, .slice g.aR g.R.length g.cR, .slice g.aE g.E.length g.cE] 25)).heap.size (w.alloc (.cells #[.slice g.aL g.L.length g.cL, .slice g.aR g.R.length g.cR, .slice g.aE g.E.length g.cE] 25))).drew)
    have HGD := Lib.hid (HGB.out.keep HDr.out)
    have HC1 := Lib.hid (cln_any (HG.out.l.keep HDr.out) (by have := HOK.out.1; omega))
    have HGR := Lib.hid (HG.out.r.keep HDr.out)
    have HBD := Lib.hid (HB.out.trans (HDr.out.mono (Nat.le_of_lt gl0)))
    clear HDr HG HM HB HGB
    go_enter Try.func38, Try.ntmps38
    go_wp2_with fail
    refine HI.out.mono ?_
    rintro e w1 ⟨rfl, rfl⟩
    go_wp2_with fail
    clear g0 g1 g2 gl
    refine wp_region_s (fun w' => GbAt w' w.heap.size g) 5 (by kernel_rfl) ?_
    refine AnyS.take0 (i := 0) (v := (.pointer (some ⟨w.heap.size, 0, none⟩))) rfl (by kernel_rfl) (by kernel_rfl) (by kernel_rfl) (by kernel_rfl) (fun _ _ _ h => h) (fun _ => HGD.out) (Or.inl ⟨by rfl, fun w' _ => (by go_simp)⟩) ?_
    simp only [Act.put, List.setIfInBounds_toArray, List.set_cons_zero, List.set_cons_succ]
    refine AnyS.take (i := 1) (v := (.slice g.aL g.L.length g.cL)) [5, 2] rfl (by kernel_rfl) (by kernel_rfl) (by kernel_rfl) (by kernel_rfl) (fun _ _ _ h => h) HGD.out (Or.inl ⟨by rfl, fun w' hw' => (by obtain ⟨t0, t1, t2, t3⟩ := hw'; go_simp)⟩) ?_
    simp only [Act.put, List.setIfInBounds_toArray, List.set_cons_zero, List.set_cons_succ]
    refine AnyS.take0 (i := 3) (v := (.pointer (some ⟨w.heap.size, 1, none⟩))) rfl (by kernel_rfl) (by kernel_rfl) (by kernel_rfl) (by kernel_rfl) (fun _ _ _ h => h) (fun _ => HGD.out) (Or.inl ⟨by rfl, fun w' _ => (by go_simp)⟩) ?_
    simp only [Act.put, List.setIfInBounds_toArray, List.set_cons_zero, List.set_cons_succ]
    refine AnyS.take (i := 4) (v := (.slice g.aR g.R.length g.cR)) [5] rfl (by kernel_rfl) (by kernel_rfl) (by kernel_rfl) (by kernel_rfl) (fun _ _ _ h => h) HGD.out (Or.inl ⟨by rfl, fun w' hw' => (by obtain ⟨t0, t1, t2, t3⟩ := hw'; go_simp)⟩) ?_
    simp only [Act.put, List.setIfInBounds_toArray, List.set_cons_zero, List.set_cons_succ]
    refine AnyS.step (j := 2) rfl (by kernel_rfl) (fun K hK => ?_)
    go_simp
    refine HC1.out.mono ?_
    rintro e w5 ⟨v1, rfl, ho1, hb5⟩
    have HGD5 := Lib.hid (HGD.out.keep hb5)
    have HO1 := Lib.hid (ho1.mono (C := w.heap.size + 1) gl0)
    have HL1 := Lib.hid (fun k hk => (World.ownsRow.lt ho1 k hk).2)
    have HB5 := Lib.hid (HBD.out.trans (hb5.mono (Nat.le_of_lt gl0)))
    have HC2 := Lib.hid (cln_any (HGR.out.keep hb5) (by have := HOK.out.2.1; omega))
    have gs5 : w.heap.size < w5.heap.size := HGD5.out.lt
    clear HC1 HGR HGD HBD ho1 hb5
    go_wp2_with fail
    refine hK.out _ _ (fun _ => HGD5.out) ?_
    clear hK
    refine AnyS.step (j := 5) rfl (by kernel_rfl) (fun K hK => ?_)
    go_simp
    refine HC2.out.mono ?_
    rintro e w6 ⟨v2, rfl, ho2, hb6⟩
    have HGB6 := Lib.hid (HGD5.out.keep hb6)
    have HO1 := Lib.hid (HO1.out.keep hb6)
    have HO2 := Lib.hid ho2
    have hs5 : w.heap.size ≤ w5.heap.size := HB5.out.size
    have HB6 := Lib.hid (HB5.out.trans (hb6.mono hs5))
    clear HC2 HGD5 HB5 ho2 hb6
    go_wp2_with fail
    refine hK.out _ _ (fun e => absurd e (by decide)) ?_
    clear hK
    refine AnyS.rest 6 (by kernel_rfl) rfl (by kernel_rfl) ?_
    change wpList _ _ _ [_, _] _ _
    go_wp2_with fail
    have hm := HMw.out.hmax
    have hcp := HMw.out.hcap
    have he9 := HEw.out.hmax
    have hecp := HEw.out.hcap
    unfold maxLen at hm he9
    have HML := Lib.hid HMw.out.hl
    have gl6 : w.heap.size < w6.heap.size := HGB6.out.lt
    go_loopw [8, 9, 10, 24] (fun _ _ _ s24 wr => ∃ (k : Nat) (LL RR : List Int), k ≤ len ∧ s24 = .int .i64 (k : Int) ∧ Hid (leaves g.L g.R ((M.take k).map (pairE g.E)) = some (LL, RR)) ∧ Hid (OwI wr (w.heap.size + 1) v1 g.L.length LL) ∧ Hid (OwI wr w5.heap.size v2 g.R.length RR) ∧ Hid (Below w.heap.size w wr) ∧ Hid (GbAt wr w.heap.size g)) (fun _ _ _ s24 _ => (len - (intOf s24)).toNat)
    case atStart => exact ⟨0, _, _, Nat.zero_le _, rfl, Lib.hid rfl, HO1, HO2, HB6, HGB6⟩
    case round =>
      obtain ⟨k, LL, RR, hk, rfl, HLv, HOL, HOR, HBW, HGW⟩ := hrel
      by_cases hlt : k < len
      · have hlz : (k : Int) < (len : Int) := by omega
        have hkM : k < M.length := by have := HML.out; omega
        have HMW := Lib.hid (HMw.out.keep HBW.out)
        have HEW := Lib.hid (HEw.out.keep HBW.out)
        obtain rfl := HMW.out.ha (by omega)
        have bb := HMW.out.hb (by omega)
        have hx0 := HR.out.1 _ (List.getElem_mem hkM)
        obtain ⟨i, hx⟩ : ∃ i : Nat, M[k]'hkM = (i : Int) := ⟨(M[k]'hkM).toNat, by omega⟩
        have hi : i < g.E.length := by omega
        have hiz : (i : Int) < (g.E.length : Int) := by omega
        have hbd := HOK.out.2.2.2.2.2.1 _ (List.getElem_mem hi)
        obtain ⟨iu, iv, hE⟩ : ∃ iu iv : Nat, g.E[i]'hi = ((iu : Int), (iv : Int)) := ⟨(g.E[i]'hi).1.toNat, (g.E[i]'hi).2.toNat, Prod.ext (by simp; omega) (by simp; omega)⟩
        rw [hE] at hbd
        simp only at hbd
        have hu := HOL.out.len
        have hv := HOR.out.len
        have huz : (iu : Int) < (g.L.length : Int) := hbd.2.1
        have hvz : (iv : Int) < (g.R.length : Int) := hbd.2.2.2
        have hul : iu < LL.length := by omega
        have hvl : iv < RR.length := by omega
        have HT := Lib.hid (leaves_take hkM HLv.out hx hi hE hul hvl)
        have HRg := Lib.hid (leaves_range _ _ _ _ HLv.out HOK.out.2.2.2.1 HOK.out.2.2.2.2.1)
        obtain ⟨gl, cpl, rfl, bl1, bl2, bl3, bl4⟩ := HOL.out.shape (by omega)
        obtain ⟨gr, cpr, rfl, br1, br2, br3, br4⟩ := HOR.out.shape (by omega)
        have hgl5 := HL1.out gl rfl
        have c0 := HMW.out.cell k hkM
        rw [hx] at c0
        have haE : g.aE = some ⟨g.bE, g.oE, none⟩ := HEW.out.ha (by omega)
        have bE := HEW.out.hb (by omega)
        obtain ⟨g0, g1, g2, gl9⟩ := HGW.out
        rw [haE] at g2
        have e0 := HEW.out.c0 i hi
        have e1 := HEW.out.c1 i hi
        rw [hE] at e0 e1
        simp only at e0 e1
        have l0 := HOL.out.at_ iu hul
        have r0 := HOR.out.at_ iv hvl
        have fl := World.ownsRow.frozenAt HOL.out iu
        have fr := World.ownsRow.frozenAt HOR.out iv
        have hlr := HRg.out.1 _ (List.getElem_mem hul)
        have hrr := HRg.out.2 _ (List.getElem_mem hvl)
        have HOL2 := Lib.hid (fun x => HOL.out.put iu x)
        have HOR2 := Lib.hid (fun x => HOR.out.put iv x)
        generalize LL[iu]'hul = lu at *
        generalize RR[iv]'hvl = rv at *
        clear HRg hbd hx0 hx hE hu hv hul hvl
        by_cases h1 : lu = 0
        · have HN := Lib.hid (isM_none (HT.out.trans (if_pos (.inl h1))))
          subst h1
          go_wp2_with fail
          go_quiet (fail)
          go_wp2_with fail
          go_ret
          exact ⟨ret_bool HN.out.symm, bel_drewN HBW.out _⟩
        by_cases h2 : rv = 0
        · have HN := Lib.hid (isM_none (HT.out.trans (if_pos (.inr h2))))
          subst h2
          have k1 : (lu == 0) = false := by simpa using h1
          go_wp2_with fail
          go_quiet (fail)
          go_wp2_with fail
          go_ret
          exact ⟨ret_bool HN.out.symm, bel_drewN HBW.out _⟩
        · have HN := Lib.hid (HT.out.trans (if_neg (by omega)))
          have k1 : (lu == 0) = false := by simpa using h1
          have k2 : (rv == 0) = false := by simpa using h2
          have hgne : gl ≠ gr := by omega
          have hgne2 : gr ≠ gl := by omega
          have HOL3 := Lib.hid ((HOL2.out (lu - 1)).far (p := ⟨gr, iv, none⟩) (.int .i64 (rv - 1)) (by simp [Value.ownBlock]; omega))
          have HOR3 := Lib.hid (World.ownsRow.stored (World.ownsRow.kept HOR.out (grownBy_set wr ⟨gl, iu, none⟩ (.int .i64 (lu - 1))) (.inr (by simp [Value.ownBlock]; omega))) iv (.int .i64 (rv - 1))).1
          have HBW3 := Lib.hid ((HBW.out.setCell (p := ⟨gl, iu, none⟩) (by simp; omega) (.int .i64 (lu - 1))).setCell (p := ⟨gr, iv, none⟩) (by simp; omega) (.int .i64 (rv - 1)))
          have HGW3 := Lib.hid (show GbAt ((wr.setCell ⟨gl, iu, none⟩ (.int .i64 (lu - 1))).setCell ⟨gr, iv, none⟩ (.int .i64 (rv - 1))) w.heap.size g from
            (HGW.out.far (p := ⟨gl, iu, none⟩) _ bl1).far (p := ⟨gr, iv, none⟩) _ (by simp; omega))
          have HD := Lib.hid (fun nq => bel_drewN (Below.refl ((wr.setCell ⟨gl, iu, none⟩ (.int .i64 (lu - 1))).setCell ⟨gr, iv, none⟩ (.int .i64 (rv - 1))).heap.size ((wr.setCell ⟨gl, iu, none⟩ (.int .i64 (lu - 1))).setCell ⟨gr, iv, none⟩ (.int .i64 (rv - 1)))) nq)
          have hF1 := Lib.hid (fun nq => Lib.hid (HOL3.out.keep (HD.out nq)))
          have hF2 := Lib.hid (fun nq => Lib.hid (OwI.keep (B := w5.heap.size) (n := g.R.length) (L := RR.set iv (rv - 1)) (by have := HOR3.out; rw [← List.map_set] at this; exact this) (HD.out nq)))
          have hF3 := Lib.hid (fun nq => Lib.hid (bel_drewN HBW3.out nq))
          have hF4 := Lib.hid (fun nq => Lib.hid (HGW3.out.keep (HD.out nq)))
          clear HD HOL3 HOR3 HBW3 HGW3
          go_wp2_with fail
          go_quiet (fail)
          go_wp2_with fail
          go_roundw
          case rel => exact ⟨k + 1, _, _, by omega, by go_num, HN, hF1.out _, hF2.out _, hF3.out _, hF4.out _⟩
          case measure => simp [intOf]; omega
      · have hlz : ¬ (k : Int) < (len : Int) := by omega
        obtain rfl : k = len := by omega
        have HL := Lib.hid (show isM g.L g.R g.E M = true by
          have := HLv.out
          rw [List.take_of_length_le (by rw [HML.out]; exact Nat.le_refl _)] at this
          exact isM_some HR.out this)
        go_wp2_with fail
        go_ret
        exact ⟨ret_bool HL.out.symm, HBW.out⟩
  · have HN := Lib.hid (isM_no (L := g.L) (R := g.R) hr)
    rw [risesB_no hr] at HI
    clear hr
    go_enter Try.func38, Try.ntmps38
    go_wp2_with fail
    refine HI.out.mono ?_
    rintro e w1 ⟨rfl, rfl⟩
    go_wp2_with fail
    go_ret
    exact ⟨ret_bool HN.out.symm, HB.out⟩
end Go.Proofs.Ytpcdbnlljdfogaa
