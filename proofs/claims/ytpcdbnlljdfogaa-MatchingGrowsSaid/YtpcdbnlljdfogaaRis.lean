/- The reference's Is. -/
import Derived.Test.YtpcdbnlljdfogaaRchk
import Derived.Test.YtpcdbnlljdfogaaApe
set_option linter.unusedSimpArgs false
set_option linter.unusedVariables false
namespace Go.Proofs.Ytpcdbnlljdfogaa
open Go.RowKit

theorem infoI : (Try.prog.info? 3).map (fun i => (i.zero, i.size, i.bytes)) = some (some (.int .i64 0), 1, 8) := by kernel_rfl
theorem SlI.news {w : World} {a : Option Addr} {b off len cap : Nat} {L : List Int} (h : SlI w a b off len cap L) : ∀ ad, a = some ad → ∀ j u, (L.map (Value.int .i64))[j]? = some u → w.cell? (ad.add j) = some u := by
  intro ad ha j u hu
  rw [List.getElem?_map] at hu
  cases hj : L[j]? with
  | none => rw [hj] at hu; simp at hu
  | some x =>
    rw [hj] at hu
    simp only [Option.map_some, Option.some.injEq] at hu
    obtain ⟨hjl, hx⟩ := List.getElem?_eq_some_iff.1 hj
    have h1 := h.ha (by rw [← h.hl]; omega)
    rw [ha] at h1
    simp only [Option.some.injEq] at h1
    subst h1
    rw [Addr.add_lit, h.cell j hjl, hx, hu]
theorem ints_one (L : List Int) : ∀ u ∈ L.map (Value.int .i64), u.oneCell' = true := by
  intro u hu
  obtain ⟨x, _, rfl⟩ := List.mem_map.1 hu
  rfl
set_option maxHeartbeats 8000000 in
set_option maxRecDepth 100000 in
theorem ris_any (g : Gph) (w : World) (hg : GpAt w g) {a : Option Addr} {b off len cap : Nat} {M : List Int} (hM : SlI w a b off len cap M) :
    Calls Try.prog 16 #[g.val, .slice a len cap] w fun e w' => e = .returned (.bool (isB g M)) ∧ Below w.heap.size w w' := by
  have HB := Lib.hid ((Below.refl w.heap.size w).alloc (Nat.le_refl _) (gBox g))
  have HGB := Lib.hid (gb_new w g 25)
  have HC := Lib.hid (rchk_any g _ (hg.keep HB.out))
  have HMw := Lib.hid hM
  have HGw := Lib.hid hg
  have gl0 : w.heap.size < (w.alloc (gBox g)).heap.size := HGB.out.lt
  have HE := Lib.hid (show isB g M = (decide (chk g = 0) && isM g.L g.R g.E M) from rfl)
  have HRs := Lib.hid (fun W (hb : Below w.heap.size w W) => rris_any (hM.keep hb) g.E.length)
  clear hg hM
  unfold Gph.val at HC ⊢
  obtain ⟨g0, g1, g2, gl⟩ := HGB.out
  by_cases h : chk g = 0
  · have HOK := Lib.hid (chk_ok h)
    have HE1 := Lib.hid (show isB g M = isM g.L g.R g.E M by rw [HE.out, h]; simp)
    rw [h] at HC
    clear h HE
    by_cases hr : Rises g.E.length M
    · have HR := Lib.hid hr
      rw [risesB_ok hr] at HRs
      clear hr
      obtain ⟨i0, hi0, hz0, hz1, hz2⟩ := info_parts infoI
      go_enter Try.func16, Try.ntmps16
      go_wp2_with fail
      refine HC.out.mono ?_
      rintro e w1 ⟨rfl, hb1⟩
      have HB1 := Lib.hid (HB.out.trans (hb1.mono (Nat.le_of_lt gl0)))
      have HGB1 := Lib.hid (HGB.out.keep hb1)
      have HRs1 := Lib.hid (HRs.out w1 HB1.out)
      have hs1 : w.heap.size ≤ w1.heap.size := HB1.out.size
      clear hb1 g0 g1 g2 gl HRs HC HGB HB
      obtain ⟨g0, g1, g2, gl⟩ := HGB1.out
      go_wp2_with fail
      refine HRs1.out.mono ?_
      rintro e w2 ⟨rfl, hb2⟩
      have HB2 := Lib.hid (HB1.out.trans (hb2.mono hs1))
      have HGB2 := Lib.hid (HGB1.out.keep hb2)
      clear hb2 g0 g1 g2 gl HRs1 HGB1 HB1
      obtain ⟨g0, g1, g2, gl⟩ := HGB2.out
      have HL2 := Lib.hid ((HGw.out.l.keep HB2.out).keep ((Below.refl w2.heap.size w2).alloc (Nat.le_refl _) (.cells #[] 3)))
      have lL := HOK.out.1
      have lR := HOK.out.2.1
      go_wp2_with (first | (at_builtin; refine wpList_append_evry _ rfl _ _ 22 rfl w2.heap.size 3 i0 (.int .i64 0) 1 8 Try.underlying22 hi0 hz0 hz1 hz2 rfl (by decide) _ _ _ rfl (World.ownsRow_made w2 #[] 0 (Nat.le_refl _) (Nat.zero_le _) (by simp)) g.aL g.L.length g.cL (g.L.map (Value.int .i64)) rfl ?qc1 ?qc2 ?qc3 ?qc4 ?qc5 ?qc6 ?qc7 ?_) | go_in)
      case qc1 => simp
      case qc2 => exact fun ha => HL2.out.hn ha
      case qc3 => exact HL2.out.news
      case qc4 => exact ints_one _
      case qc5 => unfold maxLen; omega
      case qc6 => omega
      case qc7 => simp
      intro v1 w4 hown hgrow
      have HO1 := Lib.hid (show OwI w4 w2.heap.size v1 g.L.length g.L by simpa using hown)
      have HB4 := Lib.hid (((Below.refl w2.heap.size w2).alloc (Nat.le_refl _) (.cells #[] 3)).grown hgrow (by simp) (by intro k hk; simp [Value.ownBlock] at hk; omega))
      have gs2 : w.heap.size < w2.heap.size := HGB2.out.lt
      have HBw4 := Lib.hid (HB2.out.trans (HB4.out.mono (Nat.le_of_lt gs2)))
      have HGB4 := Lib.hid (HGB2.out.keep HB4.out)
      have HL1 := Lib.hid (fun k hk => (World.ownsRow.lt HO1.out k hk).2)
      have HR4 := Lib.hid ((HGw.out.r.keep HBw4.out).keep ((Below.refl w4.heap.size w4).alloc (Nat.le_refl _) (.cells #[] 3)))
      clear hown hgrow g0 g1 g2 gl HL2 HGB2 HB2
      obtain ⟨g0, g1, g2, gl⟩ := HGB4.out
      go_wp2_with (first | (at_builtin; refine wpList_append_evry _ rfl _ _ 22 rfl w4.heap.size 3 i0 (.int .i64 0) 1 8 Try.underlying22 hi0 hz0 hz1 hz2 rfl (by decide) _ _ _ rfl (World.ownsRow_made w4 #[] 0 (Nat.le_refl _) (Nat.zero_le _) (by simp)) g.aR g.R.length g.cR (g.R.map (Value.int .i64)) rfl ?qc1 ?qc2 ?qc3 ?qc4 ?qc5 ?qc6 ?qc7 ?_) | go_in)
      case qc1 => simp
      case qc2 => exact fun ha => HR4.out.hn ha
      case qc3 => exact HR4.out.news
      case qc4 => exact ints_one _
      case qc5 => unfold maxLen; omega
      case qc6 => omega
      case qc7 => simp
      intro v2 w6 hown hgrow
      have HO2 := Lib.hid (show OwI w6 w4.heap.size v2 g.R.length g.R by simpa using hown)
      have HB6 := Lib.hid (((Below.refl w4.heap.size w4).alloc (Nat.le_refl _) (.cells #[] 3)).grown hgrow (by simp) (by intro k hk; simp [Value.ownBlock] at hk; omega))
      have HO1 := Lib.hid ((HO1.out.keep HB6.out).mono (C := w.heap.size + 1) gs2)
      have HBw6 := Lib.hid (HBw4.out.trans (HB6.out.mono (Nat.le_of_lt gl)))
      have HGB6 := Lib.hid (HGB4.out.keep HB6.out)
      have gs4 : w.heap.size < w4.heap.size := gl
      clear hown hgrow g0 g1 g2 gl HR4 HGB4 HBw4
      have hm := HMw.out.hmax
      have hcp := HMw.out.hcap
      have he9 := HGw.out.e.hmax
      have hecp := HGw.out.e.hcap
      unfold maxLen at hm he9
      have HML := Lib.hid HMw.out.hl
      go_wp2_with fail
      go_loopw [7, 8] (fun s7 _ wq => ∃ (k : Nat) (LL RR : List Int), k ≤ len ∧ s7 = .int .i64 (k : Int) ∧ Hid (leaves g.L g.R ((M.take k).map (pairE g.E)) = some (LL, RR)) ∧ Hid (OwI wq (w.heap.size + 1) v1 g.L.length LL) ∧ Hid (OwI wq w4.heap.size v2 g.R.length RR) ∧ Hid (Below w.heap.size w wq) ∧ Hid (GbAt wq w.heap.size g)) (fun s7 _ _ => (len - (intOf s7)).toNat)
      case atStart => exact ⟨0, _, _, Nat.zero_le _, rfl, Lib.hid rfl, HO1, HO2, HBw6, HGB6⟩
      case round =>
        obtain ⟨k, LL, RR, hk, rfl, HLv, HOL, HOR, HBW, HGW⟩ := hrel
        by_cases hlt : k < len
        · have hlz : (k : Int) < (len : Int) := by omega
          have hkM : k < M.length := by have := HML.out; omega
          have HMW := Lib.hid (HMw.out.keep HBW.out)
          have HEW := Lib.hid (HGw.out.e.keep HBW.out)
          obtain rfl := HMW.out.ha (by omega)
          have bb := HMW.out.hb (by omega)
          have hx0 := HR.out.1 _ (List.getElem_mem hkM)
          obtain ⟨i, hx⟩ : ∃ i : Nat, M[k]'hkM = (i : Int) := ⟨(M[k]'hkM).toNat, by omega⟩
          have hi : i < g.E.length := by omega
          have hiz : (i : Int) < (g.E.length : Int) := by omega
          have hbd := HOK.out.2.2.2.2.2.1 _ (List.getElem_mem hi)
          obtain ⟨iu, iv, hE⟩ : ∃ iu iv : Nat, g.E[i]'hi = ((iu : Int), (iv : Int)) := ⟨(g.E[i]'hi).1.toNat, (g.E[i]'hi).2.toNat, Prod.ext (by simp; omega) (by simp; omega)⟩
          rw [hE] at hbd
          simp only at hbd
          have hu := HOL.out.len
          have hv := HOR.out.len
          have huz : (iu : Int) < (g.L.length : Int) := hbd.2.1
          have hvz : (iv : Int) < (g.R.length : Int) := hbd.2.2.2
          have hul : iu < LL.length := by omega
          have hvl : iv < RR.length := by omega
          have HT := Lib.hid (leaves_take hkM HLv.out hx hi hE hul hvl)
          have HRg := Lib.hid (leaves_range _ _ _ _ HLv.out HOK.out.2.2.2.1 HOK.out.2.2.2.2.1)
          obtain ⟨gl, cpl, rfl, bl1, bl2, bl3, bl4⟩ := HOL.out.shape (by omega)
          obtain ⟨gr, cpr, rfl, br1, br2, br3, br4⟩ := HOR.out.shape (by omega)
          have hgl5 := HL1.out gl rfl
          have c0 := HMW.out.cell k hkM
          rw [hx] at c0
          have haE : g.aE = some ⟨g.bE, g.oE, none⟩ := HEW.out.ha (by omega)
          have bE := HEW.out.hb (by omega)
          obtain ⟨g0, g1, g2, gl9⟩ := HGW.out
          rw [haE] at g2
          have e0 := HEW.out.c0 i hi
          have e1 := HEW.out.c1 i hi
          rw [hE] at e0 e1
          simp only at e0 e1
          have l0 := HOL.out.at_ iu hul
          have r0 := HOR.out.at_ iv hvl
          have fl := World.ownsRow.frozenAt HOL.out iu
          have fr := World.ownsRow.frozenAt HOR.out iv
          have hlr := HRg.out.1 _ (List.getElem_mem hul)
          have hrr := HRg.out.2 _ (List.getElem_mem hvl)
          have HOL2 := Lib.hid (fun x => HOL.out.put iu x)
          have HOR2 := Lib.hid (fun x => HOR.out.put iv x)
          generalize LL[iu]'hul = lu at *
          generalize RR[iv]'hvl = rv at *
          clear HRg
          clear hx0 hx hE hu hv hul hvl hbd
          have hgne : gl ≠ gr := by omega
          have hgne2 : gr ≠ gl := by omega
          have HBW3 := Lib.hid ((HBW.out.setCell (p := ⟨gl, iu, none⟩) (by simp; omega) (.int .i64 (lu - 1))).setCell (p := ⟨gr, iv, none⟩) (by simp; omega) (.int .i64 (rv - 1)))
          have HD := Lib.hid (((Below.refl ((wr.setCell ⟨gl, iu, none⟩ (.int .i64 (lu - 1))).setCell ⟨gr, iv, none⟩ (.int .i64 (rv - 1))).heap.size ((wr.setCell ⟨gl, iu, none⟩ (.int .i64 (lu - 1))).setCell ⟨gr, iv, none⟩ (.int .i64 (rv - 1)))).alloc (Nat.le_refl _) (.cells #[.int .i64 (iu : Int), .int .i64 (iv : Int)] 52)).drew)
          have hF3 := Lib.hid ((HBW3.out.alloc HBW3.out.size (.cells #[.int .i64 (iu : Int), .int .i64 (iv : Int)] 52)).drew)
          by_cases h1 : lu = 0
          · have HN := Lib.hid (HE1.out.trans (isM_none (HT.out.trans (if_pos (.inl h1)))))
            clear HD HBW3 HT
            subst h1
            go_wp2_with fail
            go_region
            go_wp2_with fail
            go_ret
            exact ⟨ret_bool HN.out.symm, hF3.out⟩
          by_cases h2 : rv = 0
          · have HN := Lib.hid (HE1.out.trans (isM_none (HT.out.trans (if_pos (.inr h2)))))
            clear HD HBW3 HT
            subst h2
            have k1 : decide (lu - 1 < 0) = false := decide_eq_false (by omega)
            go_wp2_with fail
            go_region
            go_wp2_with fail
            go_ret
            exact ⟨ret_bool HN.out.symm, hF3.out⟩
          · have HN := Lib.hid (HT.out.trans (if_neg (by omega)))
            have k1 : decide (lu - 1 < 0) = false := decide_eq_false (by omega)
            have k2 : decide (rv - 1 < 0) = false := decide_eq_false (by omega)
            have HOL3 := Lib.hid ((HOL2.out (lu - 1)).far (p := ⟨gr, iv, none⟩) (.int .i64 (rv - 1)) (by simp [Value.ownBlock]; omega))
            have HOR3 := Lib.hid (World.ownsRow.stored (World.ownsRow.kept HOR.out (grownBy_set wr ⟨gl, iu, none⟩ (.int .i64 (lu - 1))) (.inr (by simp [Value.ownBlock]; omega))) iv (.int .i64 (rv - 1))).1
            have HGW3 := Lib.hid (show GbAt ((wr.setCell ⟨gl, iu, none⟩ (.int .i64 (lu - 1))).setCell ⟨gr, iv, none⟩ (.int .i64 (rv - 1))) w.heap.size g from (HGW.out.far (p := ⟨gl, iu, none⟩) _ bl1).far (p := ⟨gr, iv, none⟩) _ (by simp; omega))
            have hF1 := Lib.hid (HOL3.out.keep HD.out)
            have hF2 := Lib.hid (OwI.keep (B := w4.heap.size) (n := g.R.length) (L := RR.set iv (rv - 1)) (by have := HOR3.out; rw [← List.map_set] at this; exact this) HD.out)
            have hF4 := Lib.hid (HGW3.out.keep HD.out)
            clear HD HOL3 HOR3 HBW3 HGW3 HT
            go_wp2_with fail
            go_region
            go_wp2_with fail
            go_roundw
            case rel => exact ⟨k + 1, _, _, by omega, by go_num, HN, hF1, hF2, hF3, hF4⟩
            case measure => simp [intOf]; omega
        · have hlz : ¬ (k : Int) < (len : Int) := by omega
          obtain rfl : k = len := by omega
          have HL := Lib.hid (show isB g M = true by
            have := HLv.out
            rw [List.take_of_length_le (by rw [HML.out]; exact Nat.le_refl _)] at this
            rw [HE1.out]
            exact isM_some HR.out this)
          go_wp2_with fail
          go_ret
          exact ⟨ret_bool HL.out.symm, HBW.out⟩
    · have HN := Lib.hid (show isB g M = false by rw [HE1.out]; exact isM_no hr)
      rw [risesB_no hr] at HRs
      clear hr HE1
      go_enter Try.func16, Try.ntmps16
      go_wp2_with fail
      refine HC.out.mono ?_
      rintro e w1 ⟨rfl, hb1⟩
      have HB1 := Lib.hid (HB.out.trans (hb1.mono (Nat.le_of_lt gl0)))
      have HGB1 := Lib.hid (HGB.out.keep hb1)
      have HRs1 := Lib.hid (HRs.out w1 HB1.out)
      have hs1 : w.heap.size ≤ w1.heap.size := HB1.out.size
      clear hb1 g0 g1 g2 gl HRs HC HGB HB
      obtain ⟨g0, g1, g2, gl⟩ := HGB1.out
      go_wp2_with fail
      refine HRs1.out.mono ?_
      rintro e w2 ⟨rfl, hb2⟩
      have HB2 := Lib.hid (HB1.out.trans (hb2.mono hs1))
      clear hb2
      go_wp2_with fail
      go_ret
      exact ⟨ret_bool HN.out.symm, HB2.out⟩
  · have h2 : (chk g != 0) = true := by simpa using h
    have HN := Lib.hid (show isB g M = false by rw [HE.out, decide_eq_false h]; rfl)
    clear HE HRs
    go_enter Try.func16, Try.ntmps16
    go_wp2_with fail
    refine HC.out.mono ?_
    rintro e w1 ⟨rfl, hb1⟩
    have HB1 := Lib.hid (HB.out.trans (hb1.mono (Nat.le_of_lt gl0)))
    clear hb1
    go_wp2_with fail
    go_ret
    exact ⟨ret_bool HN.out.symm, HB1.out⟩
end Go.Proofs.Ytpcdbnlljdfogaa
