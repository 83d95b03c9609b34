/- The contract of Weight. -/
import Derived.Test.YtpcdbnlljdfogaaWgtP
set_option linter.unusedSimpArgs false
set_option linter.unusedVariables false
namespace Go.Proofs.Ytpcdbnlljdfogaa
open Go.RowKit

noncomputable def wgtE (g : Gph) (c : Cvr) : Int := if chk g ≠ 0 then chk g else if (risesB g.L.length c.A && risesB g.R.length c.B) = true then 0 else 1
noncomputable def wgtW (g : Gph) (c : Cvr) : Int := if wgtE g c = 0 then weigh g.L g.R g.E c.A c.B else 0
theorem wgtW_no {g : Gph} {c : Cvr} (h : wgtE g c ≠ 0) : wgtW g c = 0 := by unfold wgtW; rw [if_neg h]
theorem wgtW_ok {g : Gph} {c : Cvr} (h : wgtE g c = 0) : wgtW g c = weigh g.L g.R g.E c.A c.B := by unfold wgtW; rw [if_pos h]
abbrev gBox (g : Gph) : Obj := .cells #[.slice g.aL g.L.length g.cL, .slice g.aR g.R.length g.cR, .slice g.aE g.E.length g.cE] 25
abbrev cBox (c : Cvr) : Obj := .cells #[.slice c.aA c.A.length c.cA, .slice c.aB c.B.length c.cB] 36
set_option maxHeartbeats 4000000 in
set_option maxRecDepth 100000 in
theorem wgt_any (g : Gph) (c : Cvr) (w : World) (hg : GpAt w g) (hc : CvAt w c) :
    Calls Try.prog 18 #[g.val, c.val] w fun e w' => e = .returned (.tuple #[.int .i64 (wgtW g c), .int .i64 (wgtE g c)]) ∧ Below w.heap.size w w' := by
  have HB := Lib.hid (((Below.refl w.heap.size w).alloc (Nat.le_refl _) (gBox g)).alloc (by simp) (cBox c))
  have HGB := Lib.hid ((gb_new w g 25).keep ((Below.refl (w.alloc (gBox g)).heap.size (w.alloc (gBox g))).alloc (Nat.le_refl _) (cBox c)))
  have HCB := Lib.hid (show CbAt ((w.alloc (gBox g)).alloc (cBox c)) (w.heap.size + 1) c by have := cb_new (w.alloc (gBox g)) c 36; simpa using this)
  have HK := Lib.hid (check_any g _ (hg.keep HB.out))
  have HG := Lib.hid (hg.keep HB.out)
  have HC := Lib.hid (hc.keep HB.out)
  have hs0 : w.heap.size ≤ ((w.alloc (gBox g)).alloc (cBox c)).heap.size := HB.out.size
  clear hg hc
  unfold Gph.val at HK ⊢
  unfold Cvr.val
  obtain ⟨g0, g1, g2, gl⟩ := HGB.out
  by_cases h : chk g = 0
  · have HOK := Lib.hid (chk_ok h)
    have HE := Lib.hid (show wgtE g c = if (risesB g.L.length c.A && risesB g.R.length c.B) = true then 0 else 1 by unfold wgtE; rw [if_neg (by simpa using h)])
    rw [h] at HK
    clear h
    have HCl := Lib.hid (fun W hb => incI_any (HC.out.a.keep (w' := W) hb) g.aL g.L.length g.cL)
    have HCr := Lib.hid (fun W hb => incI_any (HC.out.b.keep (w' := W) hb) g.aR g.R.length g.cR)
    cases e1 : risesB g.L.length c.A with
    | false =>
      have HX := Lib.hid (show wgtE g c = 1 by rw [HE.out, e1]; rfl)
      have HW := Lib.hid (wgtW_no (g := g) (c := c) (by rw [HX.out]; decide))
      rw [e1] at HCl
      clear HCr HE e1
      go_enter Try.func18, Try.ntmps18
      go_wp2_with fail
      refine HK.out.mono ?_
      rintro e w1 ⟨rfl, hb1⟩
      have HB1 := Lib.hid (HB.out.trans (hb1.mono hs0))
      have HGB1 := Lib.hid (HGB.out.keep hb1)
      have HCB1 := Lib.hid (HCB.out.keep hb1)
      have HCl1 := Lib.hid (HCl.out w1 hb1)
      clear hb1 g0 g1 g2 gl HCl HK
      obtain ⟨g0, g1, g2, gl⟩ := HGB1.out
      obtain ⟨d0, d1, dl⟩ := HCB1.out
      go_wp2_with fail
      refine HCl1.out.mono ?_
      rintro e w2 ⟨rfl, rfl⟩
      go_wp2_with fail
      go_ret2
      exact ⟨by rw [HX.out, HW.out]; rfl, HB1.out⟩
    | true =>
    rw [e1] at HCl
    cases e2 : risesB g.R.length c.B with
    | false =>
      have HX := Lib.hid (show wgtE g c = 1 by rw [HE.out, e1, e2]; rfl)
      have HW := Lib.hid (wgtW_no (g := g) (c := c) (by rw [HX.out]; decide))
      rw [e2] at HCr
      clear HE e1 e2
      go_enter Try.func18, Try.ntmps18
      go_wp2_with fail
      refine HK.out.mono ?_
      rintro e w1 ⟨rfl, hb1⟩
      have HB1 := Lib.hid (HB.out.trans (hb1.mono hs0))
      have HGB1 := Lib.hid (HGB.out.keep hb1)
      have HCB1 := Lib.hid (HCB.out.keep hb1)
      have HCl1 := Lib.hid (HCl.out w1 hb1)
      have HCr1 := Lib.hid (HCr.out w1 hb1)
      clear hb1 g0 g1 g2 gl HCl HCr HK
      obtain ⟨g0, g1, g2, gl⟩ := HGB1.out
      obtain ⟨d0, d1, dl⟩ := HCB1.out
      go_wp2_with fail
      refine HCl1.out.mono ?_
      rintro e w2 ⟨rfl, rfl⟩
      go_wp2_with fail
      refine HCr1.out.mono ?_
      rintro e w2 ⟨rfl, rfl⟩
      go_wp2_with fail
      go_ret2
      exact ⟨by rw [HX.out, HW.out]; rfl, HB1.out⟩
    | true =>
    have HX := Lib.hid (show wgtE g c = 0 by rw [HE.out, e1, e2]; rfl)
    have HW := Lib.hid (wgtW_ok (g := g) (c := c) HX.out)
    have HrA := Lib.hid (risesB_iff.1 e1)
    have HrB := Lib.hid (risesB_iff.1 e2)
    have HlA := Lib.hid (rises_len HrA.out)
    have HlB := Lib.hid (rises_len HrB.out)
    rw [e2] at HCr
    clear HE e1 e2
    go_enter Try.func18, Try.ntmps18
    go_wp2_with fail
    refine HK.out.mono ?_
    rintro e w1 ⟨rfl, hb1⟩
    have HB1 := Lib.hid (HB.out.trans (hb1.mono hs0))
    have HGB1 := Lib.hid (HGB.out.keep hb1)
    have HCB1 := Lib.hid (HCB.out.keep hb1)
    have HG1 := Lib.hid (HG.out.keep hb1)
    have HC1 := Lib.hid (HC.out.keep hb1)
    have HCl1 := Lib.hid (HCl.out w1 hb1)
    have HCr1 := Lib.hid (HCr.out w1 hb1)
    have hs1 : w.heap.size ≤ w1.heap.size := HB1.out.size
    clear hb1 g0 g1 g2 gl HCl HCr HK HB HGB HCB HG HC hs0
    obtain ⟨g0, g1, g2, gl⟩ := HGB1.out
    obtain ⟨d0, d1, dl⟩ := HCB1.out
    go_wp2_with fail
    refine HCl1.out.mono ?_
    rintro e w2 ⟨rfl, rfl⟩
    go_wp2_with fail
    refine HCr1.out.mono ?_
    rintro e w2 ⟨rfl, rfl⟩
    clear HCl1 HCr1
    obtain ⟨nA, hnA⟩ : ∃ y, y = c.A.length := ⟨_, rfl⟩
    obtain ⟨nB, hnB⟩ : ∃ y, y = c.B.length := ⟨_, rfl⟩
    rw [← hnA] at d0
    rw [← hnB] at d1
    have HnA := Lib.hid hnA
    have HnB := Lib.hid hnB
    have lA : nA ≤ 64 := by have := HOK.out.1; have := HlA.out; omega
    have lB : nB ≤ 64 := by have := HOK.out.2.1; have := HlB.out; omega
    clear hnA hnB
    go_wp2_with fail
    go_loopw [7, 9, 36] (fun s7 _ s36 wr => ∃ (k : Nat) (s : Int), k ≤ nA ∧ s36 = .int .i64 (k : Int) ∧ s7 = .int .i64 s ∧ w1 = wr ∧ 0 ≤ s ∧ s ≤ 1000 * (k : Int) ∧ Hid (s = sumA g.L (c.A.take k))) (fun _ _ s36 _ => (nA - (intOf s36)).toNat)
    case atStart => exact ⟨0, 0, Nat.zero_le _, rfl, rfl, rfl, by decide, by decide, Lib.hid rfl⟩
    case round =>
      obtain ⟨k, s, hk, rfl, rfl, hwr, hs0, hs9, HS⟩ := hrel
      subst hwr
      by_cases hlt : k < nA
      · have hlz : (k : Int) < (nA : Int) := by omega
        have hkA : k < c.A.length := by have := HnA.out; omega
        have haA : c.aA = some ⟨c.bA, c.oA, none⟩ := HC1.out.a.ha (by omega)
        have bA := HC1.out.a.hb (by omega)
        have c0 := HC1.out.a.cell k hkA
        have hca := HC1.out.a.hcap
        have hma := HC1.out.a.hmax
        unfold maxLen at hma
        rw [← HnA.out] at hca
        have hx0 := HrA.out.1 _ (List.getElem_mem hkA)
        obtain ⟨i, hx⟩ : ∃ i : Nat, c.A[k]'hkA = (i : Int) := ⟨(c.A[k]'hkA).toNat, by omega⟩
        have hi : i < g.L.length := by omega
        have hiz : (i : Int) < (g.L.length : Int) := by omega
        have haL : g.aL = some ⟨g.bL, g.oL, none⟩ := HG1.out.l.ha (by omega)
        have bL := HG1.out.l.hb (by omega)
        have l0 := HG1.out.l.cell i hi
        have hlr := HOK.out.2.2.2.1 _ (List.getElem_mem hi)
        have HS1 := Lib.hid (show s + g.L[i]'hi = sumA g.L (c.A.take (k + 1)) by
          rw [sumA_take hkA, ← HS.out, hx, atI_eq (i := (i : Int)) (by simpa using hi)]
          simp)
        rw [hx] at c0
        rw [haA] at d0
        rw [haL] at g0
        generalize g.L[i]'hi = v at *
        clear hx0 hx hi
        go_wp2_with fail
        go_roundw
        case rel => exact ⟨k + 1, s + v, by omega, by go_num, rfl, by first | rfl | trivial, by omega, by omega, HS1⟩
        case measure => simp [intOf]; omega
      · have hlz : ¬ (k : Int) < (nA : Int) := by omega
        obtain rfl : k = nA := by omega
        have HSA := Lib.hid (show s = sumA g.L c.A by
          have := HS.out
          rwa [List.take_of_length_le (by rw [← HnA.out]; exact Nat.le_refl _)] at this)
        clear HS
        go_wp2_with fail
        go_loopw [7, 11, 51] (fun s7 _ s51 wr => ∃ (q : Nat) (t : Int), q ≤ nB ∧ s51 = .int .i64 (q : Int) ∧ s7 = .int .i64 t ∧ w1 = wr ∧ s ≤ t ∧ t ≤ s + 1000 * (q : Int) ∧ Hid (t = s + sumA g.R (c.B.take q))) (fun _ _ s51 _ => (nB - (intOf s51)).toNat)
        case atStart => exact ⟨0, s, Nat.zero_le _, rfl, rfl, rfl, Int.le_refl _, by omega, Lib.hid (by simp [sumA])⟩
        case round =>
          obtain ⟨q, t, hq, rfl, rfl, hwr, ht0, ht9, HT⟩ := hrel
          subst hwr
          by_cases hlt2 : q < nB
          · have hlz2 : (q : Int) < (nB : Int) := by omega
            have hqB : q < c.B.length := by have := HnB.out; omega
            have haB : c.aB = some ⟨c.bB, c.oB, none⟩ := HC1.out.b.ha (by omega)
            have bB := HC1.out.b.hb (by omega)
            have c0 := HC1.out.b.cell q hqB
            have hcb := HC1.out.b.hcap
            have hmb := HC1.out.b.hmax
            unfold maxLen at hmb
            rw [← HnB.out] at hcb
            have hx0 := HrB.out.1 _ (List.getElem_mem hqB)
            obtain ⟨i, hx⟩ : ∃ i : Nat, c.B[q]'hqB = (i : Int) := ⟨(c.B[q]'hqB).toNat, by omega⟩
            have hi : i < g.R.length := by omega
            have hiz : (i : Int) < (g.R.length : Int) := by omega
            have haR : g.aR = some ⟨g.bR, g.oR, none⟩ := HG1.out.r.ha (by omega)
            have bR := HG1.out.r.hb (by omega)
            have l0 := HG1.out.r.cell i hi
            have hlr := HOK.out.2.2.2.2.1 _ (List.getElem_mem hi)
            have HS1 := Lib.hid (show t + g.R[i]'hi = s + sumA g.R (c.B.take (q + 1)) by
              rw [sumA_take hqB, HT.out, hx, atI_eq (i := (i : Int)) (by simpa using hi)]
              simp [Int.add_assoc])
            rw [hx] at c0
            rw [haB] at d1
            rw [haR] at g1
            generalize g.R[i]'hi = v at *
            clear hx0 hx hi
            go_wp2_with fail
            go_roundw
            case rel => exact ⟨q + 1, t + v, by omega, by go_num, rfl, by first | rfl | trivial, by omega, by omega, HS1⟩
            case measure => simp [intOf]; omega
          · have hlz2 : ¬ (q : Int) < (nB : Int) := by omega
            obtain rfl : q = nB := by omega
            have HSB := Lib.hid (show t = sumA g.L c.A + sumA g.R c.B by
              have := HT.out
              rwa [List.take_of_length_le (by rw [← HnB.out]; exact Nat.le_refl _), HSA.out] at this)
            clear HT HSA
            have lE := HOK.out.2.2.1
            have HCN := Lib.hid (fun W hb x => has_any (HC1.out.a.keep (w' := W) hb) x)
            have HCM := Lib.hid (fun W hb x => has_any (HC1.out.b.keep (w' := W) hb) x)
            rw [← HnA.out] at HCN
            rw [← HnB.out] at HCM
            obtain ⟨nE, hnE⟩ : ∃ y, y = g.E.length := ⟨_, rfl⟩
            rw [← hnE] at g2 lE
            have HnE := Lib.hid hnE
            have HGe := Lib.hid HG1.out.e
            clear hnE g0 g1
            generalize g.aE = aE at *
            go_wp2_with fail
            go_loopw [7, 13, 66] (fun s7 _ s66 wr => ∃ (m : Nat) (u : Int), m ≤ nE ∧ s66 = .int .i64 (m : Int) ∧ s7 = .int .i64 u ∧ Hid (Below w1.heap.size w1 wr) ∧ t ≤ u ∧ u ≤ t + (m : Int) ∧ Hid (u = t + (cntO c.A c.B (g.E.take m) : Int))) (fun _ _ s66 _ => (nE - (intOf s66)).toNat)
            case atStart => exact ⟨0, t, Nat.zero_le _, rfl, rfl, Lib.hid (Below.refl _ _), Int.le_refl _, by omega, Lib.hid (by simp [cntO])⟩
            case round =>
              obtain ⟨m, u, hm, rfl, rfl, HBW, hu0, hu9, HU⟩ := hrel
              have hsw : w1.heap.size ≤ wr.heap.size := HBW.out.size
              by_cases hlt3 : m < nE
              · have hlz3 : (m : Int) < (nE : Int) := by omega
                have hmE : m < g.E.length := by have := HnE.out; omega
                have HGW := Lib.hid (HGe.out.keep HBW.out)
                obtain rfl := HGW.out.ha (by omega)
                have bE := HGW.out.hb (by omega)
                have c0 := HGW.out.c0 m hmE
                have c1 := HGW.out.c1 m hmE
                have hce := HGW.out.hcap
                have hme := HGW.out.hmax
                unfold maxLen at hme
                rw [← HnE.out] at hce
                have HCW := Lib.hid (HCB1.out.keep HBW.out)
                have HCT := Lib.hid (cntO_take (A := c.A) (B := c.B) hmE)
                obtain ⟨x, y, hxy⟩ : ∃ x y, g.E[m]'hmE = (x, y) := ⟨_, _, rfl⟩
                rw [hxy] at c0 c1 HCT
                simp only at c0 c1
                have HOt := Lib.hid (show outB c.A c.B (x, y) = (!c.A.contains x && !c.B.contains y) from rfl)
                have HB2 := Lib.hid (HBW.out.alloc hsw (.cells #[.int .i64 x, .int .i64 y] 52))
                have HN1 := Lib.hid (HCN.out _ HB2.out x)
                have HN2 := Lib.hid (HCM.out _ HB2.out y)
                obtain ⟨d0, d1, dl⟩ := HCW.out
                rw [← HnA.out] at d0
                rw [← HnB.out] at d1
                clear hxy HGW HCW
                cases p1 : c.A.contains x with
                | true =>
                  have HF := Lib.hid (show u = t + (cntO c.A c.B (g.E.take (m + 1)) : Int) by
                    rw [HCT.out, HOt.out, p1, HU.out]; simp)
                  rw [p1] at HN1
                  clear HN2 HCT HOt p1 HU
                  go_wp2_with fail
                  refine HN1.out.mono ?_
                  rintro e w3 ⟨rfl, rfl⟩
                  go_wp2_with fail
                  go_roundw
                  case rel => exact ⟨m + 1, u, by omega, by go_num, rfl, HB2, by omega, by omega, HF⟩
                  case measure => simp [intOf]; omega
                | false =>
                  rw [p1] at HN1
                  cases p2 : c.B.contains y with
                  | true =>
                    have HF := Lib.hid (show u = t + (cntO c.A c.B (g.E.take (m + 1)) : Int) by
                      rw [HCT.out, HOt.out, p1, p2, HU.out]; simp)
                    rw [p2] at HN2
                    clear HCT HOt p1 p2 HU
                    go_wp2_with fail
                    refine HN1.out.mono ?_
                    rintro e w3 ⟨rfl, rfl⟩
                    go_wp2_with fail
                    refine HN2.out.mono ?_
                    rintro e w3 ⟨rfl, rfl⟩
                    go_wp2_with fail
                    go_roundw
                    case rel => exact ⟨m + 1, u, by omega, by go_num, rfl, HB2, by omega, by omega, HF⟩
                    case measure => simp [intOf]; omega
                  | false =>
                    have HF := Lib.hid (show u + 1 = t + (cntO c.A c.B (g.E.take (m + 1)) : Int) by
                      rw [HCT.out, HOt.out, p1, p2, HU.out]; simp; omega)
                    rw [p2] at HN2
                    clear HCT HOt p1 p2 HU
                    go_wp2_with fail
                    refine HN1.out.mono ?_
                    rintro e w3 ⟨rfl, rfl⟩
                    go_wp2_with fail
                    refine HN2.out.mono ?_
                    rintro e w3 ⟨rfl, rfl⟩
                    go_wp2_with fail
                    go_roundw
                    case rel => exact ⟨m + 1, u + 1, by omega, by go_num, by go_num, HB2, by omega, by omega, HF⟩
                    case measure => simp [intOf]; omega
              · have hlz3 : ¬ (m : Int) < (nE : Int) := by omega
                obtain rfl : m = nE := by omega
                have HF := Lib.hid (show wgtW g c = u by
                  rw [HW.out, HU.out, HSB.out]
                  unfold weigh
                  rw [List.take_of_length_le (by rw [← HnE.out]; exact Nat.le_refl _)])
                have HBF := Lib.hid (HB1.out.trans (HBW.out.mono hs1))
                go_wp2_with fail
                go_ret2
                exact ⟨by rw [HX.out, HF.out]; rfl, HBF.out⟩
  · have h2 : (chk g != 0) = true := by simpa using h
    have HE := Lib.hid (show wgtE g c = chk g by unfold wgtE; rw [if_pos h])
    have HW := Lib.hid (wgtW_no (g := g) (c := c) (by rw [HE.out]; exact h))
    go_enter Try.func18, Try.ntmps18
    go_wp2_with fail
    refine HK.out.mono ?_
    rintro e w1 ⟨rfl, hb1⟩
    have HB1 := Lib.hid (HB.out.trans (hb1.mono hs0))
    clear hb1
    go_wp2_with fail
    go_ret2
    exact ⟨by rw [HE.out, HW.out]; rfl, HB1.out⟩
end Go.Proofs.Ytpcdbnlljdfogaa
