/- MatchingHall: for every graph: either all capacities on the left are used up, or Violator names left vertices whose capacities exceed what they are connected with. -/
import Derived.Test.YtpcdbnlljdfogaaAwk
import Derived.Test.YtpcdbnlljdfogaaHal
import Derived.Test.YtpcdbnlljdfogaaSml
set_option linter.unusedSimpArgs false
set_option linter.unusedVariables false
namespace Go.Proofs.Ytpcdbnlljdfogaa
open Go.RowKit

theorem risesB_eq {n : Nat} {L : List Int} (h : Rises n L) : risesB n L = true := by
  unfold risesB
  exact decide_eq_true h
theorem sum_take {l : List Int} {k : Nat} (hk : k < l.length) : (l.take (k + 1)).sum = (l.take k).sum + l[k]'hk := by
  rw [List.take_succ_eq_append_getElem hk, List.sum_append]
  simp
theorem sum_le {l : List Int} (h : ∀ x ∈ l, 0 ≤ x ∧ x ≤ 1000) : ∀ k, 0 ≤ (l.take k).sum ∧ (l.take k).sum ≤ 1000 * (k : Int)
  | 0 => by simp
  | k + 1 => by
    have ih := sum_le h k
    by_cases hk : k < l.length
    · rw [sum_take hk]
      have := h _ (List.getElem_mem hk)
      omega
    · rw [List.take_of_length_le (by omega)]
      rw [List.take_of_length_le (by omega)] at ih
      omega
set_option maxHeartbeats 16000000 in
set_option maxRecDepth 100000 in
theorem law_hall (g : Gph) (w : World) (hg : GpAt w g) :
    Calls Try.prog 8 #[g.val] w fun e w' => e = .returned (.bool true) ∧ Below w.heap.size w w' := by
  have HB := Lib.hid ((Below.refl w.heap.size w).alloc (Nat.le_refl _) (gBox g))
  have HGB := Lib.hid (gb_new w g 25)
  have HG := Lib.hid (fun W (h : Below w.heap.size w W) => hg.keep h)
  have hs0 : w.heap.size ≤ (w.alloc (gBox g)).heap.size := HB.out.size
  have HAw := Lib.hid (awk_any (w.alloc (gBox g)))
  clear hg
  unfold gBox at HB HGB hs0 HAw
  unfold Gph.val
  go_enter Try.func8, Try.ntmps8
  go_wp2_with fail
  refine HAw.out.mono ?_
  rintro e w1 ⟨rfl, hb1⟩
  have HB1 := Lib.hid (HB.out.trans (hb1.mono hs0))
  have HGB1 := Lib.hid (HGB.out.keep hb1)
  have hs1 : w.heap.size ≤ w1.heap.size := HB1.out.size
  clear hb1 HB HGB hs0 HAw
  have HS1 := Lib.hid (small_any g w1 40 100)
  unfold Gph.val at HS1
  obtain ⟨g0, g1, g2, gl⟩ := HGB1.out
  go_wp2_with fail
  refine HS1.out.mono ?_
  rintro e w2 ⟨rfl, hb2⟩
  have HB2 := Lib.hid (HB1.out.trans (hb2.mono hs1))
  have HGB2 := Lib.hid (HGB1.out.keep hb2)
  have hs2 : w.heap.size ≤ w2.heap.size := HB2.out.size
  clear hb2 HGB1 HB1 hs1 HS1 g0 g1 g2 gl
  obtain ⟨g0, g1, g2, gl⟩ := HGB2.out
  generalize smallB g 40 100 = sm
  cases sm with
  | false =>
    go_wp2_with fail
    go_ret
    exact ⟨rfl, HB2.out⟩
  | true =>
  have HK := Lib.hid (check_any g w2 (HG.out w2 HB2.out))
  unfold Gph.val at HK
  go_wp2_with fail
  refine HK.out.mono ?_
  rintro e w3 ⟨rfl, hb3⟩
  have HB3 := Lib.hid (HB2.out.trans (hb3.mono hs2))
  have HGB3 := Lib.hid (HGB2.out.keep hb3)
  have hs3 : w.heap.size ≤ w3.heap.size := HB3.out.size
  clear hb3 HGB2 HB2 hs2 HK g0 g1 g2 gl
  obtain ⟨g0, g1, g2, gl⟩ := HGB3.out
  by_cases hk : chk g = 0
  · have hk1 : (chk g != 0) = false := by simp [hk]
    obtain ⟨Rf, M, f1, f2, f3, m1, m2⟩ := konig hk (nG g) (1000 * mG g + 1) (Nat.le_refl _) (Nat.lt_succ_self _)
    obtain ⟨l1, l2, l3, hL, _⟩ := chk_ok hk
    have HGr := Lib.hid (fun W (hW : Below w.heap.size w W) => gre_any g W (HG.out W hW) hk _ _ M f2)
    have HCo := Lib.hid (fun W (hW : Below w.heap.size w W) => cov_any g W (HG.out W hW) hk _ _ Rf f1)
    have HVi := Lib.hid (fun W (hW : Below w.heap.size w W) => vio_any g W (HG.out W hW) hk _ _ Rf f1)
    have hcut := cut_weight hk f3
    have HFu := Lib.hid (show (M.length : Int) = g.L.sum → vioL g Rf = [] ∧ vioE g Rf = 8 from fun hh => by
      have h1 := hall_full hk f3 (by rw [← hcut, ← m2]; exact hh)
      have h2 : vioL g Rf = [] := by
        rw [vioL_eq]
        unfold selN
        rw [List.map_eq_nil_iff, List.filter_eq_nil_iff]
        intro i hi
        have := h1 i (List.mem_range.1 hi)
        simp [this]
      refine ⟨h2, ?_⟩
      unfold vioE
      rw [h2]
      rfl)
    have HPa := Lib.hid (show (M.length : Int) ≠ g.L.sum → vioE g Rf = 0 ∧ violB g (vioL g Rf) = true from fun hh => by
      have h1 := hall_part hk m1 m2 hh
      exact ⟨by unfold vioE; rw [if_neg h1.1], h1.2⟩)
    have HTw := Lib.hid (show (vioL g Rf).length + (covL g Rf).length = g.L.length by rw [vioL_eq]; exact selN_two _ _)
    have HRi := Lib.hid (show Rises g.L.length (vioL g Rf) by rw [vioL_eq]; exact rises_selN _ _)
    have HDj := Lib.hid (show ∀ x ∈ vioL g Rf, x ∉ covL g Rf from fun x hx hx2 => by
      have hr := (rises_selN (fun i => !(covL g Rf).contains (i : Int)) g.L.length).1 x hx
      have := (mem_selN hr.1 hr.2).1 hx
      rw [Int.toNat_of_nonneg hr.1] at this
      simp [hx2] at this)
    have HVl := Lib.hid (fun W (hW : Below w.heap.size w W) {a : Option Addr} {b off len cap : Nat} (hS : SlI W a b off len cap (vioL g Rf)) => vld_any g W (HG.out W hW) hk hS HRi.out (by have := HTw.out; omega))
    have HSu := Lib.hid (fun k => sum_le hL k)
    generalize chk g = kk at hk1
    clear hk m1 m2 f1 f2 f3 hL hcut
    unfold Gph.val at HGr HCo HVi HVl
    generalize covL g Rf = CL at *
    generalize covR g Rf = CR at *
    generalize vioE g Rf = ve at *
    generalize hVL : vioL g Rf = VL at *
    clear hVL
    have HN3 := Lib.hid (HGr.out w3 HB3.out)
    go_wp2_with fail
    refine HN3.out.mono ?_
    rintro e w4 ⟨vm, rfl, hom, hb4⟩
    obtain ⟨am, cm, hvm, -⟩ := own_shape hom
    subst hvm
    have HB4 := Lib.hid (HB3.out.trans (hb4.mono hs3))
    have HGB4 := Lib.hid (HGB3.out.keep hb4)
    have hs4 : w.heap.size ≤ w4.heap.size := HB4.out.size
    clear hb4 hom HGB3 HB3 hs3 HN3 HGr g0 g1 g2 gl
    obtain ⟨g0, g1, g2, gl⟩ := HGB4.out
    have HN4 := Lib.hid (HVi.out w4 HB4.out)
    go_wp2_with fail
    refine HN4.out.mono ?_
    rintro e w5 ⟨vv, rfl, hov, hb5⟩
    obtain ⟨av, bv, cv, rfl, hsv, -⟩ := own_sli hov
    have HSv := Lib.hid hsv
    have HB5 := Lib.hid (HB4.out.trans (hb5.mono hs4))
    have HGB5 := Lib.hid (HGB4.out.keep hb5)
    have hs5 : w.heap.size ≤ w5.heap.size := HB5.out.size
    clear hb5 hov hsv HGB4 HB4 hs4 HN4 HVi g0 g1 g2 gl
    obtain ⟨g0, g1, g2, gl⟩ := HGB5.out
    have HN5 := Lib.hid (HCo.out w5 HB5.out)
    go_wp2_with fail
    refine HN5.out.mono ?_
    rintro e w6' ⟨v1, v2, rfl, ho1, ho2, hb6'⟩
    obtain ⟨a1, d1, c1, rfl, hs1', -⟩ := own_sli ho1
    obtain ⟨a2, d2, c2, rfl, hs2', -⟩ := own_sli ho2
    have hb6 := hb6'.alloc hb6'.size (.cells #[.slice a1 CL.length c1, .slice a2 CR.length c2] 36)
    have hn6 := (Below.refl w6'.heap.size w6').alloc (Nat.le_refl _) (.cells #[.slice a1 CL.length c1, .slice a2 CR.length c2] 36)
    obtain ⟨w6, hw6⟩ : ∃ y, y = w6'.alloc (.cells #[.slice a1 CL.length c1, .slice a2 CR.length c2] 36) := ⟨_, rfl⟩
    rw [← hw6] at hb6 hn6
    have k0 : w6.cell? ⟨w6'.heap.size, 0, none⟩ = some (.slice a1 CL.length c1) := by rw [hw6]; simp [go_sem]
    have hk6 : w6'.heap.size < w6.heap.size := by rw [hw6]; simp
    have HS1 := Lib.hid (hs1'.keep hn6)
    have HSv6 := Lib.hid (HSv.out.keep hb6)
    have K0 := Lib.hid k0
    have Hw6 := Lib.hid hw6
    have HB6 := Lib.hid (HB5.out.trans (hb6.mono hs5))
    have HGB6 := Lib.hid (HGB5.out.keep hb6)
    have hs6 : w.heap.size ≤ w6.heap.size := HB6.out.size
    clear HGB5 HB5 hs5 g0 g1 g2 gl hb6 hb6' hn6 HN5 HCo hw6 ho1 ho2 hs1' hs2' HSv k0
    obtain ⟨nl, hnl⟩ : ∃ y, y = g.L.length := ⟨_, rfl⟩
    have Hnl := Lib.hid hnl
    rw [← hnl] at l1 HTw HRi
    clear hnl
    go_wp2_with fail
    rw [← Hw6.out]
    clear Hw6
    obtain ⟨mL, hmL⟩ : ∃ y, y = M.length := ⟨_, rfl⟩
    rw [← hmL] at HFu HPa
    have hml2 : M.length = mL := hmL.symm
    clear hmL
    go_loopw [9, 10] (fun s9 s10 wq => ∃ (k : Nat), s9 = .int .i64 (g.L.take k).sum ∧ s10 = .int .i64 (k : Int) ∧ k ≤ nl ∧ w6 = wq) (fun _ s10 _ => (nl - (intOf s10)).toNat)
    case atStart => exact ⟨0, by simp, rfl, Nat.zero_le _, rfl⟩
    case round =>
      obtain ⟨k, rfl, rfl, hkn, hwr⟩ := hrel
      subst hwr
      obtain ⟨g0, g1, g2, gl⟩ := HGB6.out
      rw [← Hnl.out] at g0
      by_cases hlt : k < nl
      · have hlz : (k : Int) < (nl : Int) := by omega
        have hkL : k < g.L.length := by have := Hnl.out; omega
        have HGr := Lib.hid (HG.out _ HB6.out)
        have haL : g.aL = some ⟨g.bL, g.oL, none⟩ := HGr.out.l.ha (by omega)
        have bL := HGr.out.l.hb (by omega)
        have hcL := HGr.out.l.hcap
        have hmL := HGr.out.l.hmax
        unfold maxLen at hmL
        rw [← Hnl.out] at hcL
        have d0 := HGr.out.l.cell k hkL
        have hst := sum_take hkL
        have hb1 := HSu.out k
        have hb2 := HSu.out (k + 1)
        rw [haL] at g0
        clear haL
        generalize g.L[k]'hkL = lk at *
        obtain ⟨s2, hs2⟩ : ∃ y, y = (g.L.take (k + 1)).sum := ⟨_, rfl⟩
        obtain ⟨s1, hs1⟩ : ∃ y, y = (g.L.take k).sum := ⟨_, rfl⟩
        rw [← hs2] at hst hb2
        rw [← hs1] at hst hb1 ⊢
        have Hs2 := Lib.hid hs2
        have hsw : IntKind.i64.wrap (s1 + lk) = s1 + lk := IntWalk.i64_in _ (by omega)
        clear hs1 hs2 HGr hkL
        go_wp2_with fail
        go_roundw
        case rel => exact ⟨k + 1, by rw [← Hs2.out, hst], by go_num, by omega, trivial⟩
        case measure => simp [intOf]; omega
      · have hlz : ¬ (k : Int) < (nl : Int) := by omega
        have hsm : (g.L.take k).sum = g.L.sum := by rw [List.take_of_length_le (by have := Hnl.out; omega)]
        rw [hsm]
        obtain ⟨sL, hsL⟩ : ∃ y, y = g.L.sum := ⟨_, rfl⟩
        rw [← hsL] at HFu HPa ⊢
        clear hsL hsm hlt
        by_cases hq : (mL : Int) = sL
        · have hqb : ((mL : Int) == sL) = true := by simpa using hq
          obtain ⟨v1, v2⟩ := HFu.out hq
          subst v1
          subst v2
          clear hq
          go_wp2_with fail
          go_ret
          exact ⟨rfl, HB6.out⟩
        · have hqb : ((mL : Int) == sL) = false := by simpa using hq
          obtain ⟨v1, v2⟩ := HPa.out hq
          subst v1
          have HVb := Lib.hid v2
          clear hq v2
          have hll : ((VL.length : Int) + (CL.length : Int) != (nl : Int)) = false := by
            have := HTw.out
            simp
            omega
          have hww : IntKind.i64.wrap ((VL.length : Int) + (CL.length : Int)) = (VL.length : Int) + (CL.length : Int) := IntWalk.i64_in _ (by have := HTw.out; omega)
          have HRr := Lib.hid (rris_any HSv6.out nl)
          rw [risesB_eq HRi.out] at HRr
          have k0 := K0.out
          go_wp2_with fail
          refine HRr.out.mono ?_
          rintro e w7 ⟨rfl, hb7⟩
          have HB7 := Lib.hid (HB6.out.trans (hb7.mono hs6))
          have HGB7 := Lib.hid (HGB6.out.keep hb7)
          have HS17 := Lib.hid (HS1.out.keep hb7)
          have HSv7 := Lib.hid (HSv6.out.keep hb7)
          have K7 := Lib.hid ((hb7.cell (p := ⟨w6'.heap.size, 0, none⟩) hk6).trans k0)
          have hk7 := Nat.lt_of_lt_of_le hk6 hb7.size
          have hs7 : w.heap.size ≤ w7.heap.size := HB7.out.size
          have HBz := Lib.hid (Below.refl w7.heap.size w7)
          clear hb7 HGB6 HB6 hs6 HS1 HSv6 K0 k0 hk6 HRr g0 g1 g2 gl HSu HFu HPa
          have hvl : VL.length ≤ 64 := by have := HTw.out; omega
          have hcl : CL.length ≤ 64 := by have := HTw.out; omega
          go_wp2_with fail
          go_loopw [11, 12] (fun s11 _ wq => ∃ (i : Nat), s11 = .int .i64 (i : Int) ∧ i ≤ VL.length ∧ Hid (Below w7.heap.size w7 wq)) (fun s11 _ _ => (VL.length - (intOf s11)).toNat)
          case atStart => exact ⟨0, rfl, Nat.zero_le _, HBz⟩
          case round =>
            clear HBz
            obtain ⟨i, rfl, hi, HBx⟩ := hrel
            by_cases hlt : i < VL.length
            · have hlz2 : (i : Int) < (VL.length : Int) := by omega
              have HBy := HBx
              clear HBx
              go_wp2_with fail
              go_loopw [12] (fun s12 wq => ∃ (j : Nat), s12 = .int .i64 (j : Int) ∧ j ≤ CL.length ∧ Hid (Below w7.heap.size w7 wq)) (fun s12 _ => (CL.length - (intOf s12)).toNat)
              case atStart => exact ⟨0, rfl, Nat.zero_le _, HBy⟩
              case round =>
                clear HBy
                obtain ⟨j, rfl, hj, HBx⟩ := hrel
                have k0 := (HBx.out.cell (p := ⟨w6'.heap.size, 0, none⟩) hk7).trans K7.out
                by_cases hlt2 : j < CL.length
                · have hlz3 : (j : Int) < (CL.length : Int) := by omega
                  have HSa := Lib.hid (HS17.out.keep HBx.out)
                  have HSb := Lib.hid (HSv7.out.keep HBx.out)
                  have ha1 := HSa.out.ha (by omega)
                  have hav := HSb.out.ha (by omega)
                  have q1 := HSa.out.hb (by omega)
                  have q2 := HSb.out.hb (by omega)
                  have q3 := HSa.out.hcap
                  have q4 := HSb.out.hcap
                  have q5 := HSa.out.hmax
                  have q6 := HSb.out.hmax
                  unfold maxLen at q5 q6
                  have e1 := HSa.out.cell j hlt2
                  have e2 := HSb.out.cell i hlt
                  rw [Nat.zero_add] at e1 e2
                  have hne : ¬ VL[i]'hlt = CL[j]'hlt2 := fun he => HDj.out _ (List.getElem_mem hlt) (by rw [he]; exact List.getElem_mem hlt2)
                  have hneb : (VL[i]'hlt == CL[j]'hlt2) = false := by simpa using hne
                  have HB2 := Lib.hid (fun nq => bel_drewN HBx.out nq)
                  generalize VL[i]'hlt = vi at *
                  generalize CL[j]'hlt2 = cj at *
                  subst ha1
                  subst hav
                  clear HSa HSb HBx hne
                  go_wp2_with fail
                  go_quiet (fail)
                  go_wp2_with fail
                  have HB3 := Lib.hid (HB2.out nq)
                  go_roundw
                  case rel => exact ⟨j + 1, by go_num, by omega, HB3⟩
                  case measure => simp [intOf]; omega
                · have hlz3 : ¬ (j : Int) < (CL.length : Int) := by omega
                  go_wp2_with fail
                  go_roundw
                  case rel => exact ⟨i + 1, by go_num, by omega, HBx⟩
                  case measure => simp [intOf]; omega
            · have hlz2 : ¬ (i : Int) < (VL.length : Int) := by omega
              have HBf := Lib.hid (HB7.out.trans (HBx.out.mono hs7))
              have HVf := Lib.hid (HVl.out wr HBf.out (HSv7.out.keep HBx.out))
              rw [HVb.out] at HVf
              have hsr := HBf.out.size
              obtain ⟨g0, g1, g2, gl⟩ := (HGB7.out.keep HBx.out)
              go_wp2_with fail
              refine HVf.out.mono ?_
              rintro e w9 ⟨rfl, hb9⟩
              have HB9 := Lib.hid (HBf.out.trans (hb9.mono hsr))
              clear hb9
              go_wp2_with fail
              go_ret
              exact ⟨rfl, HB9.out⟩
  · have hk1 : (chk g != 0) = true := by simpa using hk
    generalize chk g = kk at hk1
    go_wp2_with fail
    go_ret
    exact ⟨rfl, HB3.out⟩
end Go.Proofs.Ytpcdbnlljdfogaa
