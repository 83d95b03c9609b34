/- The contract of a network's search. -/
import Derived.Test.YtpcdbnlljdfogaaNet
import Derived.Deep.QuietTactic
set_option linter.unusedSimpArgs false
set_option linter.unusedVariables false
namespace Go.Proofs.Ytpcdbnlljdfogaa
open Go.RowKit

theorem fold_take {H R L : List Int} {st : List Int × List Int} {j : Nat} (hj : j < L.length) : (L.take (j + 1)).foldl (arcS H R) st = arcS H R ((L.take j).foldl (arcS H R) st) (L[j]'hj) := by
  rw [List.take_succ_eq_append_getElem hj, List.foldl_append]
  rfl
theorem arcS_no {H R : List Int} {st : List Int × List Int} {e v : Nat} (he : e < H.length) (hv : H[e]'he = (v : Int)) (her : e < R.length) (hvl : v < st.1.length) (h : ¬ (R[e]'her > 0 ∧ st.1[v]'hvl = -1)) : arcS H R st (e : Int) = st := by
  have h1 : atI H (e : Int) = (v : Int) := by rw [atI_eq (i := (e : Int)) (by simpa using he)]; simpa using hv
  unfold arcS
  rw [h1, atI_eq (L := R) (i := (e : Int)) (by simpa using her), atI_eq (L := st.1) (i := (v : Int)) (by simpa using hvl)]
  rw [if_neg (by simpa using h)]
theorem arcS_yes {H R : List Int} {st : List Int × List Int} {e v : Nat} (he : e < H.length) (hv : H[e]'he = (v : Int)) (her : e < R.length) (hvl : v < st.1.length) (h : R[e]'her > 0 ∧ st.1[v]'hvl = -1) : arcS H R st (e : Int) = (st.1.set v (e : Int), st.2 ++ [(v : Int)]) := by
  have h1 : atI H (e : Int) = (v : Int) := by rw [atI_eq (i := (e : Int)) (by simpa using he)]; simpa using hv
  unfold arcS
  rw [h1, atI_eq (L := R) (i := (e : Int)) (by simpa using her), atI_eq (L := st.1) (i := (v : Int)) (by simpa using hvl)]
  rw [if_pos (by simpa using h)]
  simp
set_option maxHeartbeats 8000000 in
set_option maxRecDepth 100000 in
theorem srch_any (N : Nt) (nb : Nat) (w : World) (hN : NtAt w nb N) (wf : NtWf N) (v : Nat) (hv : v < N.A.length) :
    Calls Try.prog 43 #[.pointer (some ⟨nb, 0, none⟩), .int .i64 (v : Int)] w fun e w' => ∃ g, e = .returned (.slice (some ⟨g, 0, none⟩) N.A.length N.A.length) ∧ OwI w' w.heap.size (.slice (some ⟨g, 0, none⟩) N.A.length N.A.length) N.A.length (srch N.H N.R N.arcs (v : Int)) ∧ Below w.heap.size w w' := by
  have HNw := Lib.hid hN
  have HWf := Lib.hid wf
  have asz := wf.asz
  have hB0 := (Below.refl w.heap.size w).alloc (Nat.le_refl _) (.cells #[.int .i64 (-1)] 3)
  have HB0 := Lib.hid hB0
  have HN0 := Lib.hid (hN.keep hB0)
  have HRp := Lib.hid (rpt_any w.heap.size N.A.length (-1) (w.alloc (.cells #[.int .i64 (-1)] 3)) (by omega) (by omega) (by simp [go_sem]) (by simp))
  have hvz : (v : Int) < (N.A.length : Int) := by omega
  clear hN wf hB0
  obtain ⟨tg, htg⟩ : ∃ tg, tg = srch N.H N.R N.arcs (v : Int) := ⟨_, rfl⟩
  rw [← htg]
  have HTg := Lib.hid htg
  clear htg
  obtain ⟨nA, hnA⟩ : ∃ y, y = N.A.length := ⟨_, rfl⟩
  have HnA := Lib.hid hnA
  have c4 := HN0.out.c4
  have hac := HN0.out.ac
  have nl := HN0.out.lt
  rw [← hnA] at HRp c4 asz hvz hac hv ⊢
  clear hnA
  obtain ⟨i0, hi0, hz0, hz1, hz2⟩ := info_parts infoI
  have hma := hac.2
  unfold maxLen at hma
  go_enter Try.func43, Try.ntmps43
  go_wp2_with fail
  refine HRp.out.mono ?_
  rintro e w2 ⟨g, rfl, ho, hb2⟩
  have HO2 := Lib.hid ho
  have HB2 := Lib.hid (HB0.out.trans (hb2.mono (by simp)))
  have hg2 := (World.ownsRow.lt ho g rfl)
  have hgw : w.heap.size + 1 ≤ g := by have := hg2.1; simpa using this
  have hg3 := hg2.2
  have fz := World.ownsRow.frozenAt ho v
  have cv : w2.cell? ⟨g, v, none⟩ = some (.int .i64 (-1)) := by have := ho.at_ v (by simpa using hv); simpa using this
  have HO3 := Lib.hid ((ho.put v (-2)).mono (C := w.heap.size + 1) (by simp))
  have HB3 := Lib.hid (HB2.out.setCell (p := ⟨g, v, none⟩) (by simp; omega) (.int .i64 (-2)))
  clear ho hb2 HRp HO2 HB2 hg2 c4 nl
  go_wp2_with fail
  have HOb := Lib.hid (World.ownsRow.alloc HO3.out (.cells #[.int .i64 (v : Int)] 3))
  have HOq := Lib.hid (show OwI ((w2.setCell ⟨g, v, none⟩ (.int .i64 (-2))).alloc (.cells #[.int .i64 (v : Int)] 3)) w2.heap.size (.slice (some ⟨w2.heap.size, 0, none⟩) 1 1) 1 [(v : Int)] by
    have := World.ownsRow_lit (base := w2.heap.size) (e := 3) (size := 1) (w2.setCell ⟨g, v, none⟩ (.int .i64 (-2))) #[.int .i64 (v : Int)] 1 (by simp) (by unfold maxLen; omega) (by simp)
    simp at this
    exact this)
  have HB4 := Lib.hid (HB3.out.alloc HB3.out.size (.cells #[.int .i64 (v : Int)] 3))
  have HI0 := Lib.hid (binv_start (n := nA) (H := N.H) (v := (v : Int)) (by omega) hvz)
  have hst : start nA (v : Int) = ((List.replicate nA (-1)).set v (-2), [(v : Int)]) := by unfold start; simp
  rw [hst] at HI0
  have HT0 := Lib.hid (show bfs N.H N.R N.arcs (nA + 1 - 0) 0 ((List.replicate nA (-1)).set v (-2), [(v : Int)]) = tg by
    rw [HTg.out]
    unfold srch
    rw [show N.arcs.length = nA by rw [HnA.out]; unfold Nt.arcs; simp, hst]
    rfl)
  clear hst HO3 HB3 cv fz
  go_loopw [6, 7, 9, 10] (fun s6 s7 _ _ wq => ∃ (i : Nat) (by_ q : List Int) (vq : Value), s6 = vq ∧ s7 = .int .i64 (i : Int) ∧ i ≤ nA ∧ Hid (i ≤ q.length) ∧ Hid (bfs N.H N.R N.arcs (nA + 1 - i) i (by_, q) = tg) ∧ Hid (BInv nA N.H (by_, q)) ∧ Hid (OwI wq (w.heap.size + 1) (.slice (some ⟨g, 0, none⟩) nA nA) nA by_) ∧ Hid (OwI wq w2.heap.size vq q.length q) ∧ Hid (Below w.heap.size w wq)) (fun _ s7 _ _ _ => (nA - (intOf s7)).toNat)
  case atStart => exact ⟨0, _, _, _, rfl, rfl, Nat.zero_le _, Lib.hid (Nat.zero_le _), HT0, HI0, HOb, HOq, HB4⟩
  case round =>
    clear HOb HOq HB4 HI0 HT0
    obtain ⟨i, by_, q, vq, rfl, rfl, hin, HiL, HT, HI, HOb, HOq, HB⟩ := hrel
    have hql := HI.out.cnt
    simp only at hql
    by_cases hlt : i < q.length
    · obtain ⟨gq, cq, rfl, bq1, bq2, bq3, bq4⟩ := HOq.out.shape (by omega)
      have hlz : (i : Int) < (q.length : Int) := by omega
      have cq0 := HOq.out.at_ i hlt
      have hq0 := HI.out.q _ (List.getElem_mem hlt)
      obtain ⟨u, hu⟩ : ∃ u : Nat, q[i]'hlt = (u : Int) := ⟨(q[i]'hlt).toNat, by omega⟩
      rw [hu] at cq0
      have hun : u < N.A.length := by have := HnA.out; omega
      have huz : (u : Int) < (nA : Int) := by omega
      have HNr := Lib.hid (HNw.out.keep HB.out)
      have c4 := HNr.out.c4
      rw [← HnA.out] at c4
      have ca := HNr.out.at_ u hun
      have nal := HNr.out.al
      have HSr := Lib.hid (fun W (hb : Below w.heap.size w W) => (HNw.out.keep hb).i _ (List.getElem_mem hun))
      have HAv := Lib.hid (HWf.out.av _ (List.getElem_mem hun))
      have HTn := Lib.hid (show bfs N.H N.R N.arcs (nA + 1 - (i + 1)) (i + 1) ((N.A[u]'hun).L.foldl (arcS N.H N.R) (by_, q)) = tg by
        rw [← HT.out, show nA + 1 - i = (nA - i) + 1 by omega]
        conv => rhs; unfold bfs
        rw [if_pos hlt, show nA + 1 - (i + 1) = nA - i by omega]
        have e1 : N.arcs.getD (q.getD i 0).toNat [] = (N.A[u]'hun).L := by
          rw [List.getD_eq_getElem?_getD, List.getD_eq_getElem?_getD, List.getElem?_eq_getElem hlt, Option.getD_some, hu, Int.toNat_natCast]
          unfold Nt.arcs
          rw [List.getElem?_map, List.getElem?_eq_getElem hun]
          rfl
        rw [e1])
      have HiL1 : i + 1 ≤ nA := by omega
      unfold Ar.val at ca
      generalize N.A[u]'hun = r at *
      generalize r.a = ra at *
      obtain ⟨nr, hnr⟩ : ∃ y, y = r.L.length := ⟨_, rfl⟩
      rw [← hnr] at ca
      have Hnr := Lib.hid hnr
      clear hnr hq0 hu HT
      go_wp2_with fail
      go_quiet (fail)
      go_wp2_with fail
      have HB5 := Lib.hid (bel_drewN HB.out nq)
      have HOb5 := Lib.hid (HOb.out.keep (bel_drewN (Below.refl _ _) nq))
      have HOq5 := Lib.hid (HOq.out.keep (bel_drewN (Below.refl _ _) nq))
      generalize wr.drewN nq = w5 at *
      clear HOb HOq HB HNr cq0 c4 ca
      go_loopw [6, 9, 10, 40] (fun s6 _ _ s40 wq => ∃ (j : Nat) (b2 q2 : List Int) (v2 : Value), s6 = v2 ∧ s40 = .int .i64 (j : Int) ∧ j ≤ nr ∧ Hid (i + 1 ≤ q2.length) ∧ Hid ((r.L.take j).foldl (arcS N.H N.R) (by_, q) = (b2, q2)) ∧ Hid (BInv nA N.H (b2, q2)) ∧ Hid (OwI wq (w.heap.size + 1) (.slice (some ⟨g, 0, none⟩) nA nA) nA b2) ∧ Hid (OwI wq w2.heap.size v2 q2.length q2) ∧ Hid (Below w.heap.size w wq)) (fun _ _ _ s40 _ => (nr - (intOf s40)).toNat)
      case atStart => exact ⟨0, _, _, _, rfl, rfl, Nat.zero_le _, Lib.hid hlt, Lib.hid rfl, HI, HOb5, HOq5, HB5⟩
      case round =>
        clear HOb5 HOq5 HB5
        obtain ⟨j, b2, q2, v2, hv2, rfl, hjn, HiL2, HFd, HI2, HOb, HOq, HB⟩ := hrel
        subst hv2
        obtain ⟨gq2, cq2, rfl, bq5, bq6, bq7, bq8⟩ := HOq.out.shape (by have := HiL2.out; omega)
        by_cases hjl : j < nr
        · have hjz : (j : Int) < (nr : Int) := by omega
          have hjL : j < r.L.length := by have := Hnr.out; omega
          have HSj := Lib.hid (HSr.out _ HB.out)
          obtain rfl := HSj.out.ha (by omega)
          have hrb := HSj.out.hb (by omega)
          have hrc := HSj.out.hcap
          have hrm := HSj.out.hmax
          unfold maxLen at hrm
          rw [← Hnr.out] at hrc
          have c0 := HSj.out.cell j hjL
          have hx0 := HAv.out _ (List.getElem_mem hjL)
          obtain ⟨ej, hej⟩ : ∃ ej : Nat, r.L[j]'hjL = (ej : Int) := ⟨(r.L[j]'hjL).toNat, by omega⟩
          have hft := fold_take (H := N.H) (R := N.R) (st := (by_, q)) hjL
          rw [HFd.out, hej] at hft
          rw [hej] at c0
          have heH : ej < N.H.length := by omega
          have heR : ej < N.R.length := by rw [← HWf.out.hr]; omega
          have heHz : (ej : Int) < (N.H.length : Int) := by omega
          have heRz : (ej : Int) < (N.R.length : Int) := by omega
          have HN2 := Lib.hid (HNw.out.keep HB.out)
          have c2 := HN2.out.c2
          have c3 := HN2.out.c3
          have haH : N.aH = some ⟨N.bH, N.oH, none⟩ := HN2.out.h.ha (by omega)
          have haR : N.aR = some ⟨N.bR, N.oR, none⟩ := HN2.out.r.ha (by omega)
          rw [haH] at c2
          rw [haR] at c3
          have bH := HN2.out.h.hb (by omega)
          have bR := HN2.out.r.hb (by omega)
          have hcH := HN2.out.h.hcap
          have hcR := HN2.out.r.hcap
          have dH := HN2.out.h.cell ej heH
          have dR := HN2.out.r.cell ej heR
          have hv0 := HWf.out.hv _ (List.getElem_mem heH)
          have hrv := HWf.out.rv _ (List.getElem_mem heR)
          obtain ⟨xv, hxv⟩ : ∃ xv : Nat, N.H[ej]'heH = (xv : Int) := ⟨(N.H[ej]'heH).toNat, by omega⟩
          rw [hxv] at dH
          have hxn : xv < nA := by have := HnA.out; omega
          have hxz : (xv : Int) < (nA : Int) := by omega
          have hb2l := HI2.out.len
          simp only at hb2l
          have hxb : xv < b2.length := by omega
          have db := HOb.out.at_ xv hxb
          have fzb := World.ownsRow.frozenAt HOb.out xv
          have HNo := Lib.hid (fun h => hft.trans (arcS_no (st := (b2, q2)) heH hxv heR hxb h))
          have HYe := Lib.hid (fun h => hft.trans (arcS_yes (st := (b2, q2)) heH hxv heR hxb h))
          have HI3 := Lib.hid (binv_arc HI2.out (R := N.R) (arc := (ej : Int)) ⟨by omega, by omega⟩ (fun y hy => by have := HWf.out.hv y hy; have := HnA.out; omega))
          rw [← hft] at HI3
          have hbb := HI2.out.b _ (List.getElem_mem hxb)
          simp only at HNo HYe
          generalize hRv : N.R[ej]'heR = rv at *
          generalize hBz : b2[xv]'hxb = bz at *
          clear hft hx0 hej hv0 hxv HN2 HSj hRv hBz hxb heH heR
          by_cases q1 : rv > 0
          · have p1 : decide (rv > 0) = true := decide_eq_true q1
            by_cases q2' : bz = -1
            · subst q2'
              have HFn := Lib.hid (HYe.out ⟨q1, rfl⟩)
              rw [HFn.out] at HI3
              clear HNo HYe
              have HQ := Lib.hid (show OwI ((wr.setCell ⟨g, xv, none⟩ (.int .i64 (ej : Int))).alloc (.cells #[.int .i64 (xv : Int)] 3)) w2.heap.size (.slice (some ⟨gq2, 0, none⟩) q2.length cq2) q2.length q2 from
                World.ownsRow.alloc (HOq.out.far (p := ⟨g, xv, none⟩) _ (by simp [Value.ownBlock]; omega)) _)
              have HBy := Lib.hid (show OwI ((wr.setCell ⟨g, xv, none⟩ (.int .i64 (ej : Int))).alloc (.cells #[.int .i64 (xv : Int)] 3)) (w.heap.size + 1) (.slice (some ⟨g, 0, none⟩) nA nA) nA (b2.set xv (ej : Int)) from
                World.ownsRow.alloc (HOb.out.put xv (ej : Int)) _)
              have HBl := Lib.hid ((HB.out.setCell (p := ⟨g, xv, none⟩) (by simp; omega) (.int .i64 (ej : Int))).alloc (HB.out.setCell (p := ⟨g, xv, none⟩) (by simp; omega) (.int .i64 (ej : Int))).size (.cells #[.int .i64 (xv : Int)] 3))
              have hqn : q2.length ≤ nA := by have := HI2.out.cnt; simp only at this; omega
              have hww := HB.out.size
              go_wp2_with (first | (at_builtin; refine wpList_append_evry _ rfl _ _ 22 rfl w2.heap.size 3 i0 (.int .i64 0) 1 8 Try.underlying22 hi0 hz0 hz1 hz2 rfl (by decide) _ _ _ rfl HQ.out (some ⟨wr.heap.size, 0, none⟩) 1 1 [.int .i64 (xv : Int)] rfl ?qc1 ?qc2 ?qc3 ?qc4 ?qc5 ?qc6 ?qc7 ?_) | go_in)
              case qc1 => simp
              case qc2 => exact fun h => by cases h
              case qc3 =>
                intro ad ha jj u hu
                obtain rfl := Option.some.inj ha
                cases jj with
                | zero => simp at hu; subst hu; rw [Addr.add_lit]; simp [go_sem]
                | succ jj => simp at hu
              case qc4 => intro u hu; simp at hu; subst hu; rfl
              case qc5 => unfold maxLen; omega
              case qc6 => omega
              case qc7 => simp; omega
              intro v7 w7 hown hgrow
              have HOq7 := Lib.hid (show OwI w7 w2.heap.size v7 (q2 ++ [(xv : Int)]).length (q2 ++ [(xv : Int)]) by
                have e : (q2 ++ [(xv : Int)]).map (Value.int .i64) = q2.map (Value.int .i64) ++ [.int .i64 (xv : Int)] := by simp
                show w7.ownsRow _ _ _ _ _ ((q2 ++ [(xv : Int)]).map (Value.int .i64))
                rw [e, List.length_append]
                exact hown)
              have HOb7 := Lib.hid (World.ownsRow.kept HBy.out hgrow (.inr (by simp [Value.ownBlock]; omega)))
              have HB7 := Lib.hid (HBl.out.grown hgrow HBl.out.size (by intro k hk; simp [Value.ownBlock] at hk; omega))
              have HiL7 := Lib.hid (show i + 1 ≤ (q2 ++ [(xv : Int)]).length by have := HiL2.out; rw [List.length_append]; omega)
              clear hown hgrow HQ HBy HBl HOb HOq HB
              go_wp2_with fail
              go_roundw
              case rel => exact ⟨j + 1, _, _, _, rfl, by go_num, by omega, HiL7, HFn, HI3, HOb7, HOq7, HB7⟩
              case measure => simp [intOf]; omega
            · have p2 : (bz == -1) = false := by simpa using q2'
              have HFn := Lib.hid (HNo.out (fun h => q2' h.2))
              rw [HFn.out] at HI3
              clear HNo HYe
              go_wp2_with fail
              go_roundw
              case rel => exact ⟨j + 1, _, _, _, rfl, by go_num, by omega, HiL2, HFn, HI3, HOb, HOq, HB⟩
              case measure => simp [intOf]; omega
          · have p1 : decide (rv > 0) = false := decide_eq_false q1
            have HFn := Lib.hid (HNo.out (fun h => q1 h.1))
            rw [HFn.out] at HI3
            clear HNo HYe
            go_wp2_with fail
            go_roundw
            case rel => exact ⟨j + 1, _, _, _, rfl, by go_num, by omega, HiL2, HFn, HI3, HOb, HOq, HB⟩
            case measure => simp [intOf]; omega
        · have hjz : ¬ (j : Int) < (nr : Int) := by omega
          obtain rfl : j = nr := by omega
          have HTf := Lib.hid (show bfs N.H N.R N.arcs (nA + 1 - (i + 1)) (i + 1) (b2, q2) = tg by
            rw [← HFd.out, List.take_of_length_le (by rw [← Hnr.out]; exact Nat.le_refl _)]
            exact HTn.out)
          go_wp2_with fail
          go_roundw
          case rel => exact ⟨i + 1, b2, q2, _, rfl, by go_num, HiL1, HiL2, HTf, HI2, HOb, HOq, HB⟩
          case measure => simp [intOf]; omega
    · have hlz : ¬ (i : Int) < (q.length : Int) := by omega
      have HF := Lib.hid (show by_ = tg by
        rw [← HT.out, show nA + 1 - i = (nA - i) + 1 by omega]
        unfold bfs
        rw [if_neg hlt])
      have HOf := Lib.hid ((HF.out ▸ HOb.out : OwI wr (w.heap.size + 1) (.slice (some ⟨g, 0, none⟩) nA nA) nA tg).mono (Nat.le_succ _))
      obtain ⟨aq, cq, rfl⟩ : ∃ aq cq, u6 = Value.slice aq q.length cq := by
        rcases HOq.out.2 with ⟨h, h0⟩ | ⟨g', cap, cur, h, _⟩
        · exact ⟨none, 0, by rw [h, h0]⟩
        · exact ⟨_, _, h⟩
      go_wp2_with fail
      go_ret
      exact ⟨g, rfl, HOf.out, HB.out⟩
end Go.Proofs.Ytpcdbnlljdfogaa
