/- Contract of layer 20: Settle. -/
import Derived.Test.YtlleebgkglbelaaSet
set_option linter.unusedSimpArgs false
set_option linter.unusedVariables false
namespace Go.Proofs.Ytlleebgkglbelaa
open Go.RowKit

theorem fitC_set {L : List It} (h : fitC L) (i : Nat) (y : It) (hy : y.c.size ≤ 9223372036854775807) : fitC (L.set i y) := by
  intro k hk
  rw [List.getElem_set]
  split
  · exact hy
  · exact h k (by simpa using hk)
set_option maxHeartbeats 4000000 in
set_option maxRecDepth 100000 in
theorem settle_any {w : World} {a : Option Addr} {b off len cap : Nat} {L : List It} (hL : SlX w a b off len cap L) (hf : fitC L) (hm : len ≤ 1000000) (i st : Int) (v : Bool) (hd : chkL L = 0 → ∀ x ∈ L, 0 ≤ x.d ∧ x.d ≤ 9) (hst : st ≤ 9223372036854775807) :
    Calls Try.prog 26 #[.slice a len cap, .int .i64 i, .int .i64 st, .bool v] w (StlPost w (setS L i st v) len) := by
  have hl0 := hL.hl
  have HS := Lib.hid hL
  have HCK := Lib.hid (fun W (hW : SlX W a b off len cap L) => check_any hW hf)
  have HCL := Lib.hid (fun W o (hW : SlX W (some ⟨b, o, none⟩) b o len cap L) (h0 : 0 < len) => clone_any hW h0 hm)
  have HFT := Lib.hid hf
  obtain ⟨q, hq⟩ : ∃ q, setS L i st v = q := ⟨_, rfl⟩
  rw [hq]
  unfold setS at hq
  unfold StlPost
  clear hL hf
  obtain ⟨r, hr⟩ : ∃ r, chkL L = r := ⟨_, rfl⟩
  rw [hr] at HCK hd hq
  by_cases h0 : r = 0
  · subst h0
    have hd := hd rfl
    rw [if_pos rfl] at hq
    by_cases h1 : i < 0 ∨ i ≥ (L.length : Int) ∨ st < 0
    · rw [if_pos h1] at hq
      subst hq
      have hcs : (decide (i < 0) = true) ∨ (decide (i < 0) = false ∧ decide (i ≥ (len : Int)) = true) ∨ (decide (i < 0) = false ∧ decide (i ≥ (len : Int)) = false ∧ decide (st < 0) = true) := by
        by_cases a1 : i < 0
        · left; exact decide_eq_true a1
        · by_cases a2 : i ≥ (len : Int)
          · right; left; exact ⟨decide_eq_false a1, decide_eq_true a2⟩
          · right; right; exact ⟨decide_eq_false a1, decide_eq_false a2, decide_eq_true (by omega)⟩
      clear h1 hr hd
      rcases hcs with k1 | ⟨k1, k2⟩ | ⟨k1, k2, k3⟩
      all_goals
        go_enter Try.func26, Try.ntmps26
        go_wp2_with fail
        refine (HCK.out _ HS.out).mono ?_
        rintro e w1 ⟨rfl, hb1⟩
        go_wp2_with fail
        refine bodyPost_ret (v := .tuple #[.slice none 0 0, .int .i64 1]) (by simp [results, Try.results26, go_sem]) rfl ?_
        exact ⟨hb1, Or.inl ⟨by decide, rfl⟩⟩
    · rw [if_neg h1] at hq
      obtain ⟨n, rfl⟩ : ∃ n : Nat, i = (n : Int) := ⟨i.toNat, by omega⟩
      have hnL : n < L.length := by omega
      have k1 : decide ((n : Int) < 0) = false := decide_eq_false (by omega)
      have k2 : decide ((n : Int) ≥ (len : Int)) = false := decide_eq_false (by omega)
      have k3 : decide (st < 0) = false := decide_eq_false (by omega)
      have k4 : (n : Int) < (len : Int) := by omega
      have hst0 : 0 ≤ st := by omega
      have hgd : L.getD n It.zero = L[n]'hnL := by simp [List.getD, hnL]
      have hdx := hd _ (List.getElem_mem hnL)
      have HFX := Lib.hid (HFT.out n hnL)
      have S := HS.out
      obtain rfl := S.ha (by omega)
      have sb := S.hb (by omega)
      have HC := Lib.hid (show ∀ W, SlX W (some ⟨b, off, none⟩) b off len cap L → W.cell? ⟨b, off + n * 5 + 2, none⟩ = some (.bool (L[n]'hnL).r) from fun W hW => hW.c2 n hnL)
      have HFS := Lib.hid (fun d r v => flatX_set L n hnL d r v)
      have HFC := Lib.hid (fun y hy => fitC_set HFT.out n y hy)
      clear S h1 hd hr
      simp only [Int.toNat_natCast, hgd] at hq
      clear hgd
      obtain ⟨x, hx⟩ : ∃ x, L[n]'hnL = x := ⟨_, rfl⟩
      rw [hx] at hdx HFX HC hq
      have HXX := Lib.hid hx
      simp only [hx] at HFS
      clear hx
      obtain ⟨xc, xd, xr, xv, xj⟩ := x
      simp only at hdx HFX HC HFS hq
      cases xr with
      | false =>
        rw [if_pos rfl] at hq
        subst hq
        go_enter Try.func26, Try.ntmps26
        go_wp2_with fail
        refine (HCK.out _ HS.out).mono ?_
        rintro e w1 ⟨rfl, hb1⟩
        have c2 := HC.out w1 (HS.out.keep hb1)
        go_wp2_with fail
        refine bodyPost_ret (v := .tuple #[.slice none 0 0, .int .i64 7]) (by simp [results, Try.results26, go_sem]) rfl ?_
        exact ⟨hb1, Or.inl ⟨by decide, rfl⟩⟩
      | true =>
        rw [if_neg (by simp)] at hq
        have HQ := Lib.hid hq
        clear hq
        cases xv with
        | true =>
          go_enter Try.func26, Try.ntmps26
          go_wp2_with fail
          refine (HCK.out _ HS.out).mono ?_
          rintro e w1 ⟨rfl, hb1⟩
          have HB1 := Lib.hid hb1
          have S1 := HS.out.keep hb1
          have HCLX := Lib.hid (HCL.out w1 off S1 (by omega))
          have c2 := HC.out w1 S1
          clear hb1 S1
          go_wp2_with fail
          refine HCLX.out.mono ?_
          rintro e w2 ⟨g, cv, rfl, ho, hb2⟩
          have hsz1 : w.heap.size ≤ w1.heap.size := HB1.out.size
          have HB2 := Lib.hid (HB1.out.trans (hb2.mono HB1.out.size))
          have HO := Lib.hid ho
          have hgl := (ho.lt g rfl).1
          clear c2 hb2
          have hfz := fun j => HO.out.frozenAt j
          obtain ⟨e0, e1, e2, e3, e4⟩ := flatX_get L n hnL
          rw [HXX.out] at e0 e1 e2 e3 e4
          have c1 := (HO.out.cellAt (n * 5 + 1) (by omega)).trans e1
          have c2 := (HO.out.cellAt (n * 5 + 2) (by omega)).trans e2
          have c3 := (HO.out.cellAt (n * 5 + 3) (by omega)).trans e3
          simp only at c1 c2 c3
          clear e0 e1 e2 e3 e4
          have k5 : IntKind.i64.wrap (xd + min st 10) = xd + min st 10 := IntWalk.i64_in _ (by omega)
          have HO5 := ((((ho.stored (n * 5 + 2) (.bool false)).1.stored (n * 5 + 1) (.int .i64 (xd + min st 10))).1).stored (n * 5 + 3) (.bool true)).1
          rw [HFS.out (xd + min st 10) false true] at HO5
          have hll : (L.set n ⟨xc, xd + min st 10, false, true, xj⟩).length = L.length := List.length_set ..
          rw [← hll] at HO5
          obtain ⟨a5, b5, c5, hv5, S5, hb5⟩ := slx_own HO5
          rw [hll, hl0] at hv5 S5
          have h5 : a5 = some ⟨g, 0, none⟩ ∧ c5 = cv := by simpa [hl0, eq_comm] using hv5
          obtain ⟨rfl, rfl⟩ := h5
          have hgb : g = b5 := by have := S5.ha (by omega); simpa using this
          subst hgb
          have HS5 := Lib.hid S5
          have HCK5 := Lib.hid (check_any S5 (HFC.out ⟨xc, xd + min st 10, false, true, xj⟩ HFX.out))
          have HB5 := Lib.hid (show Below w.heap.size w (((w2.setCell ⟨g, n * 5 + 2, none⟩ (.bool false)).setCell ⟨g, n * 5 + 1, none⟩ (.int .i64 (xd + min st 10))).setCell ⟨g, n * 5 + 3, none⟩ (.bool true)) from ((HB2.out.setCell (show w.heap.size ≤ g by omega) _).setCell (show w.heap.size ≤ g by omega) _).setCell (show w.heap.size ≤ g by omega) _)
          clear HO5 hll hv5 S5 hb5 ho
          obtain ⟨L5, hL5⟩ : ∃ L5, L.set n ⟨xc, xd + min st 10, false, true, xj⟩ = L5 := ⟨_, rfl⟩
          rw [hL5] at HS5 HCK5
          obtain ⟨r5, hr5⟩ : ∃ r5, chkL L5 = r5 := ⟨_, rfl⟩
          rw [hr5] at HCK5
          have HL5 := Lib.hid hL5
          have HR5 := Lib.hid hr5
          clear hL5 hr5
          rw [hl0]
          go_wp2_with fail
          refine HCK5.out.mono ?_
          rintro e w6 ⟨rfl, hb6⟩
          have HB6 := Lib.hid (HB5.out.trans (hb6.mono HB5.out.size))
          have HS6 := Lib.hid (HS5.out.keep hb6)
          clear hb6 c1 c2 c3 hfz
          by_cases h5 : r5 = 0
          · subst h5
            have hq := HQ.out
            simp only [setI, Bool.false_or, Bool.true_or, HL5.out, HR5.out, if_true] at hq
            subst hq
            go_wp2_with fail
            refine bodyPost_ret (v := .tuple #[.slice (some ⟨g, 0, none⟩) len c5, .int .i64 0]) (by simp [results, Try.results26, go_sem]) rfl ?_
            exact ⟨HB6.out, g, c5, rfl, HS6.out, by omega⟩
          · have k6 : (r5 == 0) = false := by simpa using h5
            have k7 : (r5 != 0) = true := by simpa using h5
            have H5 := Lib.hid h5
            have hq := HQ.out
            simp only [setI, Bool.false_or, Bool.true_or, HL5.out, HR5.out, if_neg h5] at hq
            subst hq
            clear h5
            go_wp2_with fail
            refine bodyPost_ret (v := .tuple #[.slice none 0 0, .int .i64 r5]) (by simp [results, Try.results26, go_sem]) rfl ?_
            exact ⟨HB6.out, Or.inl ⟨H5.out, rfl⟩⟩
        | false =>
          go_enter Try.func26, Try.ntmps26
          go_wp2_with fail
          refine (HCK.out _ HS.out).mono ?_
          rintro e w1 ⟨rfl, hb1⟩
          have HB1 := Lib.hid hb1
          have S1 := HS.out.keep hb1
          have HCLX := Lib.hid (HCL.out w1 off S1 (by omega))
          have c2 := HC.out w1 S1
          clear hb1 S1
          go_wp2_with fail
          refine HCLX.out.mono ?_
          rintro e w2 ⟨g, cv, rfl, ho, hb2⟩
          have hsz1 : w.heap.size ≤ w1.heap.size := HB1.out.size
          have HB2 := Lib.hid (HB1.out.trans (hb2.mono HB1.out.size))
          have HO := Lib.hid ho
          have hgl := (ho.lt g rfl).1
          clear c2 hb2
          have hfz := fun j => HO.out.frozenAt j
          obtain ⟨e0, e1, e2, e3, e4⟩ := flatX_get L n hnL
          rw [HXX.out] at e0 e1 e2 e3 e4
          have c1 := (HO.out.cellAt (n * 5 + 1) (by omega)).trans e1
          have c2 := (HO.out.cellAt (n * 5 + 2) (by omega)).trans e2
          have c3 := (HO.out.cellAt (n * 5 + 3) (by omega)).trans e3
          simp only at c1 c2 c3
          clear e0 e1 e2 e3 e4
          have k5 : IntKind.i64.wrap (xd + min st 10) = xd + min st 10 := IntWalk.i64_in _ (by omega)
          have HO5 := ((((ho.stored (n * 5 + 2) (.bool false)).1.stored (n * 5 + 1) (.int .i64 (xd + min st 10))).1).stored (n * 5 + 3) (.bool v)).1
          rw [HFS.out (xd + min st 10) false v] at HO5
          have hll : (L.set n ⟨xc, xd + min st 10, false, v, xj⟩).length = L.length := List.length_set ..
          rw [← hll] at HO5
          obtain ⟨a5, b5, c5, hv5, S5, hb5⟩ := slx_own HO5
          rw [hll, hl0] at hv5 S5
          have h5 : a5 = some ⟨g, 0, none⟩ ∧ c5 = cv := by simpa [hl0, eq_comm] using hv5
          obtain ⟨rfl, rfl⟩ := h5
          have hgb : g = b5 := by have := S5.ha (by omega); simpa using this
          subst hgb
          have HS5 := Lib.hid S5
          have HCK5 := Lib.hid (check_any S5 (HFC.out ⟨xc, xd + min st 10, false, v, xj⟩ HFX.out))
          have HB5 := Lib.hid (show Below w.heap.size w (((w2.setCell ⟨g, n * 5 + 2, none⟩ (.bool false)).setCell ⟨g, n * 5 + 1, none⟩ (.int .i64 (xd + min st 10))).setCell ⟨g, n * 5 + 3, none⟩ (.bool v)) from ((HB2.out.setCell (show w.heap.size ≤ g by omega) _).setCell (show w.heap.size ≤ g by omega) _).setCell (show w.heap.size ≤ g by omega) _)
          clear HO5 hll hv5 S5 hb5 ho
          obtain ⟨L5, hL5⟩ : ∃ L5, L.set n ⟨xc, xd + min st 10, false, v, xj⟩ = L5 := ⟨_, rfl⟩
          rw [hL5] at HS5 HCK5
          obtain ⟨r5, hr5⟩ : ∃ r5, chkL L5 = r5 := ⟨_, rfl⟩
          rw [hr5] at HCK5
          have HL5 := Lib.hid hL5
          have HR5 := Lib.hid hr5
          clear hL5 hr5
          rw [hl0]
          go_wp2_with fail
          refine HCK5.out.mono ?_
          rintro e w6 ⟨rfl, hb6⟩
          have HB6 := Lib.hid (HB5.out.trans (hb6.mono HB5.out.size))
          have HS6 := Lib.hid (HS5.out.keep hb6)
          clear hb6 c1 c2 c3 hfz
          by_cases h5 : r5 = 0
          · subst h5
            have hq := HQ.out
            simp only [setI, Bool.false_or, Bool.true_or, HL5.out, HR5.out, if_true] at hq
            subst hq
            go_wp2_with fail
            refine bodyPost_ret (v := .tuple #[.slice (some ⟨g, 0, none⟩) len c5, .int .i64 0]) (by simp [results, Try.results26, go_sem]) rfl ?_
            exact ⟨HB6.out, g, c5, rfl, HS6.out, by omega⟩
          · have k6 : (r5 == 0) = false := by simpa using h5
            have k7 : (r5 != 0) = true := by simpa using h5
            have H5 := Lib.hid h5
            have hq := HQ.out
            simp only [setI, Bool.false_or, Bool.true_or, HL5.out, HR5.out, if_neg h5] at hq
            subst hq
            clear h5
            go_wp2_with fail
            refine bodyPost_ret (v := .tuple #[.slice none 0 0, .int .i64 r5]) (by simp [results, Try.results26, go_sem]) rfl ?_
            exact ⟨HB6.out, Or.inl ⟨H5.out, rfl⟩⟩
  · have k0 : (r == 0) = false := by simpa using h0
    have k1 : (r != 0) = true := by simpa using h0
    have H0 := Lib.hid h0
    rw [if_neg h0] at hq
    subst hq
    clear h0
    go_enter Try.func26, Try.ntmps26
    go_wp2_with fail
    refine (HCK.out _ HS.out).mono ?_
    rintro e w1 ⟨rfl, hb1⟩
    go_wp2_with fail
    refine bodyPost_ret (v := .tuple #[.slice none 0 0, .int .i64 r]) (by simp [results, Try.results26, go_sem]) rfl ?_
    exact ⟨hb1, Or.inl ⟨H0.out, rfl⟩⟩
end Go.Proofs.Ytlleebgkglbelaa
