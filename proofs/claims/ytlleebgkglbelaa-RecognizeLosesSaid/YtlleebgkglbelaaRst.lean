/- Contract of layer 20's reference: Settle. -/
import Derived.Test.YtlleebgkglbelaaStl
import Derived.Test.YtlleebgkglbelaaRhx
set_option linter.unusedSimpArgs false
set_option linter.unusedVariables false
namespace Go.Proofs.Ytlleebgkglbelaa
open Go.RowKit

theorem rckb_any {w : World} {a : Option Addr} {b off len cap : Nat} {L : List It} (h : SlX w a b off len cap L) (hf : fitC L) :
    Calls Try.prog 20 #[.slice a len cap] w fun e w' => e = .returned (.int .i64 (chkL L)) ∧ Below w.heap.size w w' :=
  (rcheck_any h hf).mono (fun _ _ h => ⟨h.1, by rw [← h.2]; exact Below.refl _ _⟩)
def rsetI (x : It) (st : Int) (v : Bool) : It := ⟨x.c, x.d + st, false, x.v || v, x.j⟩
/-- the line after the review of an item, or the error, by the reference -/
def rsetS (L : List It) (i st : Int) (v : Bool) : Int × List It :=
  if chkL L = 0 then
    if i < 0 ∨ i ≥ (L.length : Int) ∨ st < 0 then (1, []) else
    if (L.getD i.toNat It.zero).r = false then (7, []) else
    if st > 9 then (5, []) else
    if chkL (L.set i.toNat (rsetI (L.getD i.toNat It.zero) st v)) = 0 then (0, L.set i.toNat (rsetI (L.getD i.toNat It.zero) st v)) else (chkL (L.set i.toNat (rsetI (L.getD i.toNat It.zero) st v)), [])
  else (chkL L, [])
theorem chk_parts {L : List It} (h : chkL L = 0) : L.length ≤ 30 ∧ L.any badC = false ∧ L.any badD = false := by
  unfold chkL at h
  have he : errE L = 0 := by
    by_cases e : errE L = 0
    · exact e
    · rw [if_neg e] at h; exact absurd h e
  unfold errE at he
  split at he
  · exact absurd he (by decide)
  · split at he
    · exact absurd he (by decide)
    · split at he
      · exact absurd he (by decide)
      · rename_i h1 h2 h3
        exact ⟨by omega, by simpa using h2, by simpa using h3⟩
theorem chk_d {L : List It} (h : chkL L = 0) : ∀ x ∈ L, 0 ≤ x.d ∧ x.d ≤ 9 := by
  intro x hx
  obtain ⟨_, _, h3⟩ := chk_parts h
  rw [List.any_eq_false] at h3
  have := h3 x hx
  unfold badD at this
  simp at this
  omega
theorem set_same (L : List It) (i st : Int) (v : Bool) : setS L i st v = rsetS L i st v := by
  unfold setS rsetS
  by_cases h0 : chkL L = 0
  · rw [if_pos h0, if_pos h0]
    by_cases h1 : i < 0 ∨ i ≥ (L.length : Int) ∨ st < 0
    · rw [if_pos h1, if_pos h1]
    · rw [if_neg h1, if_neg h1]
      by_cases h2 : (L.getD i.toNat It.zero).r = false
      · rw [if_pos h2, if_pos h2]
      · rw [if_neg h2, if_neg h2]
        by_cases h9 : st > 9
        · rw [if_pos h9]
          have hlt : i.toNat < L.length := by omega
          have hmem : L.getD i.toNat It.zero ∈ L := by
            rw [show L.getD i.toNat It.zero = L[i.toNat]'hlt by simp [List.getD, hlt]]
            exact List.getElem_mem hlt
          have hd := chk_d h0 _ hmem
          obtain ⟨p1, p2, p3⟩ := chk_parts h0
          obtain ⟨x, hx⟩ : ∃ x, L.getD i.toNat It.zero = x := ⟨_, rfl⟩
          rw [hx] at hd hmem ⊢
          have hy : setI x st v ∈ L.set i.toNat (setI x st v) := List.mem_set hlt _
          have e1 : errE (L.set i.toNat (setI x st v)) = 5 := by
            unfold errE
            rw [if_neg (by rw [List.length_set]; omega), if_neg ?_, if_pos ?_]
            · rw [List.any_eq_true]
              refine ⟨_, hy, ?_⟩
              unfold badD setI
              simp
              omega
            · rw [Bool.not_eq_true, List.any_eq_false]
              intro y hy2
              rw [List.any_eq_false] at p2
              rcases List.mem_or_eq_of_mem_set hy2 with h | rfl
              · exact p2 y h
              · have := p2 x hmem
                unfold badC setI at *
                exact this
          have e2 : chkL (L.set i.toNat (setI x st v)) = 5 := by
            unfold chkL
            rw [e1, if_neg (by decide)]
          rw [e2, if_neg (by decide)]
        · rw [if_neg h9]
          have hI : setI (L.getD i.toNat It.zero) st v = rsetI (L.getD i.toNat It.zero) st v := by
            unfold setI rsetI
            rw [show min st 10 = st by omega]
          rw [hI]
  · rw [if_neg h0, if_neg h0]
set_option maxHeartbeats 4000000 in
set_option maxRecDepth 100000 in
theorem rsettle_any {w : World} {a : Option Addr} {b off len cap : Nat} {L : List It} (hL : SlX w a b off len cap L) (hf : fitC L) (hm : len ≤ 1000000) (i st : Int) (v : Bool) (hd : chkL L = 0 → ∀ x ∈ L, 0 ≤ x.d ∧ x.d ≤ 9) (hst : st ≤ 9223372036854775807) :
    Calls Try.prog 27 #[.slice a len cap, .int .i64 i, .int .i64 st, .bool v] w (StlPost w (rsetS L i st v) len) := by
  have hl0 := hL.hl
  have HS := Lib.hid hL
  have HCK := Lib.hid (fun W (hW : SlX W a b off len cap L) => rckb_any hW hf)
  obtain ⟨iz, hi, hz0, hz1, hz2⟩ := info_parts infoX
  have hfl := flatX_len L
  have HL1 := Lib.hid (flatX_one L)
  have HFT := Lib.hid hf
  obtain ⟨q, hq⟩ : ∃ q, rsetS L i st v = q := ⟨_, rfl⟩
  rw [hq]
  unfold rsetS at hq
  unfold StlPost
  clear hL hf
  obtain ⟨r, hr⟩ : ∃ r, chkL L = r := ⟨_, rfl⟩
  rw [hr] at HCK hd hq
  by_cases h0 : r = 0
  · subst h0
    have hd := hd rfl
    rw [if_pos rfl] at hq
    by_cases h1 : i < 0 ∨ i ≥ (L.length : Int) ∨ st < 0
    · rw [if_pos h1] at hq
      subst hq
      have hcs : (decide (i < 0) = true) ∨ (decide (i < 0) = false ∧ decide (i ≥ (len : Int)) = true) ∨ (decide (i < 0) = false ∧ decide (i ≥ (len : Int)) = false ∧ decide (st < 0) = true) := by
        by_cases a1 : i < 0
        · left; exact decide_eq_true a1
        · by_cases a2 : i ≥ (len : Int)
          · right; left; exact ⟨decide_eq_false a1, decide_eq_true a2⟩
          · right; right; exact ⟨decide_eq_false a1, decide_eq_false a2, decide_eq_true (by omega)⟩
      clear h1 hr hd
      rcases hcs with k1 | ⟨k1, k2⟩ | ⟨k1, k2, k3⟩
      all_goals
        go_enter Try.func27, Try.ntmps27
        go_wp2_with fail
        refine (HCK.out _ HS.out).mono ?_
        rintro e w1 ⟨rfl, hb1⟩
        go_wp2_with fail
        refine bodyPost_ret (v := .tuple #[.slice none 0 0, .int .i64 1]) (by simp [results, Try.results27, go_sem]) rfl ?_
        exact ⟨hb1, Or.inl ⟨by decide, rfl⟩⟩
    · rw [if_neg h1] at hq
      obtain ⟨n, rfl⟩ : ∃ n : Nat, i = (n : Int) := ⟨i.toNat, by omega⟩
      have hnL : n < L.length := by omega
      have k1 : decide ((n : Int) < 0) = false := decide_eq_false (by omega)
      have k2 : decide ((n : Int) ≥ (len : Int)) = false := decide_eq_false (by omega)
      have k3 : decide (st < 0) = false := decide_eq_false (by omega)
      have k4 : (n : Int) < (len : Int) := by omega
      have hst0 : 0 ≤ st := by omega
      have hgd : L.getD n It.zero = L[n]'hnL := by simp [List.getD, hnL]
      have hdx := hd _ (List.getElem_mem hnL)
      have HFX := Lib.hid (HFT.out n hnL)
      have S := HS.out
      obtain rfl := S.ha (by omega)
      have sb := S.hb (by omega)
      have HC := Lib.hid (show ∀ W, SlX W (some ⟨b, off, none⟩) b off len cap L → W.cell? ⟨b, off + n * 5 + 2, none⟩ = some (.bool (L[n]'hnL).r) from fun W hW => hW.c2 n hnL)
      have HFS := Lib.hid (fun d r v => flatX_set L n hnL d r v)
      have HFC := Lib.hid (fun y hy => fitC_set HFT.out n y hy)
      clear S h1 hd hr
      simp only [Int.toNat_natCast, hgd] at hq
      clear hgd
      obtain ⟨x, hx⟩ : ∃ x, L[n]'hnL = x := ⟨_, rfl⟩
      rw [hx] at hdx HFX HC hq
      have HXX := Lib.hid hx
      simp only [hx] at HFS
      clear hx
      obtain ⟨xc, xd, xr, xv, xj⟩ := x
      simp only at hdx HFX HC HFS hq
      cases xr with
      | false =>
        rw [if_pos rfl] at hq
        subst hq
        go_enter Try.func27, Try.ntmps27
        go_wp2_with fail
        refine (HCK.out _ HS.out).mono ?_
        rintro e w1 ⟨rfl, hb1⟩
        have c2 := HC.out w1 (HS.out.keep hb1)
        go_wp2_with fail
        refine bodyPost_ret (v := .tuple #[.slice none 0 0, .int .i64 7]) (by simp [results, Try.results27, go_sem]) rfl ?_
        exact ⟨hb1, Or.inl ⟨by decide, rfl⟩⟩
      | true =>
        rw [if_neg (by simp)] at hq
        by_cases h9 : st > 9
        · rw [if_pos h9] at hq
          subst hq
          have k9 : decide (st > 9) = true := decide_eq_true h9
          clear h9
          go_enter Try.func27, Try.ntmps27
          go_wp2_with fail
          refine (HCK.out _ HS.out).mono ?_
          rintro e w1 ⟨rfl, hb1⟩
          have c2 := HC.out w1 (HS.out.keep hb1)
          go_wp2_with fail
          refine bodyPost_ret (v := .tuple #[.slice none 0 0, .int .i64 5]) (by simp [results, Try.results27, go_sem]) rfl ?_
          exact ⟨hb1, Or.inl ⟨by decide, rfl⟩⟩
        rw [if_neg h9] at hq
        have k9 : decide (st > 9) = false := decide_eq_false h9
        have HQ := Lib.hid hq
        clear hq
        cases xv with
        | true =>
          go_enter Try.func27, Try.ntmps27
          go_wp2_with fail
          refine (HCK.out _ HS.out).mono ?_
          rintro e w1 ⟨rfl, hb1⟩
          have HB1 := Lib.hid hb1
          have S1 := HS.out.keep hb1
          have HO0 := Lib.hid (World.ownsRow_made (e := 29) (size := 5) (base := w1.heap.size) w1 #[] 0 (Nat.le_refl _) (Nat.zero_le _) rfl)
          have HCX := Lib.hid (slx_flat (S1.keep ((Below.refl _ _).alloc (Nat.le_refl _) (.cells #[] 29))))
          have HBX := Lib.hid ((Below.refl w1.heap.size w1).alloc (Nat.le_refl _) (.cells #[] 29))
          have c2 := HC.out w1 S1
          clear hb1 S1
          go_wp2_with (at_builtin; go_loud (refine wpList_append_blk _ rfl _ _ 32 rfl w1.heap.size 29 iz (.agg #[.string ⟨#[]⟩, .int .i64 0, .bool false, .bool false, .bool false]) 5 32 Try.underlying32 hi hz0 hz1 hz2 rfl (by decide) _ _ _ rfl HO0.out ⟨b, off, none⟩ len cap (flatX L) rfl (by rw [hfl, hl0]) HCX.out HL1.out ?n2 ?n3 ?n4 (by omega) ?_))
          case n2 => unfold maxLen; omega
          case n3 => omega
          case n4 => simp
          intro v' w2 ho0 hg hbk
          have ho : w2.ownsRow w1.heap.size 29 5 v' L.length (flatX L) := by
            rw [hl0]
            simpa using ho0
          have hb2 : Below w1.heap.size w1 w2 := HBX.out.grown hg (by simp) (by intro k hk; simp [Value.ownBlock] at hk; omega)
          have hform : ∃ g cv, v' = .slice (some ⟨g, 0, none⟩) L.length cv := by
            rcases ho.2 with ⟨rfl, hh⟩ | ⟨g, cv, cur, rfl, _⟩
            · omega
            · exact ⟨g, cv, rfl⟩
          obtain ⟨g, cv, rfl⟩ := hform
          clear ho0 hg hbk HO0 HCX HBX
          have hsz1 : w.heap.size ≤ w1.heap.size := HB1.out.size
          have HB2 := Lib.hid (HB1.out.trans (hb2.mono HB1.out.size))
          have HO := Lib.hid ho
          have hgl := (ho.lt g rfl).1
          clear c2 hb2
          have hfz := fun j => HO.out.frozenAt j
          obtain ⟨e0, e1, e2, e3, e4⟩ := flatX_get L n hnL
          rw [HXX.out] at e0 e1 e2 e3 e4
          have c1 := (HO.out.cellAt (n * 5 + 1) (by omega)).trans e1
          have c2 := (HO.out.cellAt (n * 5 + 2) (by omega)).trans e2
          have c3 := (HO.out.cellAt (n * 5 + 3) (by omega)).trans e3
          simp only at c1 c2 c3
          clear e0 e1 e2 e3 e4
          have k5 : IntKind.i64.wrap (xd + st) = xd + st := IntWalk.i64_in _ (by omega)
          have HO5 := ((((ho.stored (n * 5 + 2) (.bool false)).1.stored (n * 5 + 1) (.int .i64 (xd + st))).1).stored (n * 5 + 3) (.bool true)).1
          rw [HFS.out (xd + st) false true] at HO5
          have hll : (L.set n ⟨xc, xd + st, false, true, xj⟩).length = L.length := List.length_set ..
          rw [← hll] at HO5
          obtain ⟨a5, b5, c5, hv5, S5, hb5⟩ := slx_own HO5
          rw [hll, hl0] at hv5 S5
          have h5 : a5 = some ⟨g, 0, none⟩ ∧ c5 = cv := by simpa [hl0, eq_comm] using hv5
          obtain ⟨rfl, rfl⟩ := h5
          have hgb : g = b5 := by have := S5.ha (by omega); simpa using this
          subst hgb
          have HS5 := Lib.hid S5
          have HCK5 := Lib.hid (rckb_any S5 (HFC.out ⟨xc, xd + st, false, true, xj⟩ HFX.out))
          have HB5 := Lib.hid (show Below w.heap.size w (((w2.setCell ⟨g, n * 5 + 2, none⟩ (.bool false)).setCell ⟨g, n * 5 + 1, none⟩ (.int .i64 (xd + st))).setCell ⟨g, n * 5 + 3, none⟩ (.bool true)) from ((HB2.out.setCell (show w.heap.size ≤ g by omega) _).setCell (show w.heap.size ≤ g by omega) _).setCell (show w.heap.size ≤ g by omega) _)
          clear HO5 hll hv5 S5 hb5 ho
          obtain ⟨L5, hL5⟩ : ∃ L5, L.set n ⟨xc, xd + st, false, true, xj⟩ = L5 := ⟨_, rfl⟩
          rw [hL5] at HS5 HCK5
          obtain ⟨r5, hr5⟩ : ∃ r5, chkL L5 = r5 := ⟨_, rfl⟩
          rw [hr5] at HCK5
          have HL5 := Lib.hid hL5
          have HR5 := Lib.hid hr5
          clear hL5 hr5
          rw [hl0]
          go_wp2_with fail
          refine HCK5.out.mono ?_
          rintro e w6 ⟨rfl, hb6⟩
          have HB6 := Lib.hid (HB5.out.trans (hb6.mono HB5.out.size))
          have HS6 := Lib.hid (HS5.out.keep hb6)
          clear hb6 c1 c2 c3 hfz
          by_cases h5 : r5 = 0
          · subst h5
            have hq := HQ.out
            simp only [rsetI, Bool.false_or, Bool.true_or, HL5.out, HR5.out, if_true] at hq
            subst hq
            go_wp2_with fail
            refine bodyPost_ret (v := .tuple #[.slice (some ⟨g, 0, none⟩) len c5, .int .i64 0]) (by simp [results, Try.results27, go_sem]) rfl ?_
            exact ⟨HB6.out, g, c5, rfl, HS6.out, by omega⟩
          · have k6 : (r5 == 0) = false := by simpa using h5
            have k7 : (r5 != 0) = true := by simpa using h5
            have H5 := Lib.hid h5
            have hq := HQ.out
            simp only [rsetI, Bool.false_or, Bool.true_or, HL5.out, HR5.out, if_neg h5] at hq
            subst hq
            clear h5
            go_wp2_with fail
            refine bodyPost_ret (v := .tuple #[.slice none 0 0, .int .i64 r5]) (by simp [results, Try.results27, go_sem]) rfl ?_
            exact ⟨HB6.out, Or.inl ⟨H5.out, rfl⟩⟩
        | false =>
          go_enter Try.func27, Try.ntmps27
          go_wp2_with fail
          refine (HCK.out _ HS.out).mono ?_
          rintro e w1 ⟨rfl, hb1⟩
          have HB1 := Lib.hid hb1
          have S1 := HS.out.keep hb1
          have HO0 := Lib.hid (World.ownsRow_made (e := 29) (size := 5) (base := w1.heap.size) w1 #[] 0 (Nat.le_refl _) (Nat.zero_le _) rfl)
          have HCX := Lib.hid (slx_flat (S1.keep ((Below.refl _ _).alloc (Nat.le_refl _) (.cells #[] 29))))
          have HBX := Lib.hid ((Below.refl w1.heap.size w1).alloc (Nat.le_refl _) (.cells #[] 29))
          have c2 := HC.out w1 S1
          clear hb1 S1
          go_wp2_with (at_builtin; go_loud (refine wpList_append_blk _ rfl _ _ 32 rfl w1.heap.size 29 iz (.agg #[.string ⟨#[]⟩, .int .i64 0, .bool false, .bool false, .bool false]) 5 32 Try.underlying32 hi hz0 hz1 hz2 rfl (by decide) _ _ _ rfl HO0.out ⟨b, off, none⟩ len cap (flatX L) rfl (by rw [hfl, hl0]) HCX.out HL1.out ?n2 ?n3 ?n4 (by omega) ?_))
          case n2 => unfold maxLen; omega
          case n3 => omega
          case n4 => simp
          intro v' w2 ho0 hg hbk
          have ho : w2.ownsRow w1.heap.size 29 5 v' L.length (flatX L) := by
            rw [hl0]
            simpa using ho0
          have hb2 : Below w1.heap.size w1 w2 := HBX.out.grown hg (by simp) (by intro k hk; simp [Value.ownBlock] at hk; omega)
          have hform : ∃ g cv, v' = .slice (some ⟨g, 0, none⟩) L.length cv := by
            rcases ho.2 with ⟨rfl, hh⟩ | ⟨g, cv, cur, rfl, _⟩
            · omega
            · exact ⟨g, cv, rfl⟩
          obtain ⟨g, cv, rfl⟩ := hform
          clear ho0 hg hbk HO0 HCX HBX
          have hsz1 : w.heap.size ≤ w1.heap.size := HB1.out.size
          have HB2 := Lib.hid (HB1.out.trans (hb2.mono HB1.out.size))
          have HO := Lib.hid ho
          have hgl := (ho.lt g rfl).1
          clear c2 hb2
          have hfz := fun j => HO.out.frozenAt j
          obtain ⟨e0, e1, e2, e3, e4⟩ := flatX_get L n hnL
          rw [HXX.out] at e0 e1 e2 e3 e4
          have c1 := (HO.out.cellAt (n * 5 + 1) (by omega)).trans e1
          have c2 := (HO.out.cellAt (n * 5 + 2) (by omega)).trans e2
          have c3 := (HO.out.cellAt (n * 5 + 3) (by omega)).trans e3
          simp only at c1 c2 c3
          clear e0 e1 e2 e3 e4
          have k5 : IntKind.i64.wrap (xd + st) = xd + st := IntWalk.i64_in _ (by omega)
          have HO5 := ((((ho.stored (n * 5 + 2) (.bool false)).1.stored (n * 5 + 1) (.int .i64 (xd + st))).1).stored (n * 5 + 3) (.bool v)).1
          rw [HFS.out (xd + st) false v] at HO5
          have hll : (L.set n ⟨xc, xd + st, false, v, xj⟩).length = L.length := List.length_set ..
          rw [← hll] at HO5
          obtain ⟨a5, b5, c5, hv5, S5, hb5⟩ := slx_own HO5
          rw [hll, hl0] at hv5 S5
          have h5 : a5 = some ⟨g, 0, none⟩ ∧ c5 = cv := by simpa [hl0, eq_comm] using hv5
          obtain ⟨rfl, rfl⟩ := h5
          have hgb : g = b5 := by have := S5.ha (by omega); simpa using this
          subst hgb
          have HS5 := Lib.hid S5
          have HCK5 := Lib.hid (rckb_any S5 (HFC.out ⟨xc, xd + st, false, v, xj⟩ HFX.out))
          have HB5 := Lib.hid (show Below w.heap.size w (((w2.setCell ⟨g, n * 5 + 2, none⟩ (.bool false)).setCell ⟨g, n * 5 + 1, none⟩ (.int .i64 (xd + st))).setCell ⟨g, n * 5 + 3, none⟩ (.bool v)) from ((HB2.out.setCell (show w.heap.size ≤ g by omega) _).setCell (show w.heap.size ≤ g by omega) _).setCell (show w.heap.size ≤ g by omega) _)
          clear HO5 hll hv5 S5 hb5 ho
          obtain ⟨L5, hL5⟩ : ∃ L5, L.set n ⟨xc, xd + st, false, v, xj⟩ = L5 := ⟨_, rfl⟩
          rw [hL5] at HS5 HCK5
          obtain ⟨r5, hr5⟩ : ∃ r5, chkL L5 = r5 := ⟨_, rfl⟩
          rw [hr5] at HCK5
          have HL5 := Lib.hid hL5
          have HR5 := Lib.hid hr5
          clear hL5 hr5
          rw [hl0]
          go_wp2_with fail
          refine HCK5.out.mono ?_
          rintro e w6 ⟨rfl, hb6⟩
          have HB6 := Lib.hid (HB5.out.trans (hb6.mono HB5.out.size))
          have HS6 := Lib.hid (HS5.out.keep hb6)
          clear hb6 c1 c2 c3 hfz
          by_cases h5 : r5 = 0
          · subst h5
            have hq := HQ.out
            simp only [rsetI, Bool.false_or, Bool.true_or, HL5.out, HR5.out, if_true] at hq
            subst hq
            go_wp2_with fail
            refine bodyPost_ret (v := .tuple #[.slice (some ⟨g, 0, none⟩) len c5, .int .i64 0]) (by simp [results, Try.results27, go_sem]) rfl ?_
            exact ⟨HB6.out, g, c5, rfl, HS6.out, by omega⟩
          · have k6 : (r5 == 0) = false := by simpa using h5
            have k7 : (r5 != 0) = true := by simpa using h5
            have H5 := Lib.hid h5
            have hq := HQ.out
            simp only [rsetI, Bool.false_or, Bool.true_or, HL5.out, HR5.out, if_neg h5] at hq
            subst hq
            clear h5
            go_wp2_with fail
            refine bodyPost_ret (v := .tuple #[.slice none 0 0, .int .i64 r5]) (by simp [results, Try.results27, go_sem]) rfl ?_
            exact ⟨HB6.out, Or.inl ⟨H5.out, rfl⟩⟩
  · have k0 : (r == 0) = false := by simpa using h0
    have k1 : (r != 0) = true := by simpa using h0
    have H0 := Lib.hid h0
    rw [if_neg h0] at hq
    subst hq
    clear h0
    go_enter Try.func27, Try.ntmps27
    go_wp2_with fail
    refine (HCK.out _ HS.out).mono ?_
    rintro e w1 ⟨rfl, hb1⟩
    go_wp2_with fail
    refine bodyPost_ret (v := .tuple #[.slice none 0 0, .int .i64 r]) (by simp [results, Try.results27, go_sem]) rfl ?_
    exact ⟨hb1, Or.inl ⟨H0.out, rfl⟩⟩
end Go.Proofs.Ytlleebgkglbelaa
