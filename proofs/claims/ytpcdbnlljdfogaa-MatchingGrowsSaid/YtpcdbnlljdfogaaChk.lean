/- The contract of matching.Check. -/
import Derived.Test.YtpcdbnlljdfogaaKey
set_option linter.unusedSimpArgs false
set_option linter.unusedVariables false
namespace Go.Proofs.Ytpcdbnlljdfogaa
open Go.RowKit
open Go.Maps (Keyed)

theorem zeroB (w : World) : (zeroValue 4).run Try.prog w = .ok (.bool false) w := by kernel_rfl
theorem wf_small {x : Int} (h1 : 0 ≤ x) (h2 : x < 64) : (Lit.int .i64 x).wf = true := by
  have a : IntKind.min .i64 = -9223372036854775808 := by decide
  have b : IntKind.max .i64 = 9223372036854775807 := by decide
  unfold Lit.wf
  simp only [Bool.and_eq_true, decide_eq_true_eq]
  omega
abbrev MpAt (w : World) (b n : Nat) (D : DataW Unit) : Prop := w.ownsMap Try.prog 52 (plainElem Try.prog 4) b n D
theorem MpAt.cell {w : World} {b n : Nat} {D : DataW Unit} (h : MpAt w b n D) {a : Addr} (ha : a.block ≠ b) (u : Value) : MpAt (w.setCell a u) b n D :=
  h.kept (row := some a.block) ⟨rfl, rfl, rfl, by simp, fun i _ hi => Below.heap_setCell w a u i (fun e => hi (by rw [e]))⟩ (by simp; exact fun e => ha e.symm)
/-- the map holds the edges of a list -/
structure Seen (D : DataW Unit) (L : List (Int × Int)) : Prop where
  map : Maps.IsMap D
  at_ : ∀ e : Int × Int, (Lit.int .i64 e.1).wf = true → (Lit.int .i64 e.2).wf = true → D.atKey (klit e) (.lit (.bool false)) = .lit (.bool (decide (e ∈ L)))
theorem seen_nil : Seen (.map []) [] := ⟨Maps.isMap_empty, fun e _ _ => by simp [DataW.atKey]⟩
theorem Seen.snoc {D : DataW Unit} {L : List (Int × Int)} (h : Seen D L) {x : Int × Int} (h1 : (Lit.int .i64 x.1).wf = true) (h2 : (Lit.int .i64 x.2).wf = true) : Seen (D.put (klit x) (.lit (.bool true))) (L ++ [x]) := by
  refine ⟨h.map.put _ _, fun e g1 g2 => ?_⟩
  by_cases he : e = x
  · subst he
    rw [Maps.atKey_put_same h.map (klit_key e)]
    simp
  · rw [Maps.atKey_put_other (fun hk => he (klit_inj g1 g2 h1 h2 hk)), h.at_ e g1 g2]
    simp [he]
set_option maxHeartbeats 4000000 in
set_option maxRecDepth 100000 in
theorem check_any (g : Gph) (w : World) (hg : GpAt w g) : Calls Try.prog 14 #[g.val] w fun e w' => e = .returned (.int .i64 (chk g)) ∧ Below w.heap.size w w' := by
  have HC := Lib.hid (show chk g = if 64 < g.L.length ∨ 64 < g.R.length ∨ 1024 < g.E.length then 6 else if (g.L.any outC || g.R.any outC) = true then 5 else if g.E.any (dangl g.L.length g.R.length) = true then 5 else if g.E.Nodup then 0 else 4 from rfl)
  have HB := Lib.hid ((Below.refl w.heap.size w).alloc (Nat.le_refl _) (.cells #[.slice g.aL g.L.length g.cL, .slice g.aR g.R.length g.cR, .slice g.aE g.E.length g.cE] 25))
  have HGB := Lib.hid (gb_new w g 25)
  have HG := Lib.hid (hg.keep HB.out)
  have hgs : w.heap.size ≤ (w.alloc (.cells #[.slice g.aL g.L.length g.cL, .slice g.aR g.R.length g.cR, .slice g.aE g.E.length g.cE] 25)).heap.size := HB.out.size
  clear hg
  unfold Gph.val
  by_cases s1 : g.L.length > 64
  · have k1 : decide ((g.L.length : Int) > 64) = true := decide_eq_true (by omega)
    have HR := Lib.hid (show chk g = 6 by rw [HC.out, if_pos (.inl s1)])
    go_enter Try.func14, Try.ntmps14
    go_wp2_with fail
    go_ret
    exact ⟨ret_int HR.out.symm, HB.out⟩
  have k1 : decide ((g.L.length : Int) > 64) = false := decide_eq_false (by omega)
  by_cases s2 : g.R.length > 64
  · have k2 : decide ((g.R.length : Int) > 64) = true := decide_eq_true (by omega)
    have HR := Lib.hid (show chk g = 6 by rw [HC.out, if_pos (.inr (.inl s2))])
    go_enter Try.func14, Try.ntmps14
    go_wp2_with fail
    go_ret
    exact ⟨ret_int HR.out.symm, HB.out⟩
  have k2 : decide ((g.R.length : Int) > 64) = false := decide_eq_false (by omega)
  by_cases s3 : g.E.length > 1024
  · have k3 : decide ((g.E.length : Int) > 1024) = true := decide_eq_true (by omega)
    have HR := Lib.hid (show chk g = 6 by rw [HC.out, if_pos (.inr (.inr s3))])
    go_enter Try.func14, Try.ntmps14
    go_wp2_with fail
    go_ret
    exact ⟨ret_int HR.out.symm, HB.out⟩
  have k3 : decide ((g.E.length : Int) > 1024) = false := decide_eq_false (by omega)
  have HS := Lib.hid (show ¬ (64 < g.L.length ∨ 64 < g.R.length ∨ 1024 < g.E.length) by omega)
  have HN := Lib.hid (show g.L.length ≤ 64 ∧ g.R.length ≤ 64 by omega)
  clear s1 s2 s3
  have HL := Lib.hid (contO_any HG.out.l)
  have HRr := Lib.hid (contO_any HG.out.r)
  have HD := Lib.hid (contD_any g w.heap.size HG.out.e HGB.out)
  obtain ⟨g0, g1, g2, gl⟩ := HGB.out
  cases e1 : g.L.any outC with
  | true =>
    have HR := Lib.hid (show chk g = 5 by rw [HC.out, if_neg HS.out, e1]; rfl)
    have H1 := Lib.hid (e1 ▸ HL.out)
    clear HL
    go_enter Try.func14, Try.ntmps14
    go_wp2_with fail
    refine H1.out.mono ?_
    rintro e w1 ⟨rfl, rfl⟩
    go_wp2_with fail
    go_ret
    exact ⟨ret_int HR.out.symm, HB.out⟩
  | false =>
  have H1 := Lib.hid (e1 ▸ HL.out)
  clear HL
  cases e2 : g.R.any outC with
  | true =>
    have HR := Lib.hid (show chk g = 5 by rw [HC.out, if_neg HS.out, e1, e2]; rfl)
    have H2 := Lib.hid (e2 ▸ HRr.out)
    clear HRr
    go_enter Try.func14, Try.ntmps14
    go_wp2_with fail
    refine H1.out.mono ?_
    rintro e w1 ⟨rfl, rfl⟩
    go_wp2_with fail
    refine H2.out.mono ?_
    rintro e w1 ⟨rfl, rfl⟩
    go_wp2_with fail
    go_ret
    exact ⟨ret_int HR.out.symm, HB.out⟩
  | false =>
  have H2 := Lib.hid (e2 ▸ HRr.out)
  clear HRr
  cases e3 : g.E.any (dangl g.L.length g.R.length) with
  | true =>
    have HR := Lib.hid (show chk g = 5 by rw [HC.out, if_neg HS.out, e1, e2, e3]; rfl)
    have H3 := Lib.hid (e3 ▸ HD.out)
    clear HD
    go_enter Try.func14, Try.ntmps14
    go_wp2_with fail
    refine H1.out.mono ?_
    rintro e w1 ⟨rfl, rfl⟩
    go_wp2_with fail
    refine H2.out.mono ?_
    rintro e w1 ⟨rfl, rfl⟩
    go_wp2_with fail
    refine H3.out.mono ?_
    rintro e w1 ⟨rfl, hb⟩
    have HB1 := Lib.hid (HB.out.trans (hb.mono hgs))
    clear hb
    go_wp2_with fail
    go_ret
    exact ⟨ret_int HR.out.symm, HB1.out⟩
  | false =>
  have H3 := Lib.hid (e3 ▸ HD.out)
  clear HD
  have HR := Lib.hid (show chk g = if g.E.Nodup then 0 else 4 by rw [HC.out, if_neg HS.out, e1, e2, e3]; rfl)
  have HWf := Lib.hid (show ∀ e ∈ g.E, (Lit.int .i64 e.1).wf = true ∧ (Lit.int .i64 e.2).wf = true by
    intro e he
    have := List.any_eq_false.1 e3 e he
    unfold dangl at this
    simp at this
    have hn := HN.out
    exact ⟨wf_small (by omega) (by omega), wf_small (by omega) (by omega)⟩)
  clear HC HS HN e1 e2 e3
  go_enter Try.func14, Try.ntmps14
  go_wp2_with fail
  refine H1.out.mono ?_
  rintro e w1 ⟨rfl, rfl⟩
  go_wp2_with fail
  refine H2.out.mono ?_
  rintro e w1 ⟨rfl, rfl⟩
  go_wp2_with fail
  refine H3.out.mono ?_
  rintro e w2 ⟨rfl, hb⟩
  clear H1 H2 H3
  have HE := Lib.hid (HG.out.e.keep hb)
  have HGB2 := Lib.hid (HGB.out.keep hb)
  have HB2 := Lib.hid (HB.out.trans (hb.mono hgs))
  have hs2 : w.heap.size ≤ w2.heap.size := HB2.out.size
  clear hb hgs HB HGB HG g0 g1 g2 gl
  obtain ⟨g0, g1, g2, gl⟩ := HGB2.out
  clear HGB2 g0 g1
  have hm := HE.out.hmax
  have hcp := HE.out.hcap
  have HOM := Lib.hid (World.ownsMap_made w2 Try.prog 52 (plainElem (H := Unit) Try.prog 4))
  have HBM := Lib.hid ((Below.refl w2.heap.size w2).alloc (Nat.le_refl _) (.map #[] 0))
  generalize g.E = E at *
  generalize g.aE = aE at *
  generalize g.bE = bE at *
  generalize g.oE = oE at *
  generalize g.cE = cE at *
  unfold maxLen at hm
  obtain ⟨ln, hln⟩ : ∃ y, y = E.length := ⟨_, rfl⟩
  rw [← hln] at g2 HE hcp
  rw [← hln]
  have HLn := Lib.hid hln
  clear hln
  have HMk := @run_makeMap Try.prog
  go_wp2_with fail
  go_loopw [7, 43] (fun _ s43 wr => ∃ (k n : Nat) (D : DataW Unit), k ≤ ln ∧ n ≤ k ∧ s43 = .int .i64 (k : Int) ∧ Hid (Below w2.heap.size w2 wr) ∧ Hid (MpAt wr w2.heap.size n D) ∧ Hid (Seen D (E.take k)) ∧ Hid ((E.take k).Nodup)) (fun _ s43 _ => (ln - (intOf s43)).toNat)
  case atStart => exact ⟨0, 0, _, Nat.zero_le _, Nat.le_refl _, rfl, HBM, HOM, Lib.hid seen_nil, Lib.hid List.nodup_nil⟩
  case round =>
    obtain ⟨k, n, D, hk, hn, rfl, HW, HO, HSe, HNd⟩ := hrel
    have HEW := Lib.hid (HE.out.keep HW.out)
    have hsz : w2.heap.size ≤ wr.heap.size := HW.out.size
    have hbm : w2.heap.size < wr.heap.size := HO.out.lt
    by_cases hlt : k < ln
    · have hlz : (k : Int) < (ln : Int) := by omega
      have hkL : k < E.length := by have := HLn.out; omega
      obtain rfl := HEW.out.ha (by omega)
      have bb := HEW.out.hb (by omega)
      have c0 := HEW.out.c0 k hkL
      have c1 := HEW.out.c1 k hkL
      have HX := Lib.hid (HWf.out _ (List.getElem_mem hkL))
      have HTK := Lib.hid (List.take_succ_eq_append_getElem hkL)
      have HNT := Lib.hid (nodup_take hkL)
      have HNP := Lib.hid (fun h => nodup_pre (k := k + 1) (L := E) h)
      generalize E[k]'hkL = x at *
      obtain ⟨u, v⟩ := x
      simp only at c0 c1
      have HKey := Lib.hid (key_mk (u, v) HX.out.1 HX.out.2)
      have HAt := Lib.hid (HSe.out.at_ (u, v) HX.out.1 HX.out.2)
      have HO1 := Lib.hid (show MpAt (wr.alloc (.cells #[.int .i64 u, .int .i64 v] 52)) w2.heap.size n D from World.ownsMap.alloc HO.out _)
      have HB1 := Lib.hid (HW.out.alloc hsz (.cells #[.int .i64 u, .int .i64 v] 52))
      by_cases hmem : (u, v) ∈ E.take k
      · have HAt1 := Lib.hid (HAt.out.trans (by rw [decide_eq_true hmem]))
        have HL := Lib.hid (show chk g = 4 by rw [HR.out, if_neg (HNP.out (fun h => (HNT.out.1 h).2 hmem))])
        have HBF := Lib.hid (HB2.out.trans (HB1.out.mono hs2))
        clear hmem
        go_wp2_with (first | (at_lookup; go_must (refine wp_look_bool _ rfl _ _ 59 rfl 52 4 pKeyed Try.underlying59 Try.underlying4 (zeroB _) w2.heap.size n D rfl HO1.out _ _ rfl HKey.out true HAt1.out ?_)) | go_in)
        go_ret
        exact ⟨ret_int HL.out.symm, HBF.out⟩
      · have HAt1 := Lib.hid (HAt.out.trans (by rw [decide_eq_false hmem]))
        have HNd1 := Lib.hid (HNT.out.2 ⟨HNd.out, hmem⟩)
        have HSe1 := Lib.hid (HSe.out.snoc (x := (u, v)) HX.out.1 HX.out.2)
        rw [← HTK.out] at HSe1
        clear hmem
        go_wp2_with (first | (at_lookup; go_must (refine wp_look_bool _ rfl _ _ 59 rfl 52 4 pKeyed Try.underlying59 Try.underlying4 (zeroB _) w2.heap.size n D rfl HO1.out _ _ rfl HKey.out false HAt1.out ?_)) | (at_mapUpdate; go_must (refine wpList_mapUpdate_own _ rfl _ _ _ 59 rfl 52 4 pKeyed Try.underlying59 _ w2.heap.size n D rfl HO1.out (by unfold maxLen; omega) _ _ _ rfl rfl HKey.out (.lit (.bool true)) [] (plainElem_bool Try.underlying4 true) ?_)) | go_in)
        intro w3 hO3 hG3
        have HW3 := Lib.hid (HB1.out.grown hG3 (by simp; omega) (by intro j hj; cases hj; exact Nat.le_refl _))
        have HO3 := Lib.hid hO3
        clear hO3 hG3
        go_wp2_with fail
        go_roundw
        case rel => exact ⟨k + 1, n + 1, _, by omega, by omega, by go_num, HW3, HO3, HSe1, HNd1⟩
        case measure => simp [intOf]; omega
    · have hlz : ¬ (k : Int) < (ln : Int) := by omega
      obtain rfl : k = ln := by omega
      have HL := Lib.hid (show chk g = 0 by
        have := HNd.out
        rw [List.take_of_length_le (by have := HLn.out; omega)] at this
        rw [HR.out, if_pos this])
      have HBF := Lib.hid (HB2.out.trans (HW.out.mono hs2))
      go_wp2_with fail
      go_ret
      exact ⟨ret_int HL.out.symm, HBF.out⟩
end Go.Proofs.Ytpcdbnlljdfogaa
