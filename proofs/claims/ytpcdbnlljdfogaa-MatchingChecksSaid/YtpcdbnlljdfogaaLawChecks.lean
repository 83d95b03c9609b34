/- MatchingChecks: for every graph and every list of edges: which graphs are valid and which lists are matchings is as specified; all functions refuse graphs that are not valid. -/
import Derived.Test.YtpcdbnlljdfogaaAwk
import Derived.Test.YtpcdbnlljdfogaaCls
import Derived.Test.YtpcdbnlljdfogaaIs
import Derived.Test.YtpcdbnlljdfogaaRis
import Derived.Test.YtpcdbnlljdfogaaRchk
import Derived.Test.YtpcdbnlljdfogaaSml
set_option linter.unusedSimpArgs false
set_option linter.unusedVariables false
namespace Go.Proofs.Ytpcdbnlljdfogaa
open Go.RowKit

def c0v : Cvr := ⟨[], [], none, 0, 0, 0, none, 0, 0, 0⟩
theorem c0v_at (w : World) : CvAt w c0v := ⟨sli_nil w, sli_nil w⟩
theorem no_wgt {g : Gph} {c : Cvr} (h : chk g ≠ 0) : wgtE g c = chk g := by unfold wgtE; rw [if_pos h]
theorem no_prv {g : Gph} {c : Cvr} {M : List Int} (h : chk g ≠ 0) : prvB g M c = false := by
  unfold prvB
  rw [no_wgt h, decide_eq_false h]
  rfl
set_option maxHeartbeats 16000000 in
set_option maxRecDepth 100000 in
theorem law_checks (g : Gph) (w : World) (hg : GpAt w g) {a : Option Addr} {b off len cap : Nat} {M : List Int} (hM : SlI w a b off len cap M) :
    Calls Try.prog 3 #[g.val, .slice a len cap] w fun e w' => e = .returned (.bool true) ∧ Below w.heap.size w w' := by
  have HB := Lib.hid ((Below.refl w.heap.size w).alloc (Nat.le_refl _) (gBox g))
  have HGB := Lib.hid (gb_new w g 25)
  have HG := Lib.hid (fun W (h : Below w.heap.size w W) => hg.keep h)
  have HM := Lib.hid (fun W (h : Below w.heap.size w W) => hM.keep h)
  have hs0 : w.heap.size ≤ (w.alloc (gBox g)).heap.size := HB.out.size
  have HAw := Lib.hid (awk_any (w.alloc (gBox g)))
  clear hg hM
  unfold gBox at HB HGB hs0 HAw
  unfold Gph.val
  go_enter Try.func3, Try.ntmps3
  go_wp2_with fail
  refine HAw.out.mono ?_
  rintro e w1 ⟨rfl, hb1⟩
  have HB1 := Lib.hid (HB.out.trans (hb1.mono hs0))
  have HGB1 := Lib.hid (HGB.out.keep hb1)
  have hs1 : w.heap.size ≤ w1.heap.size := HB1.out.size
  clear hb1 HB HGB hs0 HAw
  have HS1 := Lib.hid (small_any g w1 140 40)
  unfold Gph.val at HS1
  obtain ⟨g0, g1, g2, gl⟩ := HGB1.out
  go_wp2_with fail
  refine HS1.out.mono ?_
  rintro e w2 ⟨rfl, hb2⟩
  have HB2 := Lib.hid (HB1.out.trans (hb2.mono hs1))
  have HGB2 := Lib.hid (HGB1.out.keep hb2)
  have hs2 : w.heap.size ≤ w2.heap.size := HB2.out.size
  clear HGB1 HB1 hs1 g0 g1 g2 gl
  obtain ⟨g0, g1, g2, gl⟩ := HGB2.out
  clear hb2 HS1
  generalize smallB g 140 40 = sm
  cases sm with
  | false =>
    go_wp2_with fail
    go_ret
    exact ⟨rfl, HB2.out⟩
  | true =>
  by_cases q1 : (len : Int) > 60
  · have p1 : decide ((len : Int) > 60) = true := decide_eq_true q1
    go_wp2_with fail
    go_ret
    exact ⟨rfl, HB2.out⟩
  have p1 : decide ((len : Int) > 60) = false := decide_eq_false q1
  clear q1
  have HK := Lib.hid (rchk_any g w2 (HG.out w2 HB2.out))
  unfold Gph.val at HK
  go_wp2_with fail
  refine HK.out.mono ?_
  rintro e w3 ⟨rfl, hb3⟩
  have HB3 := Lib.hid (HB2.out.trans (hb3.mono hs2))
  have HGB3 := Lib.hid (HGB2.out.keep hb3)
  have hs3 : w.heap.size ≤ w3.heap.size := HB3.out.size
  clear HGB2 HB2 hs2 g0 g1 g2 gl
  obtain ⟨g0, g1, g2, gl⟩ := HGB3.out
  clear hb3 HK p1
  have HCk := Lib.hid (check_any g w3.drew (HG.out w3.drew HB3.out.drew))
  have HIs := Lib.hid (fun W (h : Below w.heap.size w W) => is_any g W (HG.out W h) (HM.out W h))
  have HRi := Lib.hid (fun W (h : Below w.heap.size w W) => ris_any g W (HG.out W h) (HM.out W h))
  unfold Gph.val at HCk HIs HRi
  generalize isB g M = ib at HIs HRi
  have HNo := Lib.hid (fun (h : chk g ≠ 0) W (hW : Below w.heap.size w W) => gre_no g W (HG.out W hW) h)
  have HNw := Lib.hid (fun (h : chk g ≠ 0) W (hW : Below w.heap.size w W) => wgt_any g c0v W (HG.out W hW) (c0v_at W))
  have HNe := Lib.hid (fun (h : chk g ≠ 0) => no_wgt (c := c0v) h)
  have HNz := Lib.hid (fun (h : chk g ≠ 0) => wgtW_no (g := g) (c := c0v) (by rw [no_wgt h]; exact h))
  have HNc := Lib.hid (fun (h : chk g ≠ 0) W (hW : Below w.heap.size w W) => cov_no g W (HG.out W hW) h)
  have HNv := Lib.hid (fun (h : chk g ≠ 0) W (hW : Below w.heap.size w W) => vio_no g W (HG.out W hW) h)
  have HNk := Lib.hid (fun (h : chk g ≠ 0) W (hW : Below w.heap.size w W) => cls_no g W (HG.out W hW) h)
  have HNp := Lib.hid (fun (h : chk g ≠ 0) W (hW : Below w.heap.size w W) => prv_any g c0v W (HG.out W hW) (c0v_at W) (sli_nil W))
  have HNq := Lib.hid (fun (h : chk g ≠ 0) => no_prv (c := c0v) (M := []) h)
  unfold Gph.val at HNo HNw HNc HNv HNk HNp
  unfold Cvr.val at HNw HNp
  generalize wgtE g c0v = we at *
  generalize wgtW g c0v = ww at *
  generalize prvB g [] c0v = pv at *
  generalize chk g = f at *
  have hff : (f != f) = false := by simp
  have hii : (ib != ib) = false := by simp
  go_wp2_with fail
  refine wp_region_s (fun w' => w'.cell? ⟨w.heap.size, 0, none⟩ = some (.slice g.aL g.L.length g.cL) ∧ w'.cell? ⟨w.heap.size, 1, none⟩ = some (.slice g.aR g.R.length g.cR) ∧ w'.cell? ⟨w.heap.size, 2, none⟩ = some (.slice g.aE g.E.length g.cE)) 10 (by kernel_rfl) ?_
  refine AnyS.take (i := 0) (v := (.agg #[.slice g.aL g.L.length g.cL, .slice g.aR g.R.length g.cR, .slice g.aE g.E.length g.cE])) [10, 7, 4, 1] rfl (by kernel_rfl) (by kernel_rfl) (by kernel_rfl) (by kernel_rfl) (fun _ _ _ h => h) ⟨g0, g1, g2⟩ (Or.inl ⟨by kernel_rfl, fun w' hw' => (by obtain ⟨t0, t1, t2⟩ := hw'; go_simp)⟩) ?_
  simp only [Act.put, List.setIfInBounds_toArray, List.set_cons_zero, List.set_cons_succ]
  refine AnyS.take0 (i := 2) (v := (.int .i64 f)) rfl (by kernel_rfl) (by kernel_rfl) (by kernel_rfl) (by kernel_rfl) (fun _ _ _ h => h) (fun _ => ⟨g0, g1, g2⟩) (Or.inl ⟨by kernel_rfl, fun w' _ => (by go_simp)⟩) ?_
  simp only [Act.put, List.setIfInBounds_toArray, List.set_cons_zero, List.set_cons_succ]
  refine AnyS.step (j := 1) rfl (by kernel_rfl) (fun K hK => ?_)
  go_simp
  refine HCk.out.mono ?_
  rintro e w4 ⟨rfl, hb4⟩
  replace hb4 := undrew hb4
  have HB4 := Lib.hid (HB3.out.trans (hb4.mono hs3))
  have HGB4 := Lib.hid (HGB3.out.keep hb4)
  have hs4 : w.heap.size ≤ w4.heap.size := HB4.out.size
  clear HGB3 HB3 hs3 g0 g1 g2 gl
  obtain ⟨g0, g1, g2, gl⟩ := HGB4.out
  clear hb4
  refine hK.out _ _ (fun _ => ⟨g0, g1, g2⟩) ?_
  clear hK
  refine AnyS.take0 (i := 3) (v := (.bool false)) rfl (by kernel_rfl) (by kernel_rfl) (by kernel_rfl) (by kernel_rfl) (fun _ _ _ h => h) (fun _ => ⟨g0, g1, g2⟩) (Or.inl ⟨by kernel_rfl, fun w' _ => (by go_simp)⟩) ?_
  simp only [Act.put, List.setIfInBounds_toArray, List.set_cons_zero, List.set_cons_succ]
  refine AnyS.take0 (i := 4) (v := (.bool false)) rfl (by kernel_rfl) (by kernel_rfl) (by kernel_rfl) (by kernel_rfl) (fun _ _ _ h => h) (fun _ => ⟨g0, g1, g2⟩) (Or.inl ⟨by kernel_rfl, fun w' _ => (by go_simp)⟩) ?_
  simp only [Act.put, List.setIfInBounds_toArray, List.set_cons_zero, List.set_cons_succ]
  refine AnyS.take (i := 5) (v := (.agg #[.slice g.aL g.L.length g.cL, .slice g.aR g.R.length g.cR, .slice g.aE g.E.length g.cE])) [10, 7] rfl (by kernel_rfl) (by kernel_rfl) (by kernel_rfl) (by kernel_rfl) (fun _ _ _ h => h) ⟨g0, g1, g2⟩ (Or.inl ⟨by kernel_rfl, fun w' hw' => (by obtain ⟨t0, t1, t2⟩ := hw'; go_simp)⟩) ?_
  simp only [Act.put, List.setIfInBounds_toArray, List.set_cons_zero, List.set_cons_succ]
  refine AnyS.take0 (i := 6) (v := (.slice a len cap)) rfl (by kernel_rfl) (by kernel_rfl) (by kernel_rfl) (by kernel_rfl) (fun _ _ _ h => h) (fun _ => ⟨g0, g1, g2⟩) (Or.inl ⟨by kernel_rfl, fun w' _ => (by go_simp)⟩) ?_
  simp only [Act.put, List.setIfInBounds_toArray, List.set_cons_zero, List.set_cons_succ]
  refine AnyS.take (i := 8) (v := (.agg #[.slice g.aL g.L.length g.cL, .slice g.aR g.R.length g.cR, .slice g.aE g.E.length g.cE])) [10] rfl (by kernel_rfl) (by kernel_rfl) (by kernel_rfl) (by kernel_rfl) (fun _ _ _ h => h) ⟨g0, g1, g2⟩ (Or.inl ⟨by kernel_rfl, fun w' hw' => (by obtain ⟨t0, t1, t2⟩ := hw'; go_simp)⟩) ?_
  simp only [Act.put, List.setIfInBounds_toArray, List.set_cons_zero, List.set_cons_succ]
  refine AnyS.take0 (i := 9) (v := (.slice a len cap)) rfl (by kernel_rfl) (by kernel_rfl) (by kernel_rfl) (by kernel_rfl) (fun _ _ _ h => h) (fun _ => ⟨g0, g1, g2⟩) (Or.inl ⟨by kernel_rfl, fun w' _ => (by go_simp)⟩) ?_
  simp only [Act.put, List.setIfInBounds_toArray, List.set_cons_zero, List.set_cons_succ]
  refine AnyS.step (j := 7) rfl (by kernel_rfl) (fun K hK => ?_)
  go_simp
  refine (HIs.out _ HB4.out).mono ?_
  rintro e w5 ⟨rfl, hb5⟩
  have HB5 := Lib.hid (HB4.out.trans (hb5.mono hs4))
  have HGB5 := Lib.hid (HGB4.out.keep hb5)
  have hs5 : w.heap.size ≤ w5.heap.size := HB5.out.size
  clear HGB4 HB4 hs4 g0 g1 g2 gl
  obtain ⟨g0, g1, g2, gl⟩ := HGB5.out
  clear hb5
  refine hK.out _ _ (fun _ => ⟨g0, g1, g2⟩) ?_
  clear hK
  refine AnyS.step (j := 10) rfl (by kernel_rfl) (fun K hK => ?_)
  go_simp
  refine (HRi.out _ HB5.out).mono ?_
  rintro e w6 ⟨rfl, hb6⟩
  have HB6 := Lib.hid (HB5.out.trans (hb6.mono hs5))
  have HGB6 := Lib.hid (HGB5.out.keep hb6)
  have hs6 : w.heap.size ≤ w6.heap.size := HB6.out.size
  clear HGB5 HB5 hs5 g0 g1 g2 gl
  obtain ⟨g0, g1, g2, gl⟩ := HGB6.out
  clear hb6
  refine hK.out _ _ (fun h => absurd h (by decide)) ?_
  clear hK
  refine AnyS.rest 11 (by kernel_rfl) rfl (by kernel_rfl) ?_
  change wpList _ _ _ [_, _] _ _
  clear HCk HIs HRi hii
  by_cases hf : f = 0
  · subst hf
    go_wp2_with fail
    go_ret
    exact ⟨rfl, HB6.out⟩
  have hf0 : (f == 0) = false := by simpa using hf
  have HN6 := Lib.hid (HNo.out hf w6 HB6.out)
  go_wp2_with fail
  refine HN6.out.mono ?_
  rintro e w7 ⟨rfl, hb7⟩
  have HB7 := Lib.hid (HB6.out.trans (hb7.mono hs6))
  have HGB7 := Lib.hid (HGB6.out.keep hb7)
  have hs7 : w.heap.size ≤ w7.heap.size := HB7.out.size
  clear HGB6 HB6 hs6 g0 g1 g2 gl
  obtain ⟨g0, g1, g2, gl⟩ := HGB7.out
  clear hb7 HN6
  have HN7 := Lib.hid (HNw.out hf w7 HB7.out)
  have hwe := HNe.out hf
  have hww := HNz.out hf
  subst hwe
  subst hww
  go_wp2_with fail
  refine HN7.out.mono ?_
  rintro e w8 ⟨rfl, hb8⟩
  have HB8 := Lib.hid (HB7.out.trans (hb8.mono hs7))
  have HGB8 := Lib.hid (HGB7.out.keep hb8)
  have hs8 : w.heap.size ≤ w8.heap.size := HB8.out.size
  clear HGB7 HB7 hs7 g0 g1 g2 gl
  obtain ⟨g0, g1, g2, gl⟩ := HGB8.out
  clear hb8 HN7
  have HN8 := Lib.hid (HNc.out hf w8 HB8.out)
  go_wp2_with fail
  refine HN8.out.mono ?_
  rintro e w9' ⟨rfl, hb9'⟩
  have hb9 := hb9'.alloc hb9'.size (.cells #[.slice none 0 0, .slice none 0 0] 36)
  obtain ⟨w9, hw9⟩ : ∃ y, y = w9'.alloc (.cells #[.slice none 0 0, .slice none 0 0] 36) := ⟨_, rfl⟩
  rw [← hw9] at hb9
  have gz0 := (hb9'.cell (p := ⟨w.heap.size, 0, none⟩) gl).trans g0
  have gz1 := (hb9'.cell (p := ⟨w.heap.size, 1, none⟩) gl).trans g1
  have gz2 := (hb9'.cell (p := ⟨w.heap.size, 2, none⟩) gl).trans g2
  have gzl := Nat.lt_of_lt_of_le gl hb9'.size
  have kk0 : w9.cell? ⟨w9'.heap.size, 0, none⟩ = some (.slice none 0 0) := by rw [hw9]; simp [go_sem]
  have kk1 : w9.cell? ⟨w9'.heap.size, 1, none⟩ = some (.slice none 0 0) := by rw [hw9]; simp [go_sem]
  have hkk : w9'.heap.size < w9.heap.size := by rw [hw9]; simp
  have K0 := Lib.hid kk0
  have K1 := Lib.hid kk1
  have Hw9 := Lib.hid hw9
  have HB9 := Lib.hid (HB8.out.trans (hb9.mono hs8))
  have HGB9 := Lib.hid (HGB8.out.keep hb9)
  have hs9 : w.heap.size ≤ w9.heap.size := HB9.out.size
  clear HGB8 HB8 hs8 g0 g1 g2 gl hb9 hb9' HN8 kk0 kk1 hw9
  have HN9 := Lib.hid (HNv.out hf w9 HB9.out)
  go_wp2_with fail
  rw [← Hw9.out]
  refine HN9.out.mono ?_
  rintro e w10 ⟨rfl, hb10⟩
  clear gz0 gz1 gz2 gzl
  obtain ⟨g0, g1, g2, gl⟩ := HGB9.out
  have k0 := (hb10.cell (p := ⟨w9'.heap.size, 0, none⟩) hkk).trans K0.out
  have k1 := (hb10.cell (p := ⟨w9'.heap.size, 1, none⟩) hkk).trans K1.out
  have hk10 := Nat.lt_of_lt_of_le hkk hb10.size
  have HB10 := Lib.hid (HB9.out.trans (hb10.mono hs9))
  have HGB10 := Lib.hid (HGB9.out.keep hb10)
  have hs10 : w.heap.size ≤ w10.heap.size := HB10.out.size
  clear HGB9 HB9 hs9 g0 g1 g2 gl
  obtain ⟨g0, g1, g2, gl⟩ := HGB10.out
  clear hb10 HN9 hkk K0 K1 Hw9
  have HN10 := Lib.hid (HNk.out hf w10 HB10.out)
  go_wp2_with fail
  refine HN10.out.mono ?_
  rintro e w11 ⟨rfl, hb11⟩
  replace k0 := (hb11.cell (p := ⟨w9'.heap.size, 0, none⟩) hk10).trans k0
  replace k1 := (hb11.cell (p := ⟨w9'.heap.size, 1, none⟩) hk10).trans k1
  have HB11 := Lib.hid (HB10.out.trans (hb11.mono hs10))
  have HGB11 := Lib.hid (HGB10.out.keep hb11)
  have hs11 : w.heap.size ≤ w11.heap.size := HB11.out.size
  clear HGB10 HB10 hs10 g0 g1 g2 gl
  obtain ⟨g0, g1, g2, gl⟩ := HGB11.out
  clear hb11 HN10 hk10
  have hpv := HNq.out hf
  have HN11 := Lib.hid (HNp.out hf w11 HB11.out)
  rw [hpv] at HN11
  have hf1 : (we == we) = true := by simp
  unfold c0v at HN11
  simp only [List.length_nil] at HN11
  clear HNo HNw HNe HNz HNc HNv HNk HNp HNq hpv
  go_wp2_with fail
  refine HN11.out.mono ?_
  rintro e w12 ⟨rfl, hb12⟩
  have HB12 := Lib.hid (HB11.out.trans (hb12.mono hs11))
  clear hb12
  go_wp2_with fail
  go_ret
  exact ⟨rfl, HB12.out⟩
end Go.Proofs.Ytpcdbnlljdfogaa
