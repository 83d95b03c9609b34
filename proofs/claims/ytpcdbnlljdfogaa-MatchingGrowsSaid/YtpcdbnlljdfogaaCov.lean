/- Cover: what the source does not reach on the left, and what it reaches on the right. -/
import Derived.Test.YtpcdbnlljdfogaaGre
import Derived.Test.YtpcdbnlljdfogaaClo
set_option linter.unusedSimpArgs false
set_option linter.unusedVariables false
namespace Go.Proofs.Ytpcdbnlljdfogaa
open Go.RowKit

def bysG (g : Gph) (R : List Int) : List Int := srch (netH g) R (arcsA (netH g) (g.L.length + g.R.length + 2)) ((g.L.length + g.R.length : Nat) : Int)
def covL (g : Gph) (R : List Int) : List Int := selN (fun i => atI (bysG g R) (i : Int) == -1) g.L.length
def covR (g : Gph) (R : List Int) : List Int := selN (fun i => atI (bysG g R) ((g.L.length + i : Nat) : Int) != -1) g.R.length
abbrev rBox (g : Gph) (w : World) : World := (w.alloc (gBox g)).alloc (.cells #[.slice none 0 0, .slice none 0 0] 36)
set_option maxHeartbeats 8000000 in
set_option maxRecDepth 100000 in
theorem cov_no (g : Gph) (w : World) (hg : GpAt w g) (hc : chk g ≠ 0) :
    Calls Try.prog 19 #[g.val] w fun e w' => e = .returned (.tuple #[.agg #[.slice none 0 0, .slice none 0 0], .int .i64 (chk g)]) ∧ Below w.heap.size w w' := by
  have HB := Lib.hid (show Below w.heap.size w (rBox g w) from ((Below.refl w.heap.size w).alloc (Nat.le_refl _) _).alloc (by simp) _)
  have HCk := Lib.hid (check_any g _ (hg.keep HB.out))
  have hz : (chk g != 0) = true := by simpa using hc
  have hs0 : w.heap.size ≤ (rBox g w).heap.size := HB.out.size
  have r0 : (rBox g w).cell? ⟨w.heap.size + 1, 0, none⟩ = some (.slice none 0 0) := by unfold rBox; simp [go_sem]
  have r1 : (rBox g w).cell? ⟨w.heap.size + 1, 1, none⟩ = some (.slice none 0 0) := by unfold rBox; simp [go_sem]
  have rz : w.heap.size + 1 < (rBox g w).heap.size := by unfold rBox; simp
  have q0 : (rBox g w).frozen? ⟨w.heap.size + 1, 0, none⟩ = false := by unfold rBox; simp [go_sem]
  have q1 : (rBox g w).frozen? ⟨w.heap.size + 1, 1, none⟩ = false := by unfold rBox; simp [go_sem]
  clear hg hc
  unfold Gph.val at HCk ⊢
  unfold rBox gBox at HB HCk hs0 r0 r1 rz q0 q1
  generalize chk g = f at *
  go_enter Try.func19, Try.ntmps19
  go_wp2_with fail
  refine HCk.out.mono ?_
  rintro e w1 ⟨rfl, hb1⟩
  have HB1 := Lib.hid (HB.out.trans (hb1.mono hs0))
  replace r0 := (hb1.cell (p := ⟨w.heap.size + 1, 0, none⟩) rz).trans r0
  replace r1 := (hb1.cell (p := ⟨w.heap.size + 1, 1, none⟩) rz).trans r1
  replace q0 := (hb1.frozen (p := ⟨w.heap.size + 1, 0, none⟩) rz).trans q0
  replace q1 := (hb1.frozen (p := ⟨w.heap.size + 1, 1, none⟩) rz).trans q1
  clear hb1
  go_wp2_with fail
  have d0 : ((w1.setCell ⟨w.heap.size + 1, 0, none⟩ (.slice none 0 0)).setCell ⟨w.heap.size + 1, 1, none⟩ (.slice none 0 0)).cell? ⟨w.heap.size + 1, 0, none⟩ = some (.slice none 0 0) := by rw [World.cell?_setCell_other _ _ _ _ (by simp)]; exact World.cell?_setCell_same _ _ _ r0
  have d1 : ((w1.setCell ⟨w.heap.size + 1, 0, none⟩ (.slice none 0 0)).setCell ⟨w.heap.size + 1, 1, none⟩ (.slice none 0 0)).cell? ⟨w.heap.size + 1, 1, none⟩ = some (.slice none 0 0) := World.cell?_setCell_same _ _ _ (by rw [World.cell?_setCell_other _ _ _ _ (by simp)]; exact r1)
  have hB := (HB1.out.setCell (p := ⟨w.heap.size + 1, 0, none⟩) (by simp) (.slice none 0 0)).setCell (p := ⟨w.heap.size + 1, 1, none⟩) (by simp) (.slice none 0 0)
  refine bodyPost_ret (v := .tuple #[.agg #[.slice none 0 0, .slice none 0 0], .int .i64 f]) ?_ rfl ⟨rfl, hB⟩
  simp [results, Try.results19, go_sem, d0, d1]
set_option maxHeartbeats 16000000 in
set_option maxRecDepth 100000 in
theorem cov_any (g : Gph) (w : World) (hg : GpAt w g) (hc : chk g = 0) (F K : Nat) (Rf : List Int) (hf : fillG g F K = some Rf) :
    Calls Try.prog 19 #[g.val] w fun e w' => ∃ v1 v2, e = .returned (.tuple #[.agg #[v1, v2], .int .i64 0]) ∧ OwI w' w.heap.size v1 (covL g Rf).length (covL g Rf) ∧ OwI w' w.heap.size v2 (covR g Rf).length (covR g Rf) ∧ Below w.heap.size w w' := by
  have HB := Lib.hid (show Below w.heap.size w (rBox g w) from ((Below.refl w.heap.size w).alloc (Nat.le_refl _) _).alloc (by simp) _)
  have HCk := Lib.hid (check_any g _ (hg.keep HB.out))
  rw [hc] at HCk
  have HFi := Lib.hid (fun W (hW : Below w.heap.size w W) => fil_any g W (hg.keep hW) hc F K Rf hf)
  have hs0 : w.heap.size ≤ (rBox g w).heap.size := HB.out.size
  have r0 : (rBox g w).cell? ⟨w.heap.size + 1, 0, none⟩ = some (.slice none 0 0) := by unfold rBox; simp [go_sem]
  have r1 : (rBox g w).cell? ⟨w.heap.size + 1, 1, none⟩ = some (.slice none 0 0) := by unfold rBox; simp [go_sem]
  have rz : w.heap.size + 1 < (rBox g w).heap.size := by unfold rBox; simp
  have q0 : (rBox g w).frozen? ⟨w.heap.size + 1, 0, none⟩ = false := by unfold rBox; simp [go_sem]
  have q1 : (rBox g w).frozen? ⟨w.heap.size + 1, 1, none⟩ = false := by unfold rBox; simp [go_sem]
  have HGB := Lib.hid (show GbAt (rBox g w) w.heap.size g from (gb_new w g 25).keep ((Below.refl _ _).alloc (Nat.le_refl _) _))
  obtain ⟨l1, l2, l3, _⟩ := chk_ok hc
  clear hg hc hf
  unfold Gph.val at HCk HFi ⊢
  unfold rBox gBox at HB HCk hs0 r0 r1 rz q0 q1 HGB
  go_enter Try.func19, Try.ntmps19
  go_wp2_with fail
  refine HCk.out.mono ?_
  rintro e w1 ⟨rfl, hb1⟩
  have HB1 := Lib.hid (HB.out.trans (hb1.mono hs0))
  have hz1 := Nat.lt_of_lt_of_le rz hb1.size
  replace r0 := (hb1.cell (p := ⟨w.heap.size + 1, 0, none⟩) rz).trans r0
  replace r1 := (hb1.cell (p := ⟨w.heap.size + 1, 1, none⟩) rz).trans r1
  replace q0 := (hb1.frozen (p := ⟨w.heap.size + 1, 0, none⟩) rz).trans q0
  replace q1 := (hb1.frozen (p := ⟨w.heap.size + 1, 1, none⟩) rz).trans q1
  have HGB1 := Lib.hid (HGB.out.keep hb1)
  have HF1 := Lib.hid (HFi.out w1 HB1.out)
  have hs1 : w.heap.size ≤ w1.heap.size := HB1.out.size
  clear hb1 HB HGB HCk HFi hs0 rz
  obtain ⟨g0, g1, g2, gl⟩ := HGB1.out
  go_wp2_with fail
  refine HF1.out.mono ?_
  rintro e w2 ⟨nb, N, rfl, hN, hNo, hW, hR, hb2⟩
  subst hR
  have HB2 := Lib.hid (HB1.out.trans (hb2.mono hs1))
  have hs2 : w.heap.size ≤ w2.heap.size := HB2.out.size
  have HGB2 := Lib.hid (HGB1.out.keep hb2)
  have hz2 := Nat.lt_of_lt_of_le hz1 hb2.size
  replace r0 := (hb2.cell (p := ⟨w.heap.size + 1, 0, none⟩) hz1).trans r0
  replace r1 := (hb2.cell (p := ⟨w.heap.size + 1, 1, none⟩) hz1).trans r1
  replace q0 := (hb2.frozen (p := ⟨w.heap.size + 1, 0, none⟩) hz1).trans q0
  replace q1 := (hb2.frozen (p := ⟨w.heap.size + 1, 1, none⟩) hz1).trans q1
  have c0 := hN.at_.c0
  have hNs := hNo.s
  have hNs' : N.s = ((g.L.length + g.R.length : Nat) : Int) := by rw [hNs]; omega
  rw [hNs'] at c0
  have hAl := hNo.n
  have HSr := Lib.hid (srch_any N nb w2 hN.at_ hW (g.L.length + g.R.length) (by omega))
  rw [hNo.h, hNo.a] at HSr
  change Hid (Calls _ _ _ _ fun e w' => ∃ g_1, _ ∧ OwI _ _ _ _ (bysG g N.R) ∧ _) at HSr
  rw [hAl] at HSr
  clear hN hNo hW hb2 g0 g1 g2 gl HF1 hNs hNs' hAl hz1 HGB1
  have HcL := Lib.hid (show covL g N.R = selN (fun i => atI (bysG g N.R) (i : Int) == -1) g.L.length from rfl)
  have HcR := Lib.hid (show covR g N.R = selN (fun i => atI (bysG g N.R) ((g.L.length + i : Nat) : Int) != -1) g.R.length from rfl)
  obtain ⟨by_, hby⟩ : ∃ y, y = bysG g N.R := ⟨_, rfl⟩
  rw [← hby] at HSr HcL HcR
  clear hby
  obtain ⟨nl, hnl⟩ : ∃ y, y = g.L.length := ⟨_, rfl⟩
  obtain ⟨nr, hnr⟩ : ∃ y, y = g.R.length := ⟨_, rfl⟩
  rw [← hnl, ← hnr] at HSr c0 HcR
  rw [← hnl] at HcL l1
  rw [← hnr] at l2
  have Hnl := Lib.hid hnl
  have Hnr := Lib.hid hnr
  clear hnl hnr
  go_wp2_with fail
  refine HSr.out.mono ?_
  rintro e w3 ⟨gs, rfl, hO, hb3⟩
  have hgs := World.ownsRow.lt hO gs rfl
  have HB3 := Lib.hid ((HB2.out.trans (hb3.mono hs2)).alloc (Nat.le_trans hs2 hb3.size) (.cells #[.slice (some ⟨gs, 0, none⟩) (nl + nr + 2) (nl + nr + 2)] 22))
  have hb4 := hb3.alloc hb3.size (.cells #[.slice (some ⟨gs, 0, none⟩) (nl + nr + 2) (nl + nr + 2)] 22)
  obtain ⟨W4, hW4⟩ : ∃ W4, W4 = w3.alloc (.cells #[.slice (some ⟨gs, 0, none⟩) (nl + nr + 2) (nl + nr + 2)] 22) := ⟨_, rfl⟩
  have hz4 : w.heap.size + 1 < w3.heap.size := Nat.lt_of_lt_of_le hz2 hb3.size
  have hs4 : W4.heap.size = w3.heap.size + 1 := by rw [hW4]; simp
  have cb4 : W4.cell? ⟨w3.heap.size, 0, none⟩ = some (.slice (some ⟨gs, 0, none⟩) (nl + nr + 2) (nl + nr + 2)) := by rw [hW4]; simp [go_sem]
  rw [← hW4] at HB3 hb4
  have HGB4 := Lib.hid (HGB2.out.keep hb4)
  have HO4 := Lib.hid (show OwI W4 w2.heap.size (.slice (some ⟨gs, 0, none⟩) (nl + nr + 2) (nl + nr + 2)) (nl + nr + 2) by_ by rw [hW4]; exact World.ownsRow.alloc hO _)
  replace r0 := (hb4.cell (p := ⟨w.heap.size + 1, 0, none⟩) hz2).trans r0
  replace r1 := (hb4.cell (p := ⟨w.heap.size + 1, 1, none⟩) hz2).trans r1
  replace q0 := (hb4.frozen (p := ⟨w.heap.size + 1, 0, none⟩) hz2).trans q0
  replace q1 := (hb4.frozen (p := ⟨w.heap.size + 1, 1, none⟩) hz2).trans q1
  have hbl : by_.length = nl + nr + 2 := hO.len
  have h34 : w3.heap.size < W4.heap.size := by omega
  have hgb4 : w.heap.size < W4.heap.size := by omega
  have HA := Lib.hid (fun W (hW : Below W4.heap.size W4 W) => idxA_any (fun i => atI by_ (i : Int) == -1) g.aL nl g.cL W w3.heap.size (by omega) (fun i V hi hV => by
    have hVV := hW.trans (hV.mono hW.size)
    have hx := (HO4.out.keep hVV).at_ i (by omega)
    rw [← atI_get (by omega)] at hx
    exact cov1_any V w3.heap.size gs (nl + nr + 2) i _ ((hVV.cell (p := ⟨w3.heap.size, 0, none⟩) h34).trans cb4) hx (by omega) (by omega)))
  have HBx := Lib.hid (fun W (hW : Below W4.heap.size W4 W) => idxB_any (fun i => atI by_ ((nl + i : Nat) : Int) != -1) g.aR nr g.cR W w3.heap.size w.heap.size (by omega) (fun i V hi hV => by
    have hVV := hW.trans (hV.mono hW.size)
    have hx := (HO4.out.keep hVV).at_ (nl + i) (by omega)
    rw [← atI_get (by omega)] at hx
    have := cov2_any V w3.heap.size w.heap.size gs (nl + nr + 2) i g (atI by_ ((nl + i : Nat) : Int)) ((hVV.cell (p := ⟨w3.heap.size, 0, none⟩) h34).trans cb4) (HGB4.out.keep hVV) (by rw [← Hnl.out]; exact hx) (by rw [← Hnl.out]; omega) (by omega)
    exact this))
  clear hO hb3 hb4 HGB2 HSr HO4 cb4
  go_wp2_with fail
  rw [← hW4]
  clear hW4
  obtain ⟨g0, g1, g2, gl⟩ := HGB4.out
  rw [← Hnl.out] at g0
  rw [← Hnr.out] at g1
  have hzz : w.heap.size + 1 < W4.heap.size := by omega
  go_wp2_with fail
  refine wp_region_s (fun w' => w'.cell? ⟨w.heap.size, 0, none⟩ = some (.slice g.aL nl g.cL) ∧ w'.cell? ⟨w.heap.size, 1, none⟩ = some (.slice g.aR nr g.cR)) 9 (by kernel_rfl) ?_
  refine AnyS.take0 (i := 0) (v := (.pointer (some ⟨w.heap.size, 0, none⟩))) rfl (by kernel_rfl) (by kernel_rfl) (by kernel_rfl) (by kernel_rfl) (fun _ _ _ h => h) (fun _ => ⟨g0, g1⟩) (Or.inl ⟨by kernel_rfl, fun w' _ => (by go_simp)⟩) ?_
  simp only [Act.put, List.setIfInBounds_toArray, List.set_cons_zero, List.set_cons_succ]
  refine AnyS.take (i := 1) (v := (.slice g.aL nl g.cL)) [9] rfl (by kernel_rfl) (by kernel_rfl) (by kernel_rfl) (by kernel_rfl) (fun _ _ _ h => h) ⟨g0, g1⟩ (Or.inl ⟨by kernel_rfl, fun w' hw' => (by obtain ⟨t0, t1⟩ := hw'; go_simp)⟩) ?_
  simp only [Act.put, List.setIfInBounds_toArray, List.set_cons_zero, List.set_cons_succ]
  refine AnyS.take0 (i := 2) (v := (.func (.func 45) #[] #[.pointer (some ⟨w3.heap.size, 0, none⟩)])) rfl (by kernel_rfl) (by kernel_rfl) (by kernel_rfl) (by kernel_rfl) (fun _ _ _ h => h) (fun _ => ⟨g0, g1⟩) (Or.inl ⟨by kernel_rfl, fun w' _ => (by go_simp)⟩) ?_
  simp only [Act.put, List.setIfInBounds_toArray, List.set_cons_zero, List.set_cons_succ]
  refine AnyS.take0 (i := 4) (v := (.pointer (some ⟨w.heap.size, 1, none⟩))) rfl (by kernel_rfl) (by kernel_rfl) (by kernel_rfl) (by kernel_rfl) (fun _ _ _ h => h) (fun _ => ⟨g0, g1⟩) (Or.inl ⟨by kernel_rfl, fun w' _ => (by go_simp)⟩) ?_
  simp only [Act.put, List.setIfInBounds_toArray, List.set_cons_zero, List.set_cons_succ]
  refine AnyS.take (i := 5) (v := (.slice g.aR nr g.cR)) [9] rfl (by kernel_rfl) (by kernel_rfl) (by kernel_rfl) (by kernel_rfl) (fun _ _ _ h => h) ⟨g0, g1⟩ (Or.inl ⟨by kernel_rfl, fun w' hw' => (by obtain ⟨t0, t1⟩ := hw'; go_simp)⟩) ?_
  simp only [Act.put, List.setIfInBounds_toArray, List.set_cons_zero, List.set_cons_succ]
  refine AnyS.take0 (i := 6) (v := (.func (.func 46) #[] #[.pointer (some ⟨w3.heap.size, 0, none⟩), .pointer (some ⟨w.heap.size, 0, none⟩)])) rfl (by kernel_rfl) (by kernel_rfl) (by kernel_rfl) (by kernel_rfl) (fun _ _ _ h => h) (fun _ => ⟨g0, g1⟩) (Or.inl ⟨by kernel_rfl, fun w' _ => (by go_simp)⟩) ?_
  simp only [Act.put, List.setIfInBounds_toArray, List.set_cons_zero, List.set_cons_succ]
  refine AnyS.step (j := 3) rfl (by kernel_rfl) (fun K hK => ?_)
  go_simp
  refine (HA.out _ (Below.refl _ _).drew).mono ?_
  rintro e w5 ⟨v1, rfl, ho1, hb5⟩
  replace hb5 := undrew hb5
  rw [← HcL.out] at ho1
  have HO1 := Lib.hid (show OwI w5 W4.heap.size v1 (covL g N.R).length (covL g N.R) from ho1)
  have HB5 := Lib.hid (HB3.out.trans (hb5.mono HB3.out.size))
  have HBy := Lib.hid (HBx.out w5 hb5)
  have hgb5 : w.heap.size < w5.heap.size := Nat.lt_of_lt_of_le hgb4 hb5.size
  have hz5 : w.heap.size + 1 < w5.heap.size := Nat.lt_of_lt_of_le hzz hb5.size
  replace g0 := (hb5.cell (p := ⟨w.heap.size, 0, none⟩) hgb4).trans g0
  replace g1 := (hb5.cell (p := ⟨w.heap.size, 1, none⟩) hgb4).trans g1
  replace r0 := (hb5.cell (p := ⟨w.heap.size + 1, 0, none⟩) hzz).trans r0
  replace r1 := (hb5.cell (p := ⟨w.heap.size + 1, 1, none⟩) hzz).trans r1
  replace q0 := (hb5.frozen (p := ⟨w.heap.size + 1, 0, none⟩) hzz).trans q0
  replace q1 := (hb5.frozen (p := ⟨w.heap.size + 1, 1, none⟩) hzz).trans q1
  clear ho1 hb5 HA HBx
  refine hK.out _ _ (fun _ => ⟨g0, g1⟩) ?_
  clear hK
  refine AnyS.step (j := 7) rfl (by kernel_rfl) (fun K hK => ?_)
  go_simp
  refine HBy.out.mono ?_
  rintro e w6 ⟨v2, rfl, ho2, hb6⟩
  rw [← HcR.out] at ho2
  have HO2 := Lib.hid (show OwI w6 w.heap.size v2 (covR g N.R).length (covR g N.R) from ho2.mono HB5.out.size)
  have HO1k := Lib.hid ((HO1.out.keep hb6).mono HB3.out.size)
  have HB6 := Lib.hid (HB5.out.trans (hb6.mono HB5.out.size))
  have HN1 := Lib.hid (fun k hk => (World.ownsRow.lt HO1.out k hk).1)
  have HN2 := Lib.hid (fun k hk => (World.ownsRow.lt ho2 k hk).1)
  replace g0 := (hb6.cell (p := ⟨w.heap.size, 0, none⟩) hgb5).trans g0
  replace g1 := (hb6.cell (p := ⟨w.heap.size, 1, none⟩) hgb5).trans g1
  replace r0 := (hb6.cell (p := ⟨w.heap.size + 1, 0, none⟩) hz5).trans r0
  replace r1 := (hb6.cell (p := ⟨w.heap.size + 1, 1, none⟩) hz5).trans r1
  replace q0 := (hb6.frozen (p := ⟨w.heap.size + 1, 0, none⟩) hz5).trans q0
  replace q1 := (hb6.frozen (p := ⟨w.heap.size + 1, 1, none⟩) hz5).trans q1
  clear ho2 hb6 HBy HO1
  refine hK.out _ _ (fun _ => ⟨g0, g1⟩) ?_
  clear hK
  obtain ⟨a1, c1, hv1, _⟩ := own_shape HO1k.out
  obtain ⟨a2, c2, hv2, _⟩ := own_shape HO2.out
  subst hv1
  subst hv2
  refine AnyS.step (j := 8) rfl (by kernel_rfl) (fun K hK => ?_)
  go_simp
  refine hK.out _ _ (fun _ => ⟨g0, g1⟩) ?_
  clear hK
  refine AnyS.step (j := 9) rfl (by kernel_rfl) (fun K hK => ?_)
  go_simp
  refine hK.out _ _ (fun h => absurd h (by decide)) ?_
  clear hK
  refine AnyS.rest 10 (by kernel_rfl) rfl (by kernel_rfl) ?_
  change wpList _ _ _ [_] _ _
  go_wp2_with fail
  have d0 : ((w6.setCell ⟨w.heap.size + 1, 0, none⟩ (.slice a1 (covL g N.R).length c1)).setCell ⟨w.heap.size + 1, 1, none⟩ (.slice a2 (covR g N.R).length c2)).cell? ⟨w.heap.size + 1, 0, none⟩ = some (.slice a1 (covL g N.R).length c1) := by rw [World.cell?_setCell_other _ _ _ _ (by simp)]; exact World.cell?_setCell_same _ _ _ r0
  have d1 : ((w6.setCell ⟨w.heap.size + 1, 0, none⟩ (.slice a1 (covL g N.R).length c1)).setCell ⟨w.heap.size + 1, 1, none⟩ (.slice a2 (covR g N.R).length c2)).cell? ⟨w.heap.size + 1, 1, none⟩ = some (.slice a2 (covR g N.R).length c2) := World.cell?_setCell_same _ _ _ (by rw [World.cell?_setCell_other _ _ _ _ (by simp)]; exact r1)
  have hB := (HB6.out.setCell (p := ⟨w.heap.size + 1, 0, none⟩) (by simp) (.slice a1 (covL g N.R).length c1)).setCell (p := ⟨w.heap.size + 1, 1, none⟩) (by simp) (.slice a2 (covR g N.R).length c2)
  have hO1 := (HO1k.out.far (p := ⟨w.heap.size + 1, 0, none⟩) (.slice a1 (covL g N.R).length c1) (fun e => by have := HN1.out (w.heap.size + 1) e; omega)).far (p := ⟨w.heap.size + 1, 1, none⟩) (.slice a2 (covR g N.R).length c2) (fun e => by have := HN1.out (w.heap.size + 1) e; omega)
  have hO2 := (HO2.out.far (p := ⟨w.heap.size + 1, 0, none⟩) (.slice a1 (covL g N.R).length c1) (fun e => by have := HN2.out (w.heap.size + 1) e; omega)).far (p := ⟨w.heap.size + 1, 1, none⟩) (.slice a2 (covR g N.R).length c2) (fun e => by have := HN2.out (w.heap.size + 1) e; omega)
  refine bodyPost_ret (v := .tuple #[.agg #[.slice a1 (covL g N.R).length c1, .slice a2 (covR g N.R).length c2], .int .i64 0]) ?_ rfl ⟨_, _, rfl, hO1, hO2, hB⟩
  simp [results, Try.results19, go_sem, d0, d1]
end Go.Proofs.Ytpcdbnlljdfogaa
