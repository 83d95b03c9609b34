/- Refining the places of one matrix by another one gives the places of the matrix whose rows are those of both: the law. -/
import Derived.Test.YtogdkgcgckdehaaGreatFew
import Derived.Test.YtogdkgcgckdehaaGreatSam
import Derived.Test.YtogdkgcgckdehaaGreatAwk
import Derived.Test.YtogdkgcgckdehaaGreatRnkP
import Derived.Test.YtogdkgcgckdehaaGreatFrw
import Derived.Test.YtogdkgcgckdehaaGreatRgn
set_option linter.unusedSimpArgs false
set_option linter.unusedVariables false
namespace Go.Proofs.YtogdkgcgckdehaaGreat
open Go.RowKit Go.Sort

theorem rnk_rows {C : List (List (Int × Int))} {m : Nat} (hl : ∀ r ∈ C, r.length = m) : rnkB (plcL ahC C) = true := by
  have hn := plcL_len ahC C
  refine rnk_yes (fun j hj => ?_)
  rw [hn] at hj
  rw [plc_rows hj]
  congr 2
  unfold ltN
  rw [plc_ahead, List.countP_map]
  unfold nAhead
  apply List.countP_congr
  intro k hk
  have hk' : k < C.length := by simpa using hk
  simp only [Function.comp, decide_eq_true_eq]
  have T := tot_ix hl
  constructor
  · intro h
    have := ahead_lt hl hj hk' h
    unfold nAhead at this
    omega
  · intro h
    have h' : nAhead C k < nAhead C j := by unfold nAhead; omega
    rcases Int.lt_trichotomy (ahC (C.getD k []) (C.getD j [])) 0 with h1 | h1 | h1
    · exact h1
    · have := ahead_eq hl hj hk' h1; omega
    · have ht := T.turn ⟨j, hj⟩ ⟨k, hk'⟩
      simp only at ht
      have := ahead_lt hl hk' hj (by omega)
      omega
theorem both_take {A B : List (List (Int × Int))} (h : A.length = B.length) {k : Nat} (hk : k < A.length) : (bothC A B).take (k + 1) = (bothC A B).take k ++ [A.getD k [] ++ B.getD k []] := by
  have hb : k < (bothC A B).length := by rw [both_len h]; exact hk
  rw [List.take_succ_eq_append_getElem hb]
  have := both_getD h hk
  simp only [List.getD, List.getElem?_eq_getElem hb, Option.getD_some] at this
  rw [this]; rfl
theorem crit_at {M : List Rw} {k : Nat} (h : k < M.length) : (crit M).getD k [] = (M[k]'h).L := by
  simp [crit, List.getD, h]
theorem RwOk.slR {B : Nat} {w : World} {v : Value} {R : List Rw} (h : RwOk B w v R) : ∃ a b cap, v = .slice a R.length cap ∧ SlR w a b 0 R.length cap R := by
  obtain ⟨a, b, cap, hv, hs, _, _⟩ := own_sl rfl h.row
  exact ⟨a, b, cap, hv, hs, h.each⟩
set_option maxHeartbeats 8000000 in
set_option maxRecDepth 100000 in
theorem refine_loop {a a2 : Option Addr} {b off len cap b2 off2 cap2 : Nat} {A C : List Rw} {w : World} (hA : SlR w a b off len cap A) (hC : SlR w a2 b2 off2 len cap2 C) (hlen : len ≤ 12) (hla : ∀ r ∈ A, r.L.length ≤ 25) (hlc : ∀ r ∈ C, r.L.length ≤ 25)
    (hck : chkL (crit A) = 0) (hck2 : chkL (crit C) = 0) (fA : fewB (crit A) = true) (fC : fewB (crit C) = true) :
    Calls Tryz.prog 3 #[.slice a len cap, .slice a2 len cap2] w fun e w' => e = .returned (.bool true) ∧ Below w.heap.size w w' := by
  have HW := Lib.hid (fun w => awake_any w)
  have HF1 := Lib.hid (few_any hA)
  have HF2 := Lib.hid (few_any hC)
  rw [fA] at HF1
  rw [fC] at HF2
  have HC1 := Lib.hid (check_any hA)
  have HC2 := Lib.hid (fun W (hB : Below w.heap.size w W) => check_any (hC.keep hB))
  rw [hck] at HC1
  rw [hck2] at HC2
  have HA := Lib.hid hA
  have HC := Lib.hid hC
  have HLA := Lib.hid hla
  have HLC := Lib.hid hlc
  have hl1 : (crit A).length = len := by unfold crit; rw [List.length_map, hA.sl.hl]
  have hl2 : (crit C).length = len := by unfold crit; rw [List.length_map, hC.sl.hl]
  have HP := Lib.hid (fun W (hB : Below w.heap.size w W) => places_ok (hA.keep hB) hck)
  have HRK := Lib.hid (rnk_rows (chk_ok hck).2.2.1)
  have HRF := Lib.hid (fun W (hB : Below w.heap.size w W) ap gp cp (hp : SlI W ap gp 0 len cp (plcL ahC (crit A))) => refine_ok hp (hC.keep hB) hck2 (rnk_rows (chk_ok hck).2.2.1))
  have HEQ := Lib.hid (refine_both (n := len) (chk_ok hck).2.2.1 hl1 hl2)
  have HBT := Lib.hid (fun k (h : k < len) => both_take (hl1.trans hl2.symm) (k := k) (by rw [hl1]; exact h))
  have HBA := Lib.hid (show (bothC (crit A) (crit C)).take len = bothC (crit A) (crit C) from List.take_of_length_le (by rw [both_len (hl1.trans hl2.symm), hl1]; exact Nat.le_refl _))
  have hcap := hA.sl.hcap
  have hmax := hA.sl.hmax
  have hcap2 := hC.sl.hcap
  have hmax2 := hC.sl.hmax
  unfold maxLen at hmax hmax2
  have q0 : ((len : Int) != (len : Int)) = false := by simp
  have q1 : ((len : Int) == (len : Int)) = true := by simp
  obtain ⟨i0, hi, hz0, hz1, hz2⟩ := info_parts infoFr
  obtain ⟨i1, hi1, hy0, hy1, hy2⟩ := info_parts infoFs
  clear hA hC hla hlc fA fC
  obtain ⟨D, hD⟩ : ∃ D, bothC (crit A) (crit C) = D := ⟨_, rfl⟩
  rw [hD] at HBT HBA HEQ
  have HLD := Lib.hid (show D.length = len by rw [← hD, both_len (hl1.trans hl2.symm), hl1])
  clear hD hck hck2 hl1 hl2
  go_enter Tryz.func3, Tryz.ntmps3
  go_wp2_with fail
  refine HF1.out.mono ?_
  rintro e w1 ⟨rfl, rfl⟩
  go_wp2_with fail
  refine HF2.out.mono ?_
  rintro e w1 ⟨rfl, rfl⟩
  go_wp2_with fail
  refine HC1.out.mono ?_
  rintro e w1 ⟨rfl, hb⟩
  have HB1 := Lib.hid hb
  clear hb HC1 HF1 HF2
  go_wp2_with fail
  refine (HC2.out _ HB1.out).mono ?_
  rintro e w2 ⟨rfl, hb⟩
  have HB2 := Lib.hid (HB1.out.trans (hb.mono HB1.out.size))
  clear hb HB1 HC2
  go_wp2_with fail
  have hs2 := HB2.out.size
  have HG0 : Hid (RwOk w2.heap.size (w2.alloc (.cells #[] 27)) (.slice (some ⟨w2.heap.size, 0, none⟩) 0 0) []) := Lib.hid ⟨World.ownsRow_made w2 #[] 0 (Nat.le_refl _) (Nat.zero_le _) (by simp), fun x h => by simp at h, fun x h => by simp at h⟩
  have HB3 := Lib.hid (show Below w2.heap.size w2 (w2.alloc (.cells #[] 27)) from (Below.refl _ _).alloc (Nat.le_refl _) _)
  go_loopw [5, 6] (fun s5 s6 wr => ∃ (k : Nat) (v : Value) (R : List Rw), k ≤ len ∧ s5 = v ∧ s6 = .int .i64 (k : Int) ∧ Hid (RwOk w2.heap.size wr v R) ∧ Hid (R.map Rw.L = D.take k) ∧ Hid (Below w2.heap.size w2 wr)) (fun _ s6 _ => (len - (intOf s6)).toNat)
  case atStart => exact ⟨0, _, [], Nat.zero_le _, rfl, rfl, HG0, Lib.hid (by simp), HB3⟩
  case round =>
    obtain ⟨k, v, R, hk, hv, rfl, HG, HGL, HBr⟩ := hrel
    replace hv := hv.symm
    subst hv
    clear HG0 HB3
    have hRl : R.length = k := by
      have := congrArg List.length HGL.out
      rw [List.length_map, List.length_take, HLD.out] at this
      omega
    obtain ⟨av, cv0, hv⟩ := own_form HG.out.row
    subst hv
    by_cases hlt : k < len
    · have l1 : (k : Int) < (len : Int) := by omega
      have HBw := Lib.hid (HB2.out.trans (HBr.out.mono hs2))
      obtain rfl := HA.out.sl.ha (by omega)
      obtain rfl := HC.out.sl.ha (by omega)
      have hkA : k < A.length := by rw [HA.out.sl.hl]; exact hlt
      have hkC : k < C.length := by rw [HC.out.sl.hl]; exact hlt
      have HRA := Lib.hid ((HA.out.rows _ (List.getElem_mem hkA)).keep HBw.out)
      have HRC := Lib.hid ((HC.out.rows _ (List.getElem_mem hkC)).keep HBw.out)
      have cu := (HA.out.sl.keep HBw.out).cell _ hkA
      have cv := (HC.out.sl.keep HBw.out).cell _ hkC
      have hbA := (HA.out.sl.keep HBw.out).hb (by omega)
      have hbC := (HC.out.sl.keep HBw.out).hb (by omega)
      have z1 := HLA.out _ (List.getElem_mem hkA)
      have z2 := HLC.out _ (List.getElem_mem hkC)
      have HNX := Lib.hid (show D.take (k + 1) = D.take k ++ [(A[k]'hkA).L ++ (C[k]'hkC).L] by rw [HBT.out k hlt, crit_at hkA, crit_at hkC])
      generalize A[k]'hkA = ra at *
      generalize C[k]'hkC = rc at *
      unfold Rw.val at cu cv
      have hbs := HBr.out.size
      go_wp2_with fail
      refine wp_region_s (fun w' => w'.cell? ⟨b, off + k, none⟩ = some (.slice ra.a ra.L.length ra.cap) ∧ w'.cell? ⟨b2, off2 + k, none⟩ = some (.slice rc.a rc.L.length rc.cap)) 11 (by kernel_rfl) ?_
      refine AnyS.take0 (i := 0) (v := (.slice av R.length cv0)) rfl (by kernel_rfl) (by kernel_rfl) (by kernel_rfl) (by kernel_rfl) (fun _ _ _ h => h) (fun _ => ⟨cu, cv⟩) (Or.inl ⟨by rfl, fun w' _ => (by go_simp)⟩) ?_
      simp only [Act.put, List.setIfInBounds_toArray, List.set_cons_zero, List.set_cons_succ]
      refine AnyS.take0 (i := 2) (v := (.slice (some ⟨b, off, none⟩) len cap)) rfl (by kernel_rfl) (by kernel_rfl) (by kernel_rfl) (by kernel_rfl) (fun _ _ _ h => h) (fun _ => ⟨cu, cv⟩) (Or.inl ⟨by rfl, fun w' _ => (by go_simp)⟩) ?_
      simp only [Act.put, List.setIfInBounds_toArray, List.set_cons_zero, List.set_cons_succ]
      refine AnyS.take0 (i := 3) (v := (.int .i64 (k : Int))) rfl (by kernel_rfl) (by kernel_rfl) (by kernel_rfl) (by kernel_rfl) (fun _ _ _ h => h) (fun _ => ⟨cu, cv⟩) (Or.inl ⟨by rfl, fun w' _ => (by go_simp)⟩) ?_
      simp only [Act.put, List.setIfInBounds_toArray, List.set_cons_zero, List.set_cons_succ]
      refine AnyS.take0 (i := 4) (v := (.pointer (some ⟨b, off + k, none⟩))) rfl (by kernel_rfl) (by kernel_rfl) (by kernel_rfl) (by kernel_rfl) (fun _ _ _ h => h) (fun _ => ⟨cu, cv⟩) (Or.inl ⟨by rfl, fun w' _ => (by go_simp)⟩) ?_
      simp only [Act.put, List.setIfInBounds_toArray, List.set_cons_zero, List.set_cons_succ]
      refine AnyS.take (i := 5) (v := (.slice ra.a ra.L.length ra.cap)) [6, 11] rfl (by kernel_rfl) (by kernel_rfl) (by kernel_rfl) (by kernel_rfl) (fun _ _ _ h => h) ⟨cu, cv⟩ (Or.inl ⟨by rfl, fun w' hw' => (by obtain ⟨t0, t1⟩ := hw'; go_simp)⟩) ?_
      simp only [Act.put, List.setIfInBounds_toArray, List.set_cons_zero, List.set_cons_succ]
      refine AnyS.take0 (i := 7) (v := (.slice (some ⟨b2, off2, none⟩) len cap2)) rfl (by kernel_rfl) (by kernel_rfl) (by kernel_rfl) (by kernel_rfl) (fun _ _ _ h => h) (fun _ => ⟨cu, cv⟩) (Or.inl ⟨by rfl, fun w' _ => (by go_simp)⟩) ?_
      simp only [Act.put, List.setIfInBounds_toArray, List.set_cons_zero, List.set_cons_succ]
      refine AnyS.take0 (i := 8) (v := (.int .i64 (k : Int))) rfl (by kernel_rfl) (by kernel_rfl) (by kernel_rfl) (by kernel_rfl) (fun _ _ _ h => h) (fun _ => ⟨cu, cv⟩) (Or.inl ⟨by rfl, fun w' _ => (by go_simp)⟩) ?_
      simp only [Act.put, List.setIfInBounds_toArray, List.set_cons_zero, List.set_cons_succ]
      refine AnyS.take0 (i := 9) (v := (.pointer (some ⟨b2, off2 + k, none⟩))) rfl (by kernel_rfl) (by kernel_rfl) (by kernel_rfl) (by kernel_rfl) (fun _ _ _ h => h) (fun _ => ⟨cu, cv⟩) (Or.inl ⟨by rfl, fun w' _ => (by go_simp)⟩) ?_
      simp only [Act.put, List.setIfInBounds_toArray, List.set_cons_zero, List.set_cons_succ]
      refine AnyS.take (i := 10) (v := (.slice rc.a rc.L.length rc.cap)) [11] rfl (by kernel_rfl) (by kernel_rfl) (by kernel_rfl) (by kernel_rfl) (fun _ _ _ h => h) ⟨cu, cv⟩ (Or.inl ⟨by rfl, fun w' hw' => (by obtain ⟨t0, t1⟩ := hw'; go_simp)⟩) ?_
      simp only [Act.put, List.setIfInBounds_toArray, List.set_cons_zero, List.set_cons_succ]
      refine AnyS.step (j := 1) rfl (by kernel_rfl) (fun K hK => ?_)
      go_simp
      have HW1 := Lib.hid (show Below wr.heap.size wr (wr.alloc (.cells #[] 37)).drew from ((Below.refl _ _).alloc (Nat.le_refl _) _).drew)
      have ho1 : (wr.alloc (.cells #[] 37)).drew.ownsRow wr.heap.size 37 2 (.slice (some ⟨wr.heap.size, 0, none⟩) 0 0) 0 (flatF []) := World.ownsRow_made wr #[] 0 (Nat.le_refl _) (Nat.zero_le _) (by simp)
      have hs1 : wr.heap.size + 1 = (wr.alloc (.cells #[] 37)).drew.heap.size := by show _ = (wr.alloc _).heap.size; simp
      have cu1 := (HW1.out.cell (p := ⟨b, off + k, none⟩) hbA).trans cu
      have cv1 := (HW1.out.cell (p := ⟨b2, off2 + k, none⟩) hbC).trans cv
      have HO1 := Lib.hid ho1
      have hrn : ra.a = none → ra.L.length = 0 ∧ ra.cap = 0 := fun h => ⟨by
        by_cases h0 : 0 < ra.L.length
        · rw [HRA.out.1.ha h0] at h; cases h
        · omega, HRA.out.2 h⟩
      have hrn2 : rc.a = none → rc.L.length = 0 ∧ rc.cap = 0 := fun h => ⟨by
        by_cases h0 : 0 < rc.L.length
        · rw [HRC.out.1.ha h0] at h; cases h
        · omega, HRC.out.2 h⟩
      have m1 := HRA.out.1.hmax
      have m2 := HRC.out.1.hmax
      unfold maxLen at m1 m2
      refine hK.out _ _ (fun _ => ⟨cu1, cv1⟩) ?_
      clear hK ho1
      generalize (wr.alloc (.cells #[] 37)).drew = W1 at *
      refine AnyS.step (j := 6) rfl (by kernel_rfl) (fun K hK => ?_)
      refine wp_append_every rfl _ _ 27 rfl wr.heap.size 37 i0 (.agg #[.int .i64 0, .int .i64 0]) 2 16 Tryz.underlying27 hi hz0 hz1 hz2 rfl (by decide) _ 0 (flatF []) rfl HO1.out ra.a ra.L.length ra.cap (flatF ra.L) rfl (flatF_len _) hrn (rw_news HRA.out HW1.out) (flatF_one _) (by unfold maxLen; omega) (by omega) HW1.out.size ?_
      intro v1 w6 ho6 hg6
      have HB6 := Lib.hid (HW1.out.grown hg6 HW1.out.size (fun j hj => (HO1.out.lt j hj).1))
      have cu6 := (HB6.out.cell (p := ⟨b, off + k, none⟩) hbA).trans cu
      have cv6 := (HB6.out.cell (p := ⟨b2, off2 + k, none⟩) hbC).trans cv
      have HO6 := Lib.hid ho6
      refine hK.out _ _ (fun _ => ⟨cu6, cv6⟩) ?_
      clear hK ho6 hg6 HO1 HW1 cu1 cv1 hs1
      simp only [Act.put, List.setIfInBounds_toArray, List.set_cons_zero, List.set_cons_succ]
      refine AnyS.step (j := 11) rfl (by kernel_rfl) (fun K hK => ?_)
      refine wp_append_every rfl _ _ 27 rfl wr.heap.size 37 i0 (.agg #[.int .i64 0, .int .i64 0]) 2 16 Tryz.underlying27 hi hz0 hz1 hz2 rfl (by decide) v1 (0 + ra.L.length) (flatF [] ++ flatF ra.L) rfl HO6.out rc.a rc.L.length rc.cap (flatF rc.L) rfl (flatF_len _) hrn2 (rw_news HRC.out HB6.out) (flatF_one _) (by unfold maxLen; omega) (by omega) HB6.out.size ?_
      intro v2 w11 ho11 hg11
      have HB11 := Lib.hid (HB6.out.grown hg11 HB6.out.size (fun j hj => (HO6.out.lt j hj).1))
      refine hK.out _ _ (fun e => absurd e (by decide)) ?_
      obtain ⟨x, hxv, hxL, hxo, hxb⟩ := own_rw (L := ra.L ++ rc.L) (n := 0 + ra.L.length + rc.L.length) (by rw [List.length_append]; omega) (fun y hy => by
        rw [List.mem_append] at hy
        rcases hy with hy | hy
        · exact HRA.out.1.wf y hy
        · exact HRC.out.1.wf y hy) (by rw [flatF_app]; exact ho11)
      have HXB := Lib.hid (fun (h0 : 0 < x.L.length) => (ho11.lt x.b (hxb (by rw [← hxL]; exact h0))).1)
      have HXO := Lib.hid hxo
      have HXL := Lib.hid hxL
      replace hxv : v2 = .slice x.a x.L.length x.cap := hxv
      subst hxv
      clear hK ho11 hg11 hxo hxL hxb HO6 HB6 cu6 cv6 cu cv hrn hrn2 m1 m2 HRA HRC
      simp only [Act.put, List.setIfInBounds_toArray, List.set_cons_zero, List.set_cons_succ]
      refine AnyS.rest 12 (by kernel_rfl) rfl (by kernel_rfl) ?_
      change wpList _ _ _ [_, _, _] _ _
      have HBA2 := Lib.hid ((Below.refl w11.heap.size w11).alloc (Nat.le_refl _) (.cells #[.slice x.a x.L.length x.cap] 27))
      have HGA := Lib.hid ((HG.out.below HB11.out).below HBA2.out)
      have HRWA := HGA.out.row
      rw [hRl] at HRWA
      have HRW := Lib.hid HRWA
      have hcell : ∀ j u, ([.slice x.a x.L.length x.cap] : List Value)[j]? = some u → (w11.alloc (.cells #[.slice x.a x.L.length x.cap] 27)).cell? ((⟨w11.heap.size, 0, none⟩ : Addr).add j) = some u := by
        intro j u hu
        cases j with
        | zero =>
          simp only [List.getElem?_cons_zero, Option.some.injEq] at hu
          subst hu
          exact box1_cell w11 _ _
        | succ j => simp at hu
      have HCE := Lib.hid hcell
      have hw11 := HB11.out.size
      have HBX := Lib.hid (HBr.out.trans ((HB11.out.trans (HBA2.out.mono hw11)).mono hbs))
      have HXA := Lib.hid (HXO.out.keep HBA2.out)
      clear hcell HRWA
      go_wp2_with (at_builtin; refine wpList_append_blk _ rfl _ _ 22 rfl w2.heap.size 27 i1 (.slice none 0 0) 1 24 Tryz.underlying22 hi1 hy0 hy1 hy2 rfl (by decide) _ k (R.map Rw.val) rfl HRW.out ⟨w11.heap.size, 0, none⟩ 1 1 [.slice x.a x.L.length x.cap] rfl rfl HCE.out ?n1 ?n2 ?n3 ?n4 (by decide) ?_)
      case n1 => intro u hu; rw [List.mem_singleton] at hu; subst hu; rfl
      case n2 => unfold maxLen; omega
      case n3 => omega
      case n4 => first | exact HBX.out.size | (simp; omega)
      intro v' w13 ho hg hb
      have hof : Hid (RwOk w2.heap.size w13 v' (R ++ [x])) := Lib.hid (HGA.out.more HXA.out (fun h0 => by have := HXB.out h0; omega) (fun h0 e => by
        have h1 := HXB.out h0
        have h2 := (HG.out.row.lt _ e).2
        omega) (by rw [hRl]; exact ho) (by rw [hRl]; exact hg) (by rw [hRl]; rcases hb with q | q; exact Or.inl q; exact Or.inr (fun j hj => by have := q j hj; simp; omega)))
      have HBF := Lib.hid (HBX.out.grown hg HBX.out.size (fun j hj => (HRW.out.lt j hj).1))
      clear ho hg hb HCE HGA HBX HXA HRW HBA2 HXB HXO
      go_wp2_with fail
      go_roundw
      case rel => exact ⟨k + 1, _, R ++ [x], by omega, rfl, by go_num, hof, Lib.hid (by rw [List.map_append, List.map_singleton, HGL.out, HXL.out, HNX.out]), HBF⟩
      case measure => simp [intOf]; omega
    · have l1 : ¬ (k : Int) < (len : Int) := by omega
      obtain rfl : k = len := by omega
      obtain ⟨a5, b5, cap5, hv5, hs5⟩ := HG.out.slR
      have HB5 := Lib.hid (HB2.out.trans (HBr.out.mono hs2))
      have hcr : crit R = D := by rw [show crit R = R.map Rw.L from rfl, HGL.out, HBA.out]
      simp only [Value.slice.injEq, true_and] at hv5
      obtain ⟨rfl, rfl⟩ := hv5
      rw [hRl] at hs5
      have hck5 := check_any hs5
      rw [hcr] at hck5
      have HCK := Lib.hid hck5
      have HSR := Lib.hid hs5
      clear hck5 hs5 HG HGL HBr HB2 HBT HBA HLD hi hi1 hz0 hz1 hz2 hy0 hy1 hy2
      by_cases hD0 : chkL D = 0
      · rw [hD0] at HCK
        have HPB := Lib.hid (fun W (hB : Below wr.heap.size wr W) => places_ok (HSR.out.keep hB) (by rw [hcr]; exact hD0))
        rw [hcr] at HPB
        clear hcr
        go_wp2_with fail
        refine HCK.out.mono ?_
        rintro e w6 ⟨rfl, hb⟩
        have HX6 := Lib.hid hb
        have HB6 := Lib.hid (HB5.out.trans (hb.mono HB5.out.size))
        clear hb HCK
        go_wp2_with fail
        refine (HP.out _ HB6.out).mono ?_
        rintro e w7 ⟨g7, rfl, hs7, hg7, hb⟩
        have HB7 := Lib.hid (HB6.out.trans (hb.mono HB6.out.size))
        have HX7 := Lib.hid (HX6.out.trans (hb.mono HX6.out.size))
        have HS7 := Lib.hid hs7
        clear hb hs7 hg7 HP HB6 HX6
        go_wp2_with fail
        refine (HRF.out _ HB7.out _ _ _ HS7.out).mono ?_
        rintro e w8 ⟨g8, rfl, hs8, hg8, hb⟩
        have HB8 := Lib.hid (HB7.out.trans (hb.mono HB7.out.size))
        have HX8 := Lib.hid (HX7.out.trans (hb.mono HX7.out.size))
        rw [HEQ.out] at hs8
        have HS8 := Lib.hid hs8
        clear hb hs8 hg8 HRF HB7 HX7 HS7
        go_wp2_with fail
        refine (HPB.out _ HX8.out).mono ?_
        rintro e w9 ⟨g9, rfl, hs9, hg9, hb⟩
        have HB9 := Lib.hid (HB8.out.trans (hb.mono HB8.out.size))
        have HS89 := Lib.hid (HS8.out.keep hb)
        have HS9 := Lib.hid hs9
        clear hb hs9 hg9 HPB HB8 HX8 HS8
        go_wp2_with fail
        refine (HW.out _).mono ?_
        rintro e w10 ⟨rfl, hb⟩
        have HB10 := Lib.hid (HB9.out.trans (hb.mono HB9.out.size))
        have hsm := same_any (HS89.out.keep hb) (HS9.out.keep hb)
        rw [decide_eq_true rfl] at hsm
        have HSM := Lib.hid hsm
        clear hb hsm HW HB9 HS89 HS9
        go_wp2_with fail
        refine HSM.out.mono ?_
        rintro e w11 ⟨rfl, q, rfl⟩
        have HB11 := Lib.hid (bel_drewN HB10.out q)
        go_wp2
        go_ret
        exact ⟨rfl, HB11.out⟩
      · have hD1 : (chkL D != 0) = true := by simpa using hD0
        generalize chkL D = z at *
        clear HP HRF HEQ HSR
        go_wp2_with fail
        refine HCK.out.mono ?_
        rintro e w6 ⟨rfl, hb⟩
        have HB6 := Lib.hid (HB5.out.trans (hb.mono HB5.out.size))
        clear hb HCK
        go_wp2_with fail
        refine (HW.out _).mono ?_
        rintro e w7 ⟨rfl, hb⟩
        have HB7 := Lib.hid (HB6.out.trans (hb.mono HB6.out.size))
        clear hb HW
        go_wp2
        go_ret
        exact ⟨rfl, HB7.out⟩
set_option maxHeartbeats 4000000 in
set_option maxRecDepth 100000 in
theorem refine_law {a a2 : Option Addr} {b off len cap b2 off2 len2 cap2 : Nat} {A C : List Rw} {w : World} (hA : SlR w a b off len cap A) (hC : SlR w a2 b2 off2 len2 cap2 C) :
    Calls Tryz.prog 3 #[.slice a len cap, .slice a2 len2 cap2] w fun e w' => e = .returned (.bool true) ∧ Below w.heap.size w w' := by
  have HW := Lib.hid (fun w => awake_any w)
  have hF1 := few_any hA
  have hF2 := few_any hC
  have hcap := hA.sl.hcap
  have hmax := hA.sl.hmax
  have hcap2 := hC.sl.hcap
  have hmax2 := hC.sl.hmax
  unfold maxLen at hmax hmax2
  have HC1 := Lib.hid (check_any hA)
  have HC2 := Lib.hid (fun W (hB : Below w.heap.size w W) => check_any (hC.keep hB))
  cases fA : fewB (crit A) with
  | false =>
    rw [fA] at hF1
    have HF1 := Lib.hid hF1
    clear hF1 hF2 hA hC HC1 HC2 fA
    go_enter Tryz.func3, Tryz.ntmps3
    go_wp2_with fail
    refine HF1.out.mono ?_
    rintro e w1 ⟨rfl, rfl⟩
    go_wp2_with fail
    refine (HW.out _).mono ?_
    rintro e w9 ⟨rfl, hb⟩
    have HB9 := Lib.hid (hb)
    clear hb HW
    go_wp2
    go_ret
    exact ⟨rfl, HB9.out⟩
  | true =>
  cases fC : fewB (crit C) with
  | false =>
    rw [fA] at hF1
    rw [fC] at hF2
    have HF1 := Lib.hid hF1
    have HF2 := Lib.hid hF2
    clear hF1 hF2 hA hC HC1 HC2 fA fC
    go_enter Tryz.func3, Tryz.ntmps3
    go_wp2_with fail
    refine HF1.out.mono ?_
    rintro e w1 ⟨rfl, rfl⟩
    go_wp2_with fail
    refine HF2.out.mono ?_
    rintro e w1 ⟨rfl, rfl⟩
    go_wp2_with fail
    refine (HW.out _).mono ?_
    rintro e w9 ⟨rfl, hb⟩
    have HB9 := Lib.hid (hb)
    clear hb HW
    go_wp2
    go_ret
    exact ⟨rfl, HB9.out⟩
  | true =>
  by_cases hl : len = len2
  · subst hl
    by_cases h1 : chkL (crit A) = 0
    · by_cases h2 : chkL (crit C) = 0
      · obtain ⟨g1, g2⟩ := fewB_ok fA
        obtain ⟨_, g3⟩ := fewB_ok fC
        have hl1 : (crit A).length = len := by unfold crit; rw [List.length_map, hA.sl.hl]
        exact refine_loop hA hC (by omega) (fun r hr => g2 _ (List.mem_map.2 ⟨r, hr, rfl⟩)) (fun r hr => g3 _ (List.mem_map.2 ⟨r, hr, rfl⟩)) h1 h2 fA fC
      · have q0 : ((len : Int) != (len : Int)) = false := by simp
        have k2 : (chkL (crit C) != 0) = true := by simpa using h2
        rw [h1] at HC1
        rw [fA] at hF1
        rw [fC] at hF2
        have HF1 := Lib.hid hF1
        have HF2 := Lib.hid hF2
        clear hF1 hF2 hA hC fA fC h1 h2
        generalize chkL (crit C) = z at *
        go_enter Tryz.func3, Tryz.ntmps3
        go_wp2_with fail
        refine HF1.out.mono ?_
        rintro e w1 ⟨rfl, rfl⟩
        go_wp2_with fail
        refine HF2.out.mono ?_
        rintro e w1 ⟨rfl, rfl⟩
        go_wp2_with fail
        refine HC1.out.mono ?_
        rintro e w1 ⟨rfl, hb⟩
        have HB1 := Lib.hid hb
        clear hb HC1 HF1 HF2
        go_wp2_with fail
        refine (HC2.out _ HB1.out).mono ?_
        rintro e w2 ⟨rfl, hb⟩
        have HB2 := Lib.hid (HB1.out.trans (hb.mono HB1.out.size))
        clear hb HB1 HC2
        go_wp2_with fail
        refine (HW.out _).mono ?_
        rintro e w9 ⟨rfl, hb⟩
        have HB9 := Lib.hid (HB2.out.trans (hb.mono HB2.out.size))
        clear hb HW
        go_wp2
        go_ret
        exact ⟨rfl, HB9.out⟩
    · have q0 : ((len : Int) != (len : Int)) = false := by simp
      have k2 : (chkL (crit A) != 0) = true := by simpa using h1
      rw [fA] at hF1
      rw [fC] at hF2
      have HF1 := Lib.hid hF1
      have HF2 := Lib.hid hF2
      clear hF1 hF2 hA hC fA fC h1 HC2
      generalize chkL (crit A) = z at *
      go_enter Tryz.func3, Tryz.ntmps3
      go_wp2_with fail
      refine HF1.out.mono ?_
      rintro e w1 ⟨rfl, rfl⟩
      go_wp2_with fail
      refine HF2.out.mono ?_
      rintro e w1 ⟨rfl, rfl⟩
      go_wp2_with fail
      refine HC1.out.mono ?_
      rintro e w1 ⟨rfl, hb⟩
      have HB1 := Lib.hid hb
      clear hb HC1 HF1 HF2
      go_wp2_with fail
      refine (HW.out _).mono ?_
      rintro e w9 ⟨rfl, hb⟩
      have HB9 := Lib.hid (HB1.out.trans (hb.mono HB1.out.size))
      clear hb HW
      go_wp2
      go_ret
      exact ⟨rfl, HB9.out⟩
  · have q0 : ((len : Int) != (len2 : Int)) = true := by simp only [bne_iff_ne, ne_eq]; omega
    rw [fA] at hF1
    rw [fC] at hF2
    have HF1 := Lib.hid hF1
    have HF2 := Lib.hid hF2
    clear hF1 hF2 hA hC HC1 HC2 fA fC
    go_enter Tryz.func3, Tryz.ntmps3
    go_wp2_with fail
    refine HF1.out.mono ?_
    rintro e w1 ⟨rfl, rfl⟩
    go_wp2_with fail
    refine HF2.out.mono ?_
    rintro e w1 ⟨rfl, rfl⟩
    go_wp2_with fail
    refine (HW.out _).mono ?_
    rintro e w9 ⟨rfl, hb⟩
    have HB9 := Lib.hid (hb)
    clear hb HW
    go_wp2
    go_ret
    exact ⟨rfl, HB9.out⟩
end Go.Proofs.YtogdkgcgckdehaaGreat
