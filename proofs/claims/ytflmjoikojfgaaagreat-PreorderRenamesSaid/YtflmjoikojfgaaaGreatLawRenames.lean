/- If rows are exchanged, their places are exchanged, and nothing else changes: the law. -/
import Derived.Test.YtflmjoikojfgaaaGreatFew
import Derived.Test.YtflmjoikojfgaaaGreatSam
import Derived.Test.YtflmjoikojfgaaaGreatAwk
set_option linter.unusedSimpArgs false
set_option linter.unusedVariables false
namespace Go.Proofs.YtflmjoikojfgaaaGreat
open Go.RowKit Go.Sort

/-- two elements exchanged -/
def swp {α : Type} [Inhabited α] (L : List α) (x y : Nat) : List α := (L.set x (L.getD y default)).set y (L.getD x default)
theorem swp_len {α : Type} [Inhabited α] (L : List α) (x y : Nat) : (swp L x y).length = L.length := by simp [swp]
theorem swp_perm {α : Type} [Inhabited α] (L : List α) {x y : Nat} (hx : x < L.length) (hy : y < L.length) : (swp L x y).Perm L := by
  have h := Array.swap_perm (xs := L.toArray) (i := x) (j := y) (by simpa using hx) (by simpa using hy)
  have h2 := Array.perm_iff_toList_perm.1 h
  have e : (L.toArray.swap x y (by simpa using hx) (by simpa using hy)).toList = swp L x y := by
    simp [swp, Array.swap, List.getD, hx, hy]
  rw [e] at h2
  exact h2
theorem swp_map {α β : Type} [Inhabited α] [Inhabited β] (f : α → β) (L : List α) {x y : Nat} (hx : x < L.length) (hy : y < L.length) : (swp L x y).map f = swp (L.map f) x y := by
  unfold swp
  rw [List.map_set, List.map_set]
  simp [List.getD, hx, hy]
theorem swp_back {α : Type} [Inhabited α] (L : List α) {x y : Nat} (hx : x < L.length) (hy : y < L.length) : swp (swp L x y) x y = L := by
  have e1 : (swp L x y).getD x default = L.getD y default := by
    unfold swp
    by_cases h : x = y
    · subst h; simp [List.getD, hx]
    · simp only [List.getD]; rw [List.getElem?_set_ne (by omega), List.getElem?_set_self hx]; rfl
  have e2 : (swp L x y).getD y default = L.getD x default := by
    unfold swp
    simp only [List.getD]; rw [List.getElem?_set_self (by simpa using hy)]; rfl
  apply List.ext_getElem?
  intro j
  rw [show swp (swp L x y) x y = ((swp L x y).set x ((swp L x y).getD y default)).set y ((swp L x y).getD x default) from rfl, e1, e2]
  by_cases hjy : y = j
  · subst hjy
    rw [List.getElem?_set_self (by simp [swp_len, hy])]
    simp [List.getD, hy]
  · rw [List.getElem?_set_ne hjy]
    by_cases hjx : x = j
    · subst hjx
      rw [List.getElem?_set_self (by simp [swp_len, hx])]
      simp [List.getD, hx]
    · rw [List.getElem?_set_ne hjx]
      unfold swp
      rw [List.getElem?_set_ne hjy, List.getElem?_set_ne hjx]
theorem chk_perm {C C' : List (List (Int × Int))} (h : chkL C = 0) (hp : C'.Perm C) : chkL C' = 0 := by
  obtain ⟨c1, c2, c3, c4⟩ := chk_ok h
  have hm : ∀ r, r ∈ C' → r ∈ C := fun r hr => hp.mem_iff.1 hr
  have ht : ¬ tooL C' = true := by
    unfold tooL
    rw [Bool.or_eq_true, List.any_eq_true, decide_eq_true_eq]
    rintro (h1 | ⟨r, hr, h1⟩)
    · rw [hp.length_eq] at h1; omega
    · have := c2 r (hm r hr); rw [decide_eq_true_eq] at h1; omega
  unfold chkL
  rw [if_neg ht, if_pos]
  rw [List.all_eq_true]
  intro r hr
  have hh : headN C' = headN C := by
    cases C' with
    | nil => simp at hr
    | cons z t => exact c3 z (hm z (by simp))
  unfold rowOk
  rw [Bool.and_eq_true, Bool.not_eq_true', List.any_eq_false]
  refine ⟨decide_eq_true (by rw [hh]; exact c3 r (hm r hr)), fun x hx => ?_⟩
  have := c4 r (hm r hr) x hx
  simp [this]
theorem plc_swp {α : Type} [Inhabited α] (cf : α → α → Int) (L : List α) {x y : Nat} (hx : x < L.length) (hy : y < L.length) : plcL cf (swp L x y) = swp (plcL cf L) x y := by
  unfold plcL
  rw [← swp_map _ L hx hy]
  apply List.map_congr_left
  intro z _
  rw [bef_perm (swp_perm L hx hy)]
theorem infoRw : (Tryz.prog.info? 22).map (fun i => (i.zero, i.size, i.bytes)) = some (some (.slice none 0 0), 1, 24) := by kernel_rfl
/-- the exchange of two cells of a slice of the call's own -/
theorem own_swp {α : Type} [Inhabited α] {enc : α → Value} {w : World} {base g n cap e : Nat} {L : List α} (h : w.ownsRow base e 1 (.slice (some ⟨g, 0, none⟩) n cap) n (L.map enc)) {x y : Nat} :
    ((w.setCell ⟨g, x, none⟩ (enc (L.getD y default))).setCell ⟨g, y, none⟩ (enc (L.getD x default))).ownsRow base e 1 (.slice (some ⟨g, 0, none⟩) n cap) n ((swp L x y).map enc) := by
  have h1 := (h.stored x (enc (L.getD y default))).1
  have h2 := (h1.stored y (enc (L.getD x default))).1
  unfold swp
  rw [List.map_set, List.map_set]
  exact h2
/-- the exchange of two numbers of a slice of one's own block -/
theorem slI_swp {w : World} {g n : Nat} {L : List Int} (h : SlI w (some ⟨g, 0, none⟩) g 0 n n L) {x y : Nat} (hx : x < n) (hy : y < n) (f1 : w.frozen? ⟨g, x, none⟩ = false) (f2 : w.frozen? ⟨g, y, none⟩ = false) :
    SlI (((w.setCell ⟨g, x, none⟩ (.int .i64 (L.getD y 0))).setCell ⟨g, y, none⟩ (.int .i64 (L.getD x 0))).drew) (some ⟨g, 0, none⟩) g 0 n n (swp L x y) := by
  have hl := h.hl
  refine ⟨by rw [swp_len]; exact h.hl, h.ha, fun h0 => by have := h.hb h0; simpa using this, h.hcap, h.hmax, fun k hk => ?_⟩
  rw [swp_len] at hk
  have hc := h.cell k hk
  rw [Nat.zero_add] at hc ⊢
  show ((w.setCell ⟨g, x, none⟩ (.int .i64 (L.getD y 0))).setCell ⟨g, y, none⟩ (.int .i64 (L.getD x 0))).cell? ⟨g, k, none⟩ = _
  have hs : ∀ j (hj : j < (swp L x y).length), (swp L x y)[j]'hj = if y = j then L.getD x 0 else if x = j then L.getD y 0 else L.getD j 0 := by
    intro j hj
    have hj' : j < L.length := by rw [swp_len] at hj; exact hj
    simp only [swp, List.getElem_set]
    split
    · rfl
    · split
      · rfl
      · simp [List.getD, hj']
  rw [hs]
  by_cases e1 : y = k
  · subst e1
    obtain ⟨z, hz⟩ := cell?_setCell_some (p := ⟨g, x, none⟩) (x := .int .i64 (L.getD y 0)) hc
    rw [World.cell?_setCell_same _ _ _ hz, if_pos rfl]
  · rw [World.cell?_setCell_other _ _ _ _ (by intro e; exact e1 (Addr.mk.inj e).2.1), if_neg e1]
    by_cases e2 : x = k
    · subst e2
      rw [World.cell?_setCell_same _ _ _ hc, if_pos rfl]
    · rw [World.cell?_setCell_other _ _ _ _ (by intro e; exact e2 (Addr.mk.inj e).2.1), if_neg e2, hc]
      simp [List.getD, hk]
set_option maxHeartbeats 4000000 in
set_option maxRecDepth 100000 in
theorem renames_law {a : Option Addr} {b off len cap : Nat} {M : List Rw} {w : World} (h : SlR w a b off len cap M) (i k : Int) :
    Calls Tryz.prog 13 #[.slice a len cap, .int .i64 i, .int .i64 k] w fun e w' => e = .returned (.bool true) ∧ Below w.heap.size w w' := by
  have HA := Lib.hid (fun w => awake_any w)
  have hf0 := few_any h
  have hl := h.sl.hl
  have hcl : (crit M).length = len := by unfold crit; rw [List.length_map, hl]
  have hcap := h.sl.hcap
  have hmax := h.sl.hmax
  unfold maxLen at hmax
  have HS := Lib.hid h
  have HCL := Lib.hid hcl
  clear h
  cases hf : fewB (crit M) with
  | false =>
    rw [hf] at hf0
    have HF := Lib.hid hf0
    clear hf hf0 hcl
    go_enter Tryz.func13, Tryz.ntmps13
    go_wp2_with fail
    refine (HF.out).mono ?_
    rintro e w1 ⟨rfl, rfl⟩
    go_wp2_with fail
    refine (HA.out _).mono ?_
    rintro e w9 ⟨rfl, hb⟩
    have HB9 := Lib.hid (hb)
    clear hb HA
    go_wp2
    go_ret
    exact ⟨rfl, HB9.out⟩
  | true =>
    rw [hf] at hf0
    have HF := Lib.hid hf0
    have h12 : len ≤ 12 := by have := (fewB_ok hf).1; omega
    have hck := check_any HS.out
    clear hf hf0 hcl
    by_cases hc : chkL (crit M) = 0
    · rw [hc] at hck
      have HCK := Lib.hid hck
      have HC := Lib.hid hc
      clear hck hc
      go_enter Tryz.func13, Tryz.ntmps13
      go_wp2_with fail
      refine (HF.out).mono ?_
      rintro e w1 ⟨rfl, rfl⟩
      go_wp2_with fail
      refine (HCK.out).mono ?_
      rintro e w1 ⟨rfl, hb⟩
      have HB1 := Lib.hid hb
      clear hb HF HCK
      by_cases g0 : i < 0
      · have d0 : decide (i < 0) = true := decide_eq_true g0
        go_wp2_with fail
        refine (HA.out _).mono ?_
        rintro e w9 ⟨rfl, hb⟩
        have HB9 := Lib.hid (HB1.out.trans (hb.mono HB1.out.size))
        clear hb HA
        go_wp2
        go_ret
        exact ⟨rfl, HB9.out⟩
      have d0 : decide (i < 0) = false := decide_eq_false g0
      by_cases g1 : k < 0
      · have d1 : decide (k < 0) = true := decide_eq_true g1
        go_wp2_with fail
        refine (HA.out _).mono ?_
        rintro e w9 ⟨rfl, hb⟩
        have HB9 := Lib.hid (HB1.out.trans (hb.mono HB1.out.size))
        clear hb HA
        go_wp2
        go_ret
        exact ⟨rfl, HB9.out⟩
      have d1 : decide (k < 0) = false := decide_eq_false g1
      by_cases g2 : (len : Int) ≤ i
      · have d2 : decide (i ≥ (len : Int)) = true := decide_eq_true g2
        go_wp2_with fail
        refine (HA.out _).mono ?_
        rintro e w9 ⟨rfl, hb⟩
        have HB9 := Lib.hid (HB1.out.trans (hb.mono HB1.out.size))
        clear hb HA
        go_wp2
        go_ret
        exact ⟨rfl, HB9.out⟩
      have d2 : decide (i ≥ (len : Int)) = false := decide_eq_false g2
      by_cases g3 : (len : Int) ≤ k
      · have d3 : decide (k ≥ (len : Int)) = true := decide_eq_true g3
        go_wp2_with fail
        refine (HA.out _).mono ?_
        rintro e w9 ⟨rfl, hb⟩
        have HB9 := Lib.hid (HB1.out.trans (hb.mono HB1.out.size))
        clear hb HA
        go_wp2
        go_ret
        exact ⟨rfl, HB9.out⟩
      have d3 : decide (k ≥ (len : Int)) = false := decide_eq_false g3
      obtain ⟨x, rfl⟩ : ∃ x : Nat, i = (x : Int) := ⟨i.toNat, by omega⟩
      obtain ⟨y, rfl⟩ : ∃ y : Nat, k = (y : Int) := ⟨k.toNat, by omega⟩
      have hx : x < M.length := by omega
      have hy : y < M.length := by omega
      have l1 : (x : Int) < (len : Int) := by omega
      have l2 : (y : Int) < (len : Int) := by omega
      obtain rfl := HS.out.sl.ha (by omega)
      obtain ⟨i0, hi, hz0, hz1, hz2⟩ := info_parts infoRw
      have HO0 := Lib.hid (show (w1.alloc (.cells #[] 22)).ownsRow w1.heap.size 22 1 (.slice (some ⟨w1.heap.size, 0, none⟩) 0 0) 0 [] from World.ownsRow_made w1 #[] 0 (Nat.le_refl _) (Nat.zero_le _) (by simp))
      have HBA := Lib.hid (show Below w1.heap.size w1 (w1.alloc (.cells #[] 22)) from (Below.refl _ _).alloc (Nat.le_refl _) _)
      have HSA := Lib.hid ((HS.out.keep HB1.out).keep HBA.out)
      go_wp2_with (at_builtin; refine wpList_append_own _ rfl _ _ 26 rfl w1.heap.size 22 i0 (.slice none 0 0) 1 24 Tryz.underlying26 hi hz0 hz1 hz2 rfl (by decide) _ 0 [] rfl HO0.out ⟨b, off, none⟩ len cap (M.map Rw.val) rfl ?n1 ?n2 ?n3 ?n4 ?n5 ?n6 ?_)
      case n1 => rw [List.length_map, hl, Nat.mul_one]
      case n2 =>
        intro j u hu
        rw [List.getElem?_map] at hu
        obtain ⟨r, hr, rfl⟩ := Option.map_eq_some_iff.1 hu
        obtain ⟨hj, rfl⟩ := List.getElem?_eq_some_iff.1 hr
        rw [show (⟨b, off, none⟩ : Addr).add j = ⟨b, off + j, none⟩ by unfold Addr.add; simp]
        exact HSA.out.sl.cell j hj
      case n3 =>
        intro u hu
        obtain ⟨r, _, rfl⟩ := List.mem_map.1 hu
        rfl
      case n4 => unfold maxLen; omega
      case n5 => omega
      case n6 => exact HBA.out.size
      intro v1 w2 ho0 hg _
      have ho : w2.ownsRow w1.heap.size 22 1 v1 len (M.map Rw.val) := by simpa using ho0
      clear ho0
      have HB2 := Lib.hid (HBA.out.grown hg HBA.out.size (fun j hj => ((HO0.out.lt j hj).1)))
      clear hg HO0 HBA HSA
      rcases ho.2 with ⟨_, h0⟩ | ⟨g, cap1, cur, rfl, hgb, _⟩
      · omega
      have HB3 := Lib.hid (HB1.out.trans (HB2.out.mono HB1.out.size))
      have HO := Lib.hid ho
      have x1 : w2.cell? ⟨g, x, none⟩ = some (.slice (M.getD x default).a (M.getD x default).L.length (M.getD x default).cap) := by rw [ho.cellAt x (by omega)]; simp [List.getD, hx, Rw.val]
      have x2 : w2.cell? ⟨g, y, none⟩ = some (.slice (M.getD y default).a (M.getD y default).L.length (M.getD y default).cap) := by rw [ho.cellAt y (by omega)]; simp [List.getD, hy, Rw.val]
      have f1 : w2.frozen? ⟨g, x, none⟩ = false := ho.frozenAt x
      have f2 : w2.frozen? ⟨g, y, none⟩ = false := ho.frozenAt y
      have hown2 : (((w2.setCell ⟨g, x, none⟩ (.slice (M.getD y default).a (M.getD y default).L.length (M.getD y default).cap)).setCell ⟨g, y, none⟩ (.slice (M.getD x default).a (M.getD x default).L.length (M.getD x default).cap)).drew).ownsRow w1.heap.size 22 1 (.slice (some ⟨g, 0, none⟩) len cap1) len ((swp M x y).map Rw.val) := own_below (own_swp (enc := Rw.val) (L := M) ho (x := x) (y := y)) (Below.refl _ _).drew
      have hbel2 : Below w1.heap.size w1 (((w2.setCell ⟨g, x, none⟩ (.slice (M.getD y default).a (M.getD y default).L.length (M.getD y default).cap)).setCell ⟨g, y, none⟩ (.slice (M.getD x default).a (M.getD x default).L.length (M.getD x default).cap)).drew) := ((HB2.out.setCell hgb _).setCell hgb _).drew
      have HOW2 := Lib.hid hown2
      have HBL2 := Lib.hid hbel2
      obtain ⟨z9, hz9⟩ := cell?_setCell_some (p := ⟨g, x, none⟩) (x := .slice (M.getD y default).a (M.getD y default).L.length (M.getD y default).cap) x2
      clear ho hown2 hbel2
      generalize (M.getD x default).a = ax at *
      generalize (M.getD y default).a = ay at *
      generalize (M.getD x default).L.length = nx at *
      generalize (M.getD y default).L.length = ny at *
      generalize (M.getD x default).cap = cx at *
      generalize (M.getD y default).cap = cy at *
      go_wp2_with fail
      go_region
      generalize ((w2.setCell ⟨g, x, none⟩ (.slice ay ny cy)).setCell ⟨g, y, none⟩ (.slice ax nx cx)).drew = w3 at *
      clear x1 x2 f1 f2 hz9
      have HB4 := Lib.hid (HB1.out.trans (HBL2.out.mono HB1.out.size))
      have HP := Lib.hid (fun W (hB : Below w.heap.size w W) => places_ok (HS.out.keep hB) HC.out)
      have hsw : SlR w3 (some ⟨g, 0, none⟩) g 0 len cap1 (swp M x y) := by
        obtain ⟨a', b', c', e1, e2, _, _⟩ := own_sl (enc := Rw.val) (show (swp M x y).length = len by rw [swp_len, hl]) HOW2.out
        simp only [Value.slice.injEq, true_and] at e1
        obtain ⟨e1, e3⟩ := e1
        subst e1 e3
        have e4 := e2.ha (by omega)
        simp only [Option.some.injEq, Addr.mk.injEq, and_true] at e4
        subst e4
        refine ⟨e2, fun r hr => ?_⟩
        exact ((HS.out.rows r ((swp_perm M hx hy).mem_iff.1 hr)).keep HB4.out)
      have hcs : crit (swp M x y) = swp (crit M) x y := swp_map Rw.L M hx hy
      have hxC : x < (crit M).length := by rw [HCL.out]; omega
      have hyC : y < (crit M).length := by rw [HCL.out]; omega
      have HQ := Lib.hid (fun W (hB : Below w3.heap.size w3 W) => (show Calls Tryz.prog 20 #[.slice (some ⟨g, 0, none⟩) len cap1] W (PlacesPost W len (swp (plcL ahC (crit M)) x y)) by
        have := places_ok (hsw.keep hB) (by rw [hcs]; exact chk_perm HC.out (swp_perm _ hxC hyC))
        rw [hcs, plc_swp ahC (crit M) hxC hyC] at this
        exact this))
      have HPL := Lib.hid (show (plcL ahC (crit M)).length = len by rw [plcL_len, HCL.out])
      generalize plcL ahC (crit M) = P at *
      clear hsw hcs hxC hyC HOW2 HBL2 HB2 HB3 HO hgb
      go_wp2_with fail
      refine (HP.out _ HB4.out).mono ?_
      rintro e w4 ⟨gp, rfl, hs, _, hb⟩
      have HSP := Lib.hid hs
      have HB5 := Lib.hid (HB4.out.trans (hb.mono HB4.out.size))
      have HQ4 := Lib.hid (HQ.out _ hb)
      clear hs hb HP HQ HB4
      go_wp2_with fail
      refine (HQ4.out).mono ?_
      rintro e w5 ⟨gq, rfl, hs, ⟨hge, hfz⟩, hb⟩
      have HSP2 := Lib.hid (HSP.out.keep hb)
      have HB6 := Lib.hid (HB5.out.trans (hb.mono HB5.out.size))
      have k1 : ((len : Int) != (len : Int)) = false := by simp
      have hql : (swp P x y).length = len := by rw [swp_len, HPL.out]
      have z1 : w5.cell? ⟨gq, x, none⟩ = some (.int .i64 ((swp P x y).getD x 0)) := by
        have := hs.cell x (by omega)
        rw [Nat.zero_add] at this
        rw [this]; simp [List.getD, show x < (swp P x y).length by omega]
      have z2 : w5.cell? ⟨gq, y, none⟩ = some (.int .i64 ((swp P x y).getD y 0)) := by
        have := hs.cell y (by omega)
        rw [Nat.zero_add] at this
        rw [this]; simp [List.getD, show y < (swp P x y).length by omega]
      have f1 : w5.frozen? ⟨gq, x, none⟩ = false := hfz x
      have f2 : w5.frozen? ⟨gq, y, none⟩ = false := hfz y
      have hbk := swp_back P (show x < P.length by rw [HPL.out]; omega) (show y < P.length by rw [HPL.out]; omega)
      have hsI := slI_swp hs (x := x) (y := y) (by omega) (by omega) f1 f2
      rw [hbk] at hsI
      have hge2 : w4.heap.size ≤ gq := hge
      have hsp2 : SlI (((w5.setCell ⟨gq, x, none⟩ (.int .i64 ((swp P x y).getD y 0))).setCell ⟨gq, y, none⟩ (.int .i64 ((swp P x y).getD x 0))).drew) (some ⟨gp, 0, none⟩) gp 0 len len P :=
        HSP.out.keep ((hb.setCell hge2 _).setCell hge2 _).drew
      have hb6 : Below w.heap.size w (((w5.setCell ⟨gq, x, none⟩ (.int .i64 ((swp P x y).getD y 0))).setCell ⟨gq, y, none⟩ (.int .i64 ((swp P x y).getD x 0))).drew) := ((HB6.out.setCell (Nat.le_trans HB5.out.size hge2) _).setCell (Nat.le_trans HB5.out.size hge2) _).drew
      obtain ⟨z9, hz9⟩ := cell?_setCell_some (p := ⟨gq, x, none⟩) (x := .int .i64 ((swp P x y).getD y 0)) z2
      have HI := Lib.hid hsI
      have HSP3 := Lib.hid hsp2
      have HB7 := Lib.hid hb6
      clear hs hb hsI hsp2 hb6 hge hfz hge2 HSP HSP2 HB5 HB6 HQ4 hbk hql
      generalize (swp P x y).getD y 0 = qy at *
      generalize (swp P x y).getD x 0 = qx at *
      go_wp2_with fail
      go_region
      generalize ((w5.setCell ⟨gq, x, none⟩ (.int .i64 qy)).setCell ⟨gq, y, none⟩ (.int .i64 qx)).drew = w6 at *
      clear z1 z2 f1 f2 hz9
      go_wp2_with fail
      refine (HA.out _).mono ?_
      rintro e w7 ⟨rfl, hb⟩
      have hsm := same_any (HSP3.out.keep hb) (HI.out.keep hb)
      rw [decide_eq_true rfl] at hsm
      have HSM := Lib.hid hsm
      have HB8 := Lib.hid (HB7.out.trans (hb.mono HB7.out.size))
      clear hb hsm HA HB7 HI HSP3
      go_wp2_with fail
      refine (HSM.out).mono ?_
      rintro e w8 ⟨rfl, q, rfl⟩
      have HB9 := Lib.hid (bel_drewN HB8.out q)
      clear HB8 HSM
      generalize w7.drewN q = w8 at *
      go_wp2
      go_ret
      exact ⟨rfl, HB9.out⟩
    · obtain ⟨c, hcc⟩ : ∃ c, chkL (crit M) = c := ⟨_, rfl⟩
      rw [hcc] at hck
      have k0 : (c != 0) = true := by rw [hcc] at hc; simpa using hc
      have HCK := Lib.hid hck
      clear hck hcc hc
      go_enter Tryz.func13, Tryz.ntmps13
      go_wp2_with fail
      refine (HF.out).mono ?_
      rintro e w1 ⟨rfl, rfl⟩
      go_wp2_with fail
      refine (HCK.out).mono ?_
      rintro e w1 ⟨rfl, hb⟩
      have HB1 := Lib.hid hb
      clear hb HF HCK
      go_wp2_with fail
      refine (HA.out _).mono ?_
      rintro e w9 ⟨rfl, hb⟩
      have HB9 := Lib.hid (HB1.out.trans (hb.mono HB1.out.size))
      clear hb HA
      go_wp2
      go_ret
      exact ⟨rfl, HB9.out⟩
end Go.Proofs.YtflmjoikojfgaaaGreat
