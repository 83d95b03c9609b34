/- fraction.compare and fraction.Cmp: the order of two fractions; the world has only gone on. -/
import Derived.Test.YtogdkgcgckdehaaGreatFra
set_option linter.unusedSimpArgs false
set_option linter.unusedVariables false
namespace Go.Proofs.YtogdkgcgckdehaaGreat
open Go.RowKit Go.Sort

theorem mul_small {a b : Int} (ha : 0 ≤ a) (ha' : a ≤ 1000000000000000000) (hb : 0 ≤ b) (hb' : b ≤ 1000000000000000000) : a * b ≤ 1000000000000000000000000000000000000 := by
  have h1 : a * b ≤ a * 1000000000000000000 := Int.mul_le_mul_of_nonneg_left hb' ha
  omega
def Wf64 (x : Int × Int) : Prop := -9223372036854775808 ≤ x.1 ∧ x.1 ≤ 9223372036854775807 ∧ -9223372036854775808 ≤ x.2 ∧ x.2 ≤ 9223372036854775807
/-- the order of two fractions -/
def ordI (x y : Int) : Int := if x < y then -1 else if x = y then 0 else 1
theorem ordI_0 (x y : Int) : -1 ≤ ordI x y := by unfold ordI; split <;> (try split) <;> omega
theorem ordI_1 (x y : Int) : ordI x y ≤ 1 := by unfold ordI; split <;> (try split) <;> omega
theorem ordI_neg (x y : Int) : ordI (-x) (-y) = -ordI x y := by
  unfold ordI
  by_cases h1 : x < y
  · rw [if_neg (by omega), if_neg (by omega), if_pos h1]; rfl
  · by_cases h2 : x = y
    · rw [if_neg (by omega), if_pos (by omega), if_neg h1, if_pos h2]; rfl
    · rw [if_pos (by omega), if_neg h1, if_neg h2]
def cmpV (an ad bn bd : Int) : Int := ordI (an * bd) (bn * ad)
/-- the two boxes of the parameters -/
def boxes (w : World) (an ad bn bd : Int) : World := (w.alloc (.cells #[.int .i64 an, .int .i64 ad] 37)).alloc (.cells #[.int .i64 bn, .int .i64 bd] 37)
theorem boxes_grw (w : World) (an ad bn bd : Int) : Grw w (boxes w an ad bn bd) := ((Grw.refl w).alloc _).alloc _
theorem boxes_cells (w : World) (an ad bn bd : Int) (n : Nat) (os : Array Obj) :
    (Sort.grow ((boxes w an ad bn bd).drewN n) os).cell? ⟨w.heap.size, 0, none⟩ = some (.int .i64 an) ∧ (Sort.grow ((boxes w an ad bn bd).drewN n) os).cell? ⟨w.heap.size, 1, none⟩ = some (.int .i64 ad) ∧
    (Sort.grow ((boxes w an ad bn bd).drewN n) os).cell? ⟨w.heap.size + 1, 0, none⟩ = some (.int .i64 bn) ∧ (Sort.grow ((boxes w an ad bn bd).drewN n) os).cell? ⟨w.heap.size + 1, 1, none⟩ = some (.int .i64 bd) := by
  refine ⟨cell_grown ?_ ?_ n os, cell_grown ?_ ?_ n os, cell_grown ?_ ?_ n os, cell_grown ?_ ?_ n os⟩
  all_goals first | (simp [boxes]; done) | (simp [boxes, go_sem]; done) | (simp [boxes]; omega)
set_option maxHeartbeats 2000000 in
set_option maxRecDepth 100000 in
theorem compare_any (an ad bn bd : Int) (av : vldI an ad = true) (bv : vldI bn bd = true) (w : World) :
    Calls Tryz.prog 57 #[.agg #[.int .i64 an, .int .i64 ad], .agg #[.int .i64 bn, .int .i64 bd]] w fun e w' => e = .returned (.int .i64 (cmpV an ad bn bd)) ∧ Grw w w' := by
  obtain ⟨a1, a2, a3, a4, _⟩ := vldI_out av
  obtain ⟨b1, b2, b3, b4, _⟩ := vldI_out bv
  clear av bv
  by_cases ha : an < 0
  · by_cases hb : 0 ≤ bn
    · have e : cmpV an ad bn bd = -1 := by
        unfold cmpV ordI
        rw [if_pos]
        have h1 : an * bd < 0 := Int.mul_neg_of_neg_of_pos ha (by omega)
        have h2 : 0 ≤ bn * ad := Int.mul_nonneg hb (by omega)
        omega
      rw [e]
      clear e
      go_enter Tryz.func57, Tryz.ntmps57
      go_wp2
      go_ret
      exact ⟨rfl, (by repeat (first | with_reducible exact Grw.refl _ | (with_reducible refine Grw.setCell ?_ (by first | exact Nat.le_refl _ | omega | (simp; done) | (simp; omega)) _) | (with_reducible refine Grw.alloc ?_ _) | with_reducible refine Grw.drew ?_ | with_reducible refine Grw.drewN ?_ _ | with_reducible refine Grw.grow ?_ _ | (with_reducible refine Grw.trans ?_ (by with_reducible assumption))))⟩
    · have M1 := Lib.hid (fun W => magnitude_any an (by omega) (by omega) W)
      have M2 := Lib.hid (fun W => magnitude_any bn (by omega) (by omega) W)
      have x0 := absI_0 an
      have x1 : absI an ≤ 1000000000000000000 := by unfold absI; omega
      have y0 := absI_0 bn
      have y1 : absI bn ≤ 1000000000000000000 := by unfold absI; omega
      have P1 := Lib.hid (fun W => multiply_any (absI an) bd x0 (by omega) (by omega) (by omega) W)
      have P2 := Lib.hid (fun W => multiply_any (absI bn) ad y0 (by omega) (by omega) (by omega) W)
      have p1 : 0 ≤ absI an * bd := Int.mul_nonneg x0 (by omega)
      have p2 : absI an * bd ≤ 1000000000000000000000000000000000000 := mul_small x0 x1 (by omega) b2
      have q1 : 0 ≤ absI bn * ad := Int.mul_nonneg y0 (by omega)
      have q2 : absI bn * ad ≤ 1000000000000000000000000000000000000 := mul_small y0 y1 (by omega) a2
      have O := fun W => order_any (hiW (absI an * bd)) (loW (absI an * bd)) (hiW (absI bn * ad)) (loW (absI bn * ad)) (hiW_0 p1) (hiW_1 (by unfold B128; omega)) (loW_0 _) (loW_1 _) (hiW_0 q1) (hiW_1 (by unfold B128; omega)) (loW_0 _) (loW_1 _) W
      rw [valW_words, valW_words] at O
      have e : cmpV an ad bn bd = -ordI (absI an * bd) (absI bn * ad) := by
        unfold cmpV
        rw [absI_neg ha, absI_neg (by omega), Int.neg_mul, Int.neg_mul, ordI_neg, Int.neg_neg]
      rw [e]
      change (∀ W, Calls _ _ _ W fun e w' => e = .returned (.int .i64 (ordI (absI an * bd) (absI bn * ad))) ∧ Grw W w') at O
      have c0 := ordI_0 (absI an * bd) (absI bn * ad)
      have c1 := ordI_1 (absI an * bd) (absI bn * ad)
      have hb' : bn < 0 := by omega
      clear e p1 p2 q1 q2 hb x0 x1 y0 y1
      generalize ordI (absI an * bd) (absI bn * ad) = c at *
      generalize absI an * bd = p at *
      generalize absI bn * ad = q at *
      generalize absI an = x at *
      generalize absI bn = y at *
      have HO := Lib.hid O
      clear O
      have qa : IntKind.u64.wrap ad = ad := IntWalk.u64_in _ (by omega)
      have qb : IntKind.u64.wrap bd = bd := IntWalk.u64_in _ (by omega)
      have HG := Lib.hid (boxes_grw w an ad bn bd)
      have HC := Lib.hid (boxes_cells w an ad bn bd)
      have K0 := fun n os => (HC.out n os).1
      have K1 := fun n os => (HC.out n os).2.1
      have K2 := fun n os => (HC.out n os).2.2.1
      have K3 := fun n os => (HC.out n os).2.2.2
      go_enter Tryz.func57, Tryz.ntmps57
      go_wp2_with fail
      rw [show (w.alloc (.cells #[.int .i64 an, .int .i64 ad] 37)).alloc (.cells #[.int .i64 bn, .int .i64 bd] 37) = boxes w an ad bn bd from rfl]
      generalize boxes w an ad bn bd = W at *
      have mixed := mix
      go_quiet_grown ((first
          | (go_at_call_of 31 (Value.int .i64 an); exact quietG (grw_same (M1.out _)))
          | (go_at_call_of 31 (Value.int .i64 bn); exact quietG (grw_same (M2.out _)))
          | (go_at_call_of 72 (Value.int .u64 x); exact quietG (P1.out _))
          | (go_at_call_of 72 (Value.int .u64 y); exact quietG (P2.out _))
          | (go_at_call 71; exact quietG (HO.out _))))
      go_wp2
      go_ret
      exact ⟨rfl, HG.out.trans (grw_form _ _ _)⟩
  · by_cases hb : bn < 0
    · have e : cmpV an ad bn bd = 1 := by
        unfold cmpV ordI
        have h1 : bn * ad < 0 := Int.mul_neg_of_neg_of_pos hb (by omega)
        have h2 : 0 ≤ an * bd := Int.mul_nonneg (by omega) (by omega)
        rw [if_neg (by omega), if_neg (by omega)]
      rw [e]
      clear e
      go_enter Tryz.func57, Tryz.ntmps57
      go_wp2
      go_ret
      exact ⟨rfl, (by repeat (first | with_reducible exact Grw.refl _ | (with_reducible refine Grw.setCell ?_ (by first | exact Nat.le_refl _ | omega | (simp; done) | (simp; omega)) _) | (with_reducible refine Grw.alloc ?_ _) | with_reducible refine Grw.drew ?_ | with_reducible refine Grw.drewN ?_ _ | with_reducible refine Grw.grow ?_ _ | (with_reducible refine Grw.trans ?_ (by with_reducible assumption))))⟩
    · have M1 := Lib.hid (fun W => magnitude_any an (by omega) (by omega) W)
      have M2 := Lib.hid (fun W => magnitude_any bn (by omega) (by omega) W)
      have x0 := absI_0 an
      have x1 : absI an ≤ 1000000000000000000 := by unfold absI; omega
      have y0 := absI_0 bn
      have y1 : absI bn ≤ 1000000000000000000 := by unfold absI; omega
      have P1 := Lib.hid (fun W => multiply_any (absI an) bd x0 (by omega) (by omega) (by omega) W)
      have P2 := Lib.hid (fun W => multiply_any (absI bn) ad y0 (by omega) (by omega) (by omega) W)
      have p1 : 0 ≤ absI an * bd := Int.mul_nonneg x0 (by omega)
      have p2 : absI an * bd ≤ 1000000000000000000000000000000000000 := mul_small x0 x1 (by omega) b2
      have q1 : 0 ≤ absI bn * ad := Int.mul_nonneg y0 (by omega)
      have q2 : absI bn * ad ≤ 1000000000000000000000000000000000000 := mul_small y0 y1 (by omega) a2
      have O := fun W => order_any (hiW (absI an * bd)) (loW (absI an * bd)) (hiW (absI bn * ad)) (loW (absI bn * ad)) (hiW_0 p1) (hiW_1 (by unfold B128; omega)) (loW_0 _) (loW_1 _) (hiW_0 q1) (hiW_1 (by unfold B128; omega)) (loW_0 _) (loW_1 _) W
      rw [valW_words, valW_words] at O
      have e : cmpV an ad bn bd = ordI (absI an * bd) (absI bn * ad) := by
        unfold cmpV
        rw [absI_pos (by omega), absI_pos (by omega)]
      rw [e]
      change (∀ W, Calls _ _ _ W fun e w' => e = .returned (.int .i64 (ordI (absI an * bd) (absI bn * ad))) ∧ Grw W w') at O
      have c0 := ordI_0 (absI an * bd) (absI bn * ad)
      have c1 := ordI_1 (absI an * bd) (absI bn * ad)
      clear e p1 p2 q1 q2 x0 x1 y0 y1
      generalize ordI (absI an * bd) (absI bn * ad) = c at *
      generalize absI an * bd = p at *
      generalize absI bn * ad = q at *
      generalize absI an = x at *
      generalize absI bn = y at *
      have HO := Lib.hid O
      clear O
      have qa : IntKind.u64.wrap ad = ad := IntWalk.u64_in _ (by omega)
      have qb : IntKind.u64.wrap bd = bd := IntWalk.u64_in _ (by omega)
      have HG := Lib.hid (boxes_grw w an ad bn bd)
      have HC := Lib.hid (boxes_cells w an ad bn bd)
      have K0 := fun n os => (HC.out n os).1
      have K1 := fun n os => (HC.out n os).2.1
      have K2 := fun n os => (HC.out n os).2.2.1
      have K3 := fun n os => (HC.out n os).2.2.2
      go_enter Tryz.func57, Tryz.ntmps57
      go_wp2_with fail
      rw [show (w.alloc (.cells #[.int .i64 an, .int .i64 ad] 37)).alloc (.cells #[.int .i64 bn, .int .i64 bd] 37) = boxes w an ad bn bd from rfl]
      generalize boxes w an ad bn bd = W at *
      have mixed := mix
      go_quiet_grown ((first
          | (go_at_call_of 31 (Value.int .i64 an); exact quietG (grw_same (M1.out _)))
          | (go_at_call_of 31 (Value.int .i64 bn); exact quietG (grw_same (M2.out _)))
          | (go_at_call_of 72 (Value.int .u64 x); exact quietG (P1.out _))
          | (go_at_call_of 72 (Value.int .u64 y); exact quietG (P2.out _))
          | (go_at_call 71; exact quietG (HO.out _))))
      go_wp2
      go_ret
      exact ⟨rfl, HG.out.trans (grw_form _ _ _)⟩

/-- fraction.Cmp -/
def cmpS (an ad bn bd : Int) : Int :=
  if vldI an ad = true then (if vldI bn bd = true then cmpV an ad bn bd else 1) else if vldI bn bd = true then -1 else 0
set_option maxHeartbeats 2000000 in
set_option maxRecDepth 100000 in
theorem cmp_any (an ad bn bd : Int) (W1 : Wf64 (an, ad)) (W2 : Wf64 (bn, bd)) (w : World) :
    Calls Tryz.prog 35 #[.agg #[.int .i64 an, .int .i64 ad], .agg #[.int .i64 bn, .int .i64 bd]] w fun e w' => e = .returned (.int .i64 (cmpS an ad bn bd)) ∧ Grw w w' := by
  obtain ⟨A1, A2, A3, A4⟩ := W1
  obtain ⟨B1, B2, B3, B4⟩ := W2
  simp only at A1 A2 A3 A4 B1 B2 B3 B4
  have V1 := Lib.hid fun W => valid_any an ad A1 A2 A3 A4 W
  have V2 := Lib.hid fun W => valid_any bn bd B1 B2 B3 B4 W
  have HV := Lib.hid (fun (av : vldI an ad = true) (bv : vldI bn bd = true) W => compare_any an ad bn bd av bv W)
  clear A1 A2 A3 A4 B1 B2 B3 B4
  have HG := Lib.hid (boxes_grw w an ad bn bd)
  have HC := Lib.hid (boxes_cells w an ad bn bd)
  have K0 := fun n os => (HC.out n os).1
  have K1 := fun n os => (HC.out n os).2.1
  have K2 := fun n os => (HC.out n os).2.2.1
  have K3 := fun n os => (HC.out n os).2.2.2
  have HW : Hid (boxes w an ad bn bd = (w.alloc (.cells #[.int .i64 an, .int .i64 ad] 37)).alloc (.cells #[.int .i64 bn, .int .i64 bd] 37)) := Lib.hid rfl
  unfold cmpS
  generalize boxes w an ad bn bd = W at *
  obtain ⟨va, hva⟩ : ∃ va, vldI an ad = va := ⟨_, rfl⟩
  obtain ⟨vb, hvb⟩ : ∃ vb, vldI bn bd = vb := ⟨_, rfl⟩
  rw [hva] at V1 HV ⊢
  rw [hvb] at V2 HV ⊢
  clear hva hvb
  cases va with
  | false =>
    cases vb with
    | false =>
      go_enter Tryz.func35, Tryz.ntmps35
      go_wp2_with fail
      rw [← HW.out]
      have mixed := mix
      go_quiet_grown ((first
        | (go_at_call_of 13 (Value.agg #[.int .i64 an, .int .i64 ad]); exact quietG (V1.out _))
        | (go_at_call_of 13 (Value.agg #[.int .i64 bn, .int .i64 bd]); exact quietG (V2.out _))))
      go_wp2
      go_ret
      exact ⟨rfl, HG.out.trans (grw_form _ _ _)⟩
    | true =>
      go_enter Tryz.func35, Tryz.ntmps35
      go_wp2_with fail
      rw [← HW.out]
      have mixed := mix
      go_quiet_grown ((first
        | (go_at_call_of 13 (Value.agg #[.int .i64 an, .int .i64 ad]); exact quietG (V1.out _))
        | (go_at_call_of 13 (Value.agg #[.int .i64 bn, .int .i64 bd]); exact quietG (V2.out _))))
      go_wp2
      go_ret
      exact ⟨rfl, HG.out.trans (grw_form _ _ _)⟩
  | true =>
    cases vb with
    | false =>
      go_enter Tryz.func35, Tryz.ntmps35
      go_wp2_with fail
      rw [← HW.out]
      have mixed := mix
      go_quiet_grown ((first
        | (go_at_call_of 13 (Value.agg #[.int .i64 an, .int .i64 ad]); exact quietG (V1.out _))
        | (go_at_call_of 13 (Value.agg #[.int .i64 bn, .int .i64 bd]); exact quietG (V2.out _))))
      go_wp2
      go_ret
      exact ⟨rfl, HG.out.trans (grw_form _ _ _)⟩
    | true =>
      have HO := Lib.hid (HV.out rfl rfl)
      clear HV
      simp only [if_true]
      generalize cmpV an ad bn bd = c at *
      go_enter Tryz.func35, Tryz.ntmps35
      go_wp2_with fail
      rw [← HW.out]
      have mixed := mix
      go_quiet_grown ((first
        | (go_at_call_of 13 (Value.agg #[.int .i64 an, .int .i64 ad]); exact quietG (V1.out _))
        | (go_at_call_of 13 (Value.agg #[.int .i64 bn, .int .i64 bd]); exact quietG (V2.out _))))
      go_wp2_with fail
      refine (HO.out _).mono ?_
      rintro e w3 ⟨rfl, hb3⟩
      go_wp2
      go_ret
      exact ⟨rfl, (HG.out.trans (grw_form _ _ _)).trans hb3⟩
end Go.Proofs.YtogdkgcgckdehaaGreat
