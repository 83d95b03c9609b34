/- Contracts of package fraction, eleventh part: Sub, compare, Cmp. -/
import Derived.Test.YtbjmibaepccbeaaNumJ
set_option linter.unusedSimpArgs false
set_option linter.unusedVariables false
namespace Go.Proofs.Ytbjmibaepccbeaa
open Go.RowKit

/-- fraction.Sub -/
def subS (an ad bn bd : Int) : Int × Int × Int := addS an ad (negS bn bd).1 (negS bn bd).2
theorem negS_wf {n d : Int} (h1 : -9223372036854775808 ≤ n) (h1' : n ≤ 9223372036854775807) (h2 : -9223372036854775808 ≤ d) (h2' : d ≤ 9223372036854775807) : Wf64 ((negS n d).1, (negS n d).2) := by
  unfold negS
  split
  · rename_i hv
    obtain ⟨v1, v2, v3, v4, _⟩ := vldI_out hv
    refine ⟨?_, ?_, ?_, ?_⟩ <;> simp <;> omega
  · refine ⟨?_, ?_, ?_, ?_⟩ <;> simp

set_option maxHeartbeats 1000000 in
set_option maxRecDepth 100000 in
theorem sub_any (an ad bn bd : Int) (W1 : Wf64 (an, ad)) (W2 : Wf64 (bn, bd)) (w : World) :
    Calls Try.prog 49 #[.agg #[.int .i64 an, .int .i64 ad], .agg #[.int .i64 bn, .int .i64 bd]] w fun e w' => e = .returned (fracE (subS an ad bn bd)) ∧ Below w.heap.size w w' := by
  obtain ⟨b1, b2, b3, b4⟩ := W2
  have HN := Lib.hid (fun W => neg_any bn bd b1 b2 b3 b4 W)
  have HA := Lib.hid (fun W => add_any an ad (negS bn bd).1 (negS bn bd).2 W1 (negS_wf b1 b2 b3 b4) W)
  clear W1 b1 b2 b3 b4
  unfold subS
  generalize addS an ad (negS bn bd).1 (negS bn bd).2 = t at *
  generalize negS bn bd = u at *
  go_enter Try.func49, Try.ntmps49
  go_wp2_with fail
  go_region_held3 (fun w' => w'.cell? ⟨w.heap.size, 0, none⟩ = some (.int .i64 an) ∧ w'.cell? ⟨w.heap.size, 1, none⟩ = some (.int .i64 ad) ∧ w'.cell? ⟨w.heap.size + 1, 0, none⟩ = some (.int .i64 bn) ∧ w'.cell? ⟨w.heap.size + 1, 1, none⟩ = some (.int .i64 bd))
    ((first | (simp [go_sem]; done) | (simp [go_sem, hc1]; done) | (simp [go_sem, hc1, k0, k1, k2]; done) | (simp [go_sem, hc2, hc1, k0, k1, k2]; done)))
    (first
      | (go_at_call 50; refine (HN.out _).mono ?_; rintro e w1 ⟨rfl, hb1⟩; (try (with_reducible replace hb1 := undrew hb1)); obtain ⟨hc1, hf1⟩ := bcell hb1; have hz1 := bsize hb1; (try simp at hz1); have k0 : w.heap.size < w1.heap.size := (by omega); have k1 : w.heap.size + 1 < w1.heap.size := (by omega); have k2 : w.heap.size + 1 + 1 < w1.heap.size := (by omega))
      | (go_at_call 68; refine (HA.out _).mono ?_; rintro e w2 ⟨rfl, hb2⟩; (try (with_reducible replace hb2 := undrew hb2)); obtain ⟨hc2, hf2⟩ := bcell hb2; have hz2 := bsize hb2; (try simp at hz2)))
  all_goals
    go_wp2
    refine bodyPost_ret (v := fracE t) (by simp [results, Try.results49, go_sem, hc2, hf2, hc1, hf1, k0, k1, k2]) rfl ⟨rfl, (by repeat (first | with_reducible exact Below.refl _ _ | (with_reducible refine Below.setCell ?_ (by first | exact Nat.le_refl _ | omega | (simp; done) | (simp; omega)) _) | (with_reducible refine Below.alloc ?_ (by first | exact Nat.le_refl _ | omega | (simp; done) | (simp; omega)) _) | with_reducible refine Below.drew ?_ | with_reducible refine bel_drewN ?_ _ | (with_reducible refine bel_by (by with_reducible assumption) (by first | exact Nat.le_refl _ | omega | (simp; done) | (simp; omega)) ?_)))⟩

/-- the order of two fractions -/
def ordI (x y : Int) : Int := if x < y then -1 else if x = y then 0 else 1
theorem ordI_0 (x y : Int) : -1 ≤ ordI x y := by unfold ordI; split <;> (try split) <;> omega
theorem ordI_1 (x y : Int) : ordI x y ≤ 1 := by unfold ordI; split <;> (try split) <;> omega
theorem ordI_neg (x y : Int) : ordI (-x) (-y) = -ordI x y := by
  unfold ordI
  by_cases h1 : x < y
  · rw [if_neg (by omega), if_neg (by omega), if_pos h1]; rfl
  · by_cases h2 : x = y
    · rw [if_neg (by omega), if_pos (by omega), if_neg h1, if_pos h2]; rfl
    · rw [if_pos (by omega), if_neg h1, if_neg h2]
def cmpV (an ad bn bd : Int) : Int := ordI (an * bd) (bn * ad)

set_option maxHeartbeats 2000000 in
set_option maxRecDepth 100000 in
theorem compare_any (an ad bn bd : Int) (av : vldI an ad = true) (bv : vldI bn bd = true) (w : World) :
    Calls Try.prog 67 #[.agg #[.int .i64 an, .int .i64 ad], .agg #[.int .i64 bn, .int .i64 bd]] w fun e w' => e = .returned (.int .i64 (cmpV an ad bn bd)) ∧ Below w.heap.size w w' := by
  obtain ⟨a1, a2, a3, a4, _⟩ := vldI_out av
  obtain ⟨b1, b2, b3, b4, _⟩ := vldI_out bv
  clear av bv
  by_cases ha : an < 0
  · by_cases hb : 0 ≤ bn
    · have e : cmpV an ad bn bd = -1 := by
        unfold cmpV ordI
        rw [if_pos]
        have h1 : an * bd < 0 := Int.mul_neg_of_neg_of_pos ha (by omega)
        have h2 : 0 ≤ bn * ad := Int.mul_nonneg hb (by omega)
        omega
      rw [e]
      clear e
      go_enter Try.func67, Try.ntmps67
      go_wp2
      go_ret
      exact ⟨rfl, (by repeat (first | with_reducible exact Below.refl _ _ | (with_reducible refine Below.setCell ?_ (by first | exact Nat.le_refl _ | omega | (simp; done) | (simp; omega)) _) | (with_reducible refine Below.alloc ?_ (by first | exact Nat.le_refl _ | omega | (simp; done) | (simp; omega)) _) | with_reducible refine Below.drew ?_ | with_reducible refine bel_drewN ?_ _ | (with_reducible refine bel_by (by with_reducible assumption) (by first | exact Nat.le_refl _ | omega | (simp; done) | (simp; omega)) ?_)))⟩
    · have M1 := Lib.hid (fun W => magnitude_any an (by omega) (by omega) W)
      have M2 := Lib.hid (fun W => magnitude_any bn (by omega) (by omega) W)
      have x0 := absI_0 an
      have x1 : absI an ≤ 1000000000000000000 := by unfold absI; omega
      have y0 := absI_0 bn
      have y1 : absI bn ≤ 1000000000000000000 := by unfold absI; omega
      have P1 := Lib.hid (fun W => multiply_any (absI an) bd x0 (by omega) (by omega) (by omega) W)
      have P2 := Lib.hid (fun W => multiply_any (absI bn) ad y0 (by omega) (by omega) (by omega) W)
      have p1 : 0 ≤ absI an * bd := Int.mul_nonneg x0 (by omega)
      have p2 : absI an * bd ≤ 1000000000000000000000000000000000000 := mul_small x0 x1 (by omega) b2
      have q1 : 0 ≤ absI bn * ad := Int.mul_nonneg y0 (by omega)
      have q2 : absI bn * ad ≤ 1000000000000000000000000000000000000 := mul_small y0 y1 (by omega) a2
      have O := fun W => order_any (hiW (absI an * bd)) (loW (absI an * bd)) (hiW (absI bn * ad)) (loW (absI bn * ad)) (hiW_0 p1) (hiW_1 (by unfold B128; omega)) (loW_0 _) (loW_1 _) (hiW_0 q1) (hiW_1 (by unfold B128; omega)) (loW_0 _) (loW_1 _) W
      rw [valW_words, valW_words] at O
      have e : cmpV an ad bn bd = -ordI (absI an * bd) (absI bn * ad) := by
        unfold cmpV
        rw [absI_neg ha, absI_neg (by omega), Int.neg_mul, Int.neg_mul, ordI_neg, Int.neg_neg]
      rw [e]
      change (∀ W, Calls _ _ _ W fun e w' => e = .returned (.int .i64 (ordI (absI an * bd) (absI bn * ad))) ∧ Below W.heap.size W w') at O
      have c0 := ordI_0 (absI an * bd) (absI bn * ad)
      have c1 := ordI_1 (absI an * bd) (absI bn * ad)
      have hb' : bn < 0 := by omega
      clear e p1 p2 q1 q2 hb x0 x1 y0 y1
      generalize ordI (absI an * bd) (absI bn * ad) = c at *
      generalize absI an * bd = p at *
      generalize absI bn * ad = q at *
      generalize absI an = x at *
      generalize absI bn = y at *
      have HO := Lib.hid O
      clear O
      have qa : IntKind.u64.wrap ad = ad := IntWalk.u64_in _ (by omega)
      have qb : IntKind.u64.wrap bd = bd := IntWalk.u64_in _ (by omega)
      go_enter Try.func67, Try.ntmps67
      go_wp2_with fail
      go_region_held3 (fun w' => w'.cell? ⟨w.heap.size, 0, none⟩ = some (.int .i64 an) ∧ w'.cell? ⟨w.heap.size, 1, none⟩ = some (.int .i64 ad) ∧ w'.cell? ⟨w.heap.size + 1, 0, none⟩ = some (.int .i64 bn) ∧ w'.cell? ⟨w.heap.size + 1, 1, none⟩ = some (.int .i64 bd))
        ((first | (simp [go_sem]; done) | (simp [go_sem, hc2]; done) | (simp [go_sem, hc3, hc2, ka2, kb2]; done) | (simp [go_sem, hc4, hc3, hc2, ka2, kb2, ka3, kb3]; done)))
        (first
          | (go_at_call_of 59 (Value.int .i64 an); refine (M1.out _).mono ?_; rintro e w2 ⟨rfl, rfl⟩)
          | (go_at_call_of 59 (Value.int .i64 bn); refine (M2.out _).mono ?_; rintro e w2 ⟨rfl, rfl⟩)
          | (go_at_call_of 61 (Value.int .u64 x); refine (P1.out _).mono ?_; rintro e w2 ⟨rfl, hb2⟩; (try (with_reducible replace hb2 := undrew hb2)); obtain ⟨hc2, hf2⟩ := bcell hb2; have hz2 := bsize hb2; (try simp at hz2); have ka2 : w.heap.size < w2.heap.size := (by omega); have kb2 : w.heap.size + 1 < w2.heap.size := (by omega))
          | (go_at_call_of 61 (Value.int .u64 y); refine (P2.out _).mono ?_; rintro e w3 ⟨rfl, hb3⟩; (try (with_reducible replace hb3 := undrew hb3)); obtain ⟨hc3, hf3⟩ := bcell hb3; have hz3 := bsize hb3; (try simp at hz3); have ka3 : w.heap.size < w3.heap.size := (by omega); have kb3 : w.heap.size + 1 < w3.heap.size := (by omega))
          | (go_at_call 75; refine (HO.out _).mono ?_; rintro e w4 ⟨rfl, hb4⟩; (try (with_reducible replace hb4 := undrew hb4)); obtain ⟨hc4, hf4⟩ := bcell hb4; have hz4 := bsize hb4; (try simp at hz4)))
      all_goals
        go_wp2
        go_ret
        exact ⟨rfl, (by repeat (first | with_reducible exact Below.refl _ _ | (with_reducible refine Below.setCell ?_ (by first | exact Nat.le_refl _ | omega | (simp; done) | (simp; omega)) _) | (with_reducible refine Below.alloc ?_ (by first | exact Nat.le_refl _ | omega | (simp; done) | (simp; omega)) _) | with_reducible refine Below.drew ?_ | with_reducible refine bel_drewN ?_ _ | (with_reducible refine bel_by (by with_reducible assumption) (by first | exact Nat.le_refl _ | omega | (simp; done) | (simp; omega)) ?_)))⟩
  · by_cases hb : bn < 0
    · have e : cmpV an ad bn bd = 1 := by
        unfold cmpV ordI
        have h1 : bn * ad < 0 := Int.mul_neg_of_neg_of_pos hb (by omega)
        have h2 : 0 ≤ an * bd := Int.mul_nonneg (by omega) (by omega)
        rw [if_neg (by omega), if_neg (by omega)]
      rw [e]
      clear e
      go_enter Try.func67, Try.ntmps67
      go_wp2
      go_ret
      exact ⟨rfl, (by repeat (first | with_reducible exact Below.refl _ _ | (with_reducible refine Below.setCell ?_ (by first | exact Nat.le_refl _ | omega | (simp; done) | (simp; omega)) _) | (with_reducible refine Below.alloc ?_ (by first | exact Nat.le_refl _ | omega | (simp; done) | (simp; omega)) _) | with_reducible refine Below.drew ?_ | with_reducible refine bel_drewN ?_ _ | (with_reducible refine bel_by (by with_reducible assumption) (by first | exact Nat.le_refl _ | omega | (simp; done) | (simp; omega)) ?_)))⟩
    · have M1 := Lib.hid (fun W => magnitude_any an (by omega) (by omega) W)
      have M2 := Lib.hid (fun W => magnitude_any bn (by omega) (by omega) W)
      have x0 := absI_0 an
      have x1 : absI an ≤ 1000000000000000000 := by unfold absI; omega
      have y0 := absI_0 bn
      have y1 : absI bn ≤ 1000000000000000000 := by unfold absI; omega
      have P1 := Lib.hid (fun W => multiply_any (absI an) bd x0 (by omega) (by omega) (by omega) W)
      have P2 := Lib.hid (fun W => multiply_any (absI bn) ad y0 (by omega) (by omega) (by omega) W)
      have p1 : 0 ≤ absI an * bd := Int.mul_nonneg x0 (by omega)
      have p2 : absI an * bd ≤ 1000000000000000000000000000000000000 := mul_small x0 x1 (by omega) b2
      have q1 : 0 ≤ absI bn * ad := Int.mul_nonneg y0 (by omega)
      have q2 : absI bn * ad ≤ 1000000000000000000000000000000000000 := mul_small y0 y1 (by omega) a2
      have O := fun W => order_any (hiW (absI an * bd)) (loW (absI an * bd)) (hiW (absI bn * ad)) (loW (absI bn * ad)) (hiW_0 p1) (hiW_1 (by unfold B128; omega)) (loW_0 _) (loW_1 _) (hiW_0 q1) (hiW_1 (by unfold B128; omega)) (loW_0 _) (loW_1 _) W
      rw [valW_words, valW_words] at O
      have e : cmpV an ad bn bd = ordI (absI an * bd) (absI bn * ad) := by
        unfold cmpV
        rw [absI_pos (by omega), absI_pos (by omega)]
      rw [e]
      change (∀ W, Calls _ _ _ W fun e w' => e = .returned (.int .i64 (ordI (absI an * bd) (absI bn * ad))) ∧ Below W.heap.size W w') at O
      have c0 := ordI_0 (absI an * bd) (absI bn * ad)
      have c1 := ordI_1 (absI an * bd) (absI bn * ad)
      clear e p1 p2 q1 q2 x0 x1 y0 y1
      generalize ordI (absI an * bd) (absI bn * ad) = c at *
      generalize absI an * bd = p at *
      generalize absI bn * ad = q at *
      generalize absI an = x at *
      generalize absI bn = y at *
      have HO := Lib.hid O
      clear O
      have qa : IntKind.u64.wrap ad = ad := IntWalk.u64_in _ (by omega)
      have qb : IntKind.u64.wrap bd = bd := IntWalk.u64_in _ (by omega)
      go_enter Try.func67, Try.ntmps67
      go_wp2_with fail
      go_region_held3 (fun w' => w'.cell? ⟨w.heap.size, 0, none⟩ = some (.int .i64 an) ∧ w'.cell? ⟨w.heap.size, 1, none⟩ = some (.int .i64 ad) ∧ w'.cell? ⟨w.heap.size + 1, 0, none⟩ = some (.int .i64 bn) ∧ w'.cell? ⟨w.heap.size + 1, 1, none⟩ = some (.int .i64 bd))
        ((first | (simp [go_sem]; done) | (simp [go_sem, hc2]; done) | (simp [go_sem, hc3, hc2, ka2, kb2]; done) | (simp [go_sem, hc4, hc3, hc2, ka2, kb2, ka3, kb3]; done)))
        (first
          | (go_at_call_of 59 (Value.int .i64 an); refine (M1.out _).mono ?_; rintro e w2 ⟨rfl, rfl⟩)
          | (go_at_call_of 59 (Value.int .i64 bn); refine (M2.out _).mono ?_; rintro e w2 ⟨rfl, rfl⟩)
          | (go_at_call_of 61 (Value.int .u64 x); refine (P1.out _).mono ?_; rintro e w2 ⟨rfl, hb2⟩; (try (with_reducible replace hb2 := undrew hb2)); obtain ⟨hc2, hf2⟩ := bcell hb2; have hz2 := bsize hb2; (try simp at hz2); have ka2 : w.heap.size < w2.heap.size := (by omega); have kb2 : w.heap.size + 1 < w2.heap.size := (by omega))
          | (go_at_call_of 61 (Value.int .u64 y); refine (P2.out _).mono ?_; rintro e w3 ⟨rfl, hb3⟩; (try (with_reducible replace hb3 := undrew hb3)); obtain ⟨hc3, hf3⟩ := bcell hb3; have hz3 := bsize hb3; (try simp at hz3); have ka3 : w.heap.size < w3.heap.size := (by omega); have kb3 : w.heap.size + 1 < w3.heap.size := (by omega))
          | (go_at_call 75; refine (HO.out _).mono ?_; rintro e w4 ⟨rfl, hb4⟩; (try (with_reducible replace hb4 := undrew hb4)); obtain ⟨hc4, hf4⟩ := bcell hb4; have hz4 := bsize hb4; (try simp at hz4)))
      all_goals
        go_wp2
        go_ret
        exact ⟨rfl, (by repeat (first | with_reducible exact Below.refl _ _ | (with_reducible refine Below.setCell ?_ (by first | exact Nat.le_refl _ | omega | (simp; done) | (simp; omega)) _) | (with_reducible refine Below.alloc ?_ (by first | exact Nat.le_refl _ | omega | (simp; done) | (simp; omega)) _) | with_reducible refine Below.drew ?_ | with_reducible refine bel_drewN ?_ _ | (with_reducible refine bel_by (by with_reducible assumption) (by first | exact Nat.le_refl _ | omega | (simp; done) | (simp; omega)) ?_)))⟩
end Go.Proofs.Ytbjmibaepccbeaa
