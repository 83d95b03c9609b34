/- Contracts of package fraction, sixth part: Mul, Div. -/
import Derived.Test.YtbjmibaepccbeaaNumE
set_option linter.unusedSimpArgs false
set_option linter.unusedVariables false
namespace Go.Proofs.Ytbjmibaepccbeaa
open Go.RowKit

theorem fracsAt_two {w : World} {b off : Nat} {n1 d1 n2 d2 : Int} (h1 : w.cell? ⟨b, off, none⟩ = some (.int .i64 n1)) (h2 : w.cell? ⟨b, off + 1, none⟩ = some (.int .i64 d1))
    (h3 : w.cell? ⟨b, off + 2, none⟩ = some (.int .i64 n2)) (h4 : w.cell? ⟨b, off + 2 + 1, none⟩ = some (.int .i64 d2)) : FracsAt w b off [(n1, d1), (n2, d2)] := by
  intro k h
  match k, h with
  | 0, _ => exact ⟨by simpa using h1, by simpa using h2⟩
  | 1, _ => exact ⟨by simpa using h3, by simpa using h4⟩

/-- valid(a, b) -/
theorem valid2_any (b : Nat) (n1 d1 n2 d2 : Int) (w : World) (hb : b < w.heap.size) (W1 : Wf64 (n1, d1)) (W2 : Wf64 (n2, d2))
    (h1 : w.cell? ⟨b, 0, none⟩ = some (.int .i64 n1)) (h2 : w.cell? ⟨b, 1, none⟩ = some (.int .i64 d1)) (h3 : w.cell? ⟨b, 2, none⟩ = some (.int .i64 n2)) (h4 : w.cell? ⟨b, 3, none⟩ = some (.int .i64 d2)) :
    Calls Try.prog 58 #[.slice (some ⟨b, 0, none⟩) 2 2] w fun e w' => e = .returned (.bool (vldI n1 d1 && vldI n2 d2)) ∧ Below w.heap.size w w' := by
  have h := validl_any b 0 2 2 [(n1, d1), (n2, d2)] w rfl hb (by omega) (by decide) (fracsAt_two h1 h2 h3 h4) (by
    intro x hx
    simp only [List.mem_cons, List.not_mem_nil, or_false] at hx
    rcases hx with rfl | rfl <;> assumption)
  rwa [show allV [(n1, d1), (n2, d2)] = (vldI n1 d1 && vldI n2 d2) from by simp [allV]] at h

/-- what Mul computes for two fractions -/
def mulR (an ad bn bd : Int) : Int × Int × Int :=
  nrm (decide (an < 0) != decide (bn < 0)) (absI an / gcdI (absI an) bd * (absI bn / gcdI (absI bn) ad)) (ad / gcdI (absI bn) ad * (bd / gcdI (absI an) bd))
def mulS (an ad bn bd : Int) : Int × Int × Int := if (vldI an ad && vldI bn bd) = true then mulR an ad bn bd else (0, 0, 1)

set_option maxHeartbeats 1000000 in
set_option maxRecDepth 100000 in
theorem mul_no (an ad bn bd : Int) (W1 : Wf64 (an, ad)) (W2 : Wf64 (bn, bd)) (hv : (vldI an ad && vldI bn bd) = false) (w : World) :
    Calls Try.prog 32 #[.agg #[.int .i64 an, .int .i64 ad], .agg #[.int .i64 bn, .int .i64 bd]] w fun e w' => e = .returned (fracE (0, 0, 1)) ∧ Below w.heap.size w w' := by
  have HV := Lib.hid (fun b W h h1 h2 h3 h4 => valid2_any b an ad bn bd W h W1 W2 h1 h2 h3 h4)
  rw [hv] at HV
  clear hv W1 W2
  go_enter Try.func32, Try.ntmps32
  go_wp2_with fail
  refine (HV.out _ _ ?_ ?_ ?_ ?_ ?_).mono ?_
  · simp
  · simp [go_sem]
  · simp [go_sem]
  · simp [go_sem]
  · simp [go_sem]
  rintro e w1 ⟨rfl, hb1⟩
  obtain ⟨hc1, hf1⟩ := bcell hb1
  have hz1 := bsize hb1
  simp at hz1
  have k0 : w.heap.size < w1.heap.size := by omega
  have k1 : w.heap.size + 1 < w1.heap.size := by omega
  have k2 : w.heap.size + 1 + 1 < w1.heap.size := by omega
  go_wp2
  refine bodyPost_ret (v := fracE (0, 0, 1)) (by simp [results, Try.results32, go_sem, hc1, hf1, hz1, k0, k1, k2]) rfl ⟨rfl, (by repeat (first | with_reducible exact Below.refl _ _ | (with_reducible refine Below.setCell ?_ (by first | exact Nat.le_refl _ | omega | (simp; done) | (simp; omega)) _) | (with_reducible refine Below.alloc ?_ (by first | exact Nat.le_refl _ | omega | (simp; done) | (simp; omega)) _) | with_reducible refine Below.drew ?_ | with_reducible refine bel_drewN ?_ _ | (with_reducible refine bel_by (by with_reducible assumption) (by first | exact Nat.le_refl _ | omega | (simp; done) | (simp; omega)) ?_)))⟩

theorem q_left {P : Program} {f : FuncId} {args : Array Value} {w : World} {n : Nat} {v : Value} (h : Calls P f args (w.drewN n) fun e w' => e = .returned v ∧ ∃ m, w' = (w.drewN n).drewN m) :
    Calls P f args (w.drewN n) fun e w'' => e = .returned v ∧ ∃ m, w'' = w.drewN m :=
  h.mono fun _ _ ⟨he, m, hm⟩ => ⟨he, n + m, by rw [hm, World.drewN_drewN]⟩

theorem q_add {P : Program} {f : FuncId} {args : Array Value} {w : World} {a n : Nat} {v : Value} (h : Calls P f args (w.drewN (a + n)) fun e w' => e = .returned v ∧ ∃ m, w' = (w.drewN (a + n)).drewN m) :
    Calls P f args (w.drewN (a + n)) fun e w'' => e = .returned v ∧ ∃ m, w'' = w.drewN (a + m) :=
  h.mono fun _ _ ⟨he, m, hm⟩ => ⟨he, n + m, by rw [hm, World.drewN_drewN, Nat.add_assoc]⟩

set_option maxHeartbeats 1000000 in
set_option maxRecDepth 100000 in
theorem mul_yes (an ad bn bd : Int) (W1 : Wf64 (an, ad)) (W2 : Wf64 (bn, bd)) (hv : (vldI an ad && vldI bn bd) = true) (w : World) :
    Calls Try.prog 32 #[.agg #[.int .i64 an, .int .i64 ad], .agg #[.int .i64 bn, .int .i64 bd]] w fun e w' => e = .returned (fracE (mulR an ad bn bd)) ∧ Below w.heap.size w w' := by
  have HV := Lib.hid (fun b W h h1 h2 h3 h4 => valid2_any b an ad bn bd W h W1 W2 h1 h2 h3 h4)
  rw [hv] at HV
  simp only [Bool.and_eq_true] at hv
  obtain ⟨av, bv⟩ := hv
  obtain ⟨a1, a2, a3, a4, a5⟩ := vldI_out av
  obtain ⟨b1, b2, b3, b4, b5⟩ := vldI_out bv
  clear W1 W2 a5 b5 av bv
  have M1 := Lib.hid (fun W => magnitude_any an (by omega) (by omega) W)
  have M2 := Lib.hid (fun W => magnitude_any bn (by omega) (by omega) W)
  have x0 := absI_0 an
  have x1 : absI an ≤ 1000000000000000000 := by unfold absI; omega
  have y0 := absI_0 bn
  have y1 : absI bn ≤ 1000000000000000000 := by unfold absI; omega
  unfold mulR
  generalize absI an = x at *
  generalize absI bn = y at *
  have G1 := Lib.hid (fun W => divisor_any x bd x0 (by omega) (by omega) (by omega) W)
  have G2 := Lib.hid (fun W => divisor_any y ad y0 (by omega) (by omega) (by omega) W)
  have f0 := gcdI_pos x bd (by omega)
  have f1 := gcdI_le x bd (by omega)
  have s0 := gcdI_pos y ad (by omega)
  have s1 := gcdI_le y ad (by omega)
  generalize gcdI x bd = f at *
  generalize gcdI y ad = s at *
  have p0 : 0 ≤ x / f ∧ x / f ≤ 1000000000000000000 := ⟨Int.ediv_nonneg x0 (by omega), Int.le_trans (Int.ediv_le_self f x0) x1⟩
  have p1 : 0 ≤ y / s ∧ y / s ≤ 1000000000000000000 := ⟨Int.ediv_nonneg y0 (by omega), Int.le_trans (Int.ediv_le_self s y0) y1⟩
  have p2 : 0 ≤ ad / s ∧ ad / s ≤ 1000000000000000000 := ⟨Int.ediv_nonneg (by omega) (by omega), Int.le_trans (Int.ediv_le_self s (by omega)) a2⟩
  have p3 : 0 ≤ bd / f ∧ bd / f ≤ 1000000000000000000 := ⟨Int.ediv_nonneg (by omega) (by omega), Int.le_trans (Int.ediv_le_self f (by omega)) b2⟩
  have q1 : IntKind.u64.wrap (x.tdiv f) = x / f := IntWalk.u64_quo _ _ (by omega)
  have q2 : IntKind.u64.wrap (y.tdiv s) = y / s := IntWalk.u64_quo _ _ (by omega)
  have q3 : IntKind.u64.wrap (ad.tdiv s) = ad / s := IntWalk.u64_quo _ _ (by omega)
  have q4 : IntKind.u64.wrap (bd.tdiv f) = bd / f := IntWalk.u64_quo _ _ (by omega)
  have P1 := Lib.hid (fun W => multiply_any (x / f) (y / s) (by omega) (by omega) (by omega) (by omega) W)
  have P2 := Lib.hid (fun W => multiply_any (ad / s) (bd / f) (by omega) (by omega) (by omega) (by omega) W)
  have m0 : 0 ≤ x / f * (y / s) := Int.mul_nonneg p0.1 p1.1
  have m1 : x / f * (y / s) < B128 := mul_128 p0.1 (by omega) p1.1 (by omega)
  have n0 : 0 ≤ ad / s * (bd / f) := Int.mul_nonneg p2.1 p3.1
  have n1 : ad / s * (bd / f) < B128 := mul_128 p2.1 (by omega) p3.1 (by omega)
  generalize x / f * (y / s) = N at *
  generalize ad / s * (bd / f) = D at *
  have NN := fun W => normalized_any (decide (an < 0) != decide (bn < 0)) (hiW N) (loW N) (hiW D) (loW D) (hiW_0 m0) (hiW_1 m1) (loW_0 N) (loW_1 N) (hiW_0 n0) (hiW_1 n1) (loW_0 D) (loW_1 D) W
  rw [valW_words, valW_words] at NN
  have HN := Lib.hid NN
  clear NN m0 m1 n0 n1
  have fz : ¬ f = 0 := by omega
  have sz : ¬ s = 0 := by omega
  generalize nrm (decide (an < 0) != decide (bn < 0)) N D = t at *
  go_enter Try.func32, Try.ntmps32
  go_wp2_with fail
  refine (HV.out _ _ ?_ ?_ ?_ ?_ ?_).mono ?_
  · simp
  · simp [go_sem]
  · simp [go_sem]
  · simp [go_sem]
  · simp [go_sem]
  rintro e w1 ⟨rfl, hb1⟩
  obtain ⟨hc1, hf1⟩ := bcell hb1
  have hz1 := bsize hb1
  simp at hz1
  have k0 : w.heap.size < w1.heap.size := by omega
  have k1 : w.heap.size + 1 < w1.heap.size := by omega
  have k2 : w.heap.size + 1 + 1 < w1.heap.size := by omega
  go_wp2_with fail
  go_quiet ((first | (go_at_call 59; exact Calls.quiet_of (q_same (M1.out _)))))
  revert nq
  intro nqa
  go_wp2_with fail
  go_quiet ((first | (go_at_call 59; exact q_add (q_same (M2.out _)))))
  revert nq
  intro nqb
  go_wp2_with fail
  refine (G1.out _).mono ?_
  rintro e w2 ⟨rfl, nn1, rfl⟩
  go_wp2_with fail
  refine (G2.out _).mono ?_
  rintro e w2 ⟨rfl, nn2, rfl⟩
  go_wp2_with fail
  have hbA := bel_drewN hb1 (nqa + nqb + nn1 + nn2)
  generalize hA : w1.drewN (nqa + nqb + nn1 + nn2) = wA at hbA ⊢
  clear hA hc1 hf1 hz1 k0 k1 k2 hb1
  obtain ⟨hcA, hfA⟩ := bcell hbA
  have hzA := bsize hbA
  simp at hzA
  have k0 : w.heap.size < wA.heap.size := by omega
  have k1 : w.heap.size + 1 < wA.heap.size := by omega
  have k2 : w.heap.size + 1 + 1 < wA.heap.size := by omega
  go_upto_region 6 with fail
  go_cut [12] (fun s12 wx => ∃ g : Nat, s12 = .pointer (some ⟨g, 0, none⟩) ∧ wx.cell? ⟨g, 0, none⟩ = some (.int .u64 (hiW N)) ∧ wx.cell? ⟨g, 1, none⟩ = some (.int .u64 (loW N)) ∧ g < wx.heap.size ∧ Below wA.heap.size wA wx)
  case first =>
    go_region_held3 (fun _ => True) (trivial) (first | (go_at_call 61; refine (P1.out _).mono ?_; rintro e w2 ⟨rfl, hb2⟩; obtain ⟨hc2, hf2⟩ := bcell hb2; have hz2 := bsize hb2; simp at hz2))
    · go_wp2_with fail
      go_meet
      exact ⟨w2.heap.size, rfl, by simp [go_sem], by simp [go_sem], by simp, (by repeat (first | with_reducible exact Below.refl _ _ | (with_reducible refine Below.setCell ?_ (by first | exact Nat.le_refl _ | omega | (simp; done) | (simp; omega)) _) | (with_reducible refine Below.alloc ?_ (by first | exact Nat.le_refl _ | omega | (simp; done) | (simp; omega)) _) | with_reducible refine Below.drew ?_ | with_reducible refine bel_drewN ?_ _ | (with_reducible refine bel_by (by with_reducible assumption) (by first | exact Nat.le_refl _ | omega | (simp; done) | (simp; omega)) ?_)))⟩
    · go_wp2_with fail
      go_meet
      have kA : wA.heap.size < w2.heap.size := by omega
      exact ⟨wA.heap.size, rfl, by simp [go_sem, hc2, hf2], by simp [go_sem, hc2, hf2], by simp; omega, (by repeat (first | with_reducible exact Below.refl _ _ | (with_reducible refine Below.setCell ?_ (by first | exact Nat.le_refl _ | omega | (simp; done) | (simp; omega)) _) | (with_reducible refine Below.alloc ?_ (by first | exact Nat.le_refl _ | omega | (simp; done) | (simp; omega)) _) | with_reducible refine Below.drew ?_ | with_reducible refine bel_drewN ?_ _ | (with_reducible refine bel_by (by with_reducible assumption) (by first | exact Nat.le_refl _ | omega | (simp; done) | (simp; omega)) ?_)))⟩
  case rest =>
    obtain ⟨g, rfl, hg0, hg1, hg2, hbB⟩ := hcut
    clear hcA hfA
    have hbW : Below w.heap.size w wc := (by repeat (first | with_reducible exact Below.refl _ _ | (with_reducible refine Below.setCell ?_ (by first | exact Nat.le_refl _ | omega | (simp; done) | (simp; omega)) _) | (with_reducible refine Below.alloc ?_ (by first | exact Nat.le_refl _ | omega | (simp; done) | (simp; omega)) _) | with_reducible refine Below.drew ?_ | with_reducible refine bel_drewN ?_ _ | (with_reducible refine bel_by (by with_reducible assumption) (by first | exact Nat.le_refl _ | omega | (simp; done) | (simp; omega)) ?_)))
    have HBW := Lib.hid hbW
    obtain ⟨hcB, hfB⟩ := bcell hbB
    have hzB := bsize hbB
    obtain ⟨hcA, hfA⟩ := bcell hbA
    have e0 : wc.cell? ⟨w.heap.size, 0, none⟩ = some (.int .i64 an) := by simp [go_sem, hcB, hcA, k0]
    have e1 : wc.cell? ⟨w.heap.size + 1, 0, none⟩ = some (.int .i64 bn) := by simp [go_sem, hcB, hcA, k1]
    have e2 : wc.cell? ⟨w.heap.size + 1 + 1, 0, none⟩ = some (.int .i64 0) := by simp [go_sem, hcB, hcA, k2]
    have e3 : wc.cell? ⟨w.heap.size + 1 + 1, 1, none⟩ = some (.int .i64 0) := by simp [go_sem, hcB, hcA, k2]
    have e4 : wc.frozen? ⟨w.heap.size + 1 + 1, 0, none⟩ = false := by simp [go_sem, hfB, hfA, k2]
    have e5 : wc.frozen? ⟨w.heap.size + 1 + 1, 1, none⟩ = false := by simp [go_sem, hfB, hfA, k2]
    have k3 : w.heap.size < wc.heap.size := by omega
    have k4 : w.heap.size + 1 < wc.heap.size := by omega
    have k5 : w.heap.size + 1 + 1 < wc.heap.size := by omega
    clear hcA hfA hcB hfB hbW hbA hbB k0 k1 k2 hzA hzB
    go_upto_region 7 with fail
    go_cut [13] (fun s13 wx => ∃ g' : Nat, s13 = .pointer (some ⟨g', 0, none⟩) ∧ wx.cell? ⟨g', 0, none⟩ = some (.int .u64 (hiW D)) ∧ wx.cell? ⟨g', 1, none⟩ = some (.int .u64 (loW D)) ∧ g' < wx.heap.size ∧ Below wc.heap.size wc wx)
    case first =>
      go_region_held3 (fun _ => True) (trivial) (first | (go_at_call 61; refine (P2.out _).mono ?_; rintro e w2 ⟨rfl, hb2⟩; obtain ⟨hc2, hf2⟩ := bcell hb2; have hz2 := bsize hb2; simp at hz2))
      · go_wp2_with fail
        go_meet
        exact ⟨w2.heap.size, rfl, by simp [go_sem], by simp [go_sem], by simp, (by repeat (first | with_reducible exact Below.refl _ _ | (with_reducible refine Below.setCell ?_ (by first | exact Nat.le_refl _ | omega | (simp; done) | (simp; omega)) _) | (with_reducible refine Below.alloc ?_ (by first | exact Nat.le_refl _ | omega | (simp; done) | (simp; omega)) _) | with_reducible refine Below.drew ?_ | with_reducible refine bel_drewN ?_ _ | (with_reducible refine bel_by (by with_reducible assumption) (by first | exact Nat.le_refl _ | omega | (simp; done) | (simp; omega)) ?_)))⟩
      · go_wp2_with fail
        go_meet
        have kA : wc.heap.size < w2.heap.size := by omega
        exact ⟨wc.heap.size, rfl, by simp [go_sem, hc2, hf2], by simp [go_sem, hc2, hf2], by simp; omega, (by repeat (first | with_reducible exact Below.refl _ _ | (with_reducible refine Below.setCell ?_ (by first | exact Nat.le_refl _ | omega | (simp; done) | (simp; omega)) _) | (with_reducible refine Below.alloc ?_ (by first | exact Nat.le_refl _ | omega | (simp; done) | (simp; omega)) _) | with_reducible refine Below.drew ?_ | with_reducible refine bel_drewN ?_ _ | (with_reducible refine bel_by (by with_reducible assumption) (by first | exact Nat.le_refl _ | omega | (simp; done) | (simp; omega)) ?_)))⟩
    case rest =>
      rename_i wc1 hcut1
      obtain ⟨g', rfl, hg0', hg1', hg2', hbB⟩ := hcut
      obtain ⟨hcB, hfB⟩ := bcell hbB
      have hzB := bsize hbB
      go_wp2_with fail
      refine (HN.out _).mono ?_
      rintro e w2 ⟨rfl, hb2⟩
      obtain ⟨hc2, hf2⟩ := bcell hb2
      have hz2 := bsize hb2
      have k6 : w.heap.size + 1 + 1 < wc.heap.size := by omega
      go_wp2
      have hbW := HBW.out
      refine bodyPost_ret (v := fracE t) (by simp [results, Try.results32, go_sem, hc2, hf2, hcB, hfB, k5, k6, e2, e3, e4, e5]) rfl ⟨rfl, (by repeat (first | with_reducible exact Below.refl _ _ | (with_reducible refine Below.setCell ?_ (by first | exact Nat.le_refl _ | omega | (simp; done) | (simp; omega)) _) | (with_reducible refine Below.alloc ?_ (by first | exact Nat.le_refl _ | omega | (simp; done) | (simp; omega)) _) | with_reducible refine Below.drew ?_ | with_reducible refine bel_drewN ?_ _ | (with_reducible refine bel_by (by with_reducible assumption) (by first | exact Nat.le_refl _ | omega | (simp; done) | (simp; omega)) ?_)))⟩

/-- fraction.Mul -/
theorem mul_any (an ad bn bd : Int) (W1 : Wf64 (an, ad)) (W2 : Wf64 (bn, bd)) (w : World) :
    Calls Try.prog 32 #[.agg #[.int .i64 an, .int .i64 ad], .agg #[.int .i64 bn, .int .i64 bd]] w fun e w' => e = .returned (fracE (mulS an ad bn bd)) ∧ Below w.heap.size w w' := by
  unfold mulS
  by_cases hv : (vldI an ad && vldI bn bd) = true
  · rw [if_pos hv]; exact mul_yes an ad bn bd W1 W2 hv w
  · rw [if_neg hv]; exact mul_no an ad bn bd W1 W2 (by simpa using hv) w
end Go.Proofs.Ytbjmibaepccbeaa
