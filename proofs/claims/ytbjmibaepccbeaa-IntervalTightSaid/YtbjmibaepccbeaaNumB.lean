/- Contracts of package fraction, second part: order, power of ten, rounding's tests, normalized and reduced fractions. -/
import Derived.Test.YtbjmibaepccbeaaNum
import Derived.Deep.RegionHeld3
import Derived.StillTailTactics
import Derived.Deep.DeepCutAuto
import Derived.Deep.DeepFit
import Derived.IntWalk
set_option linter.unusedSimpArgs false
set_option linter.unusedVariables false
namespace Go.Proofs.Ytbjmibaepccbeaa
open Go.RowKit

theorem bel_two {w w1 : World} {o p : Obj} (hb : Below ((w.alloc o).alloc p).heap.size ((w.alloc o).alloc p) w1) : Below w.heap.size w w1 :=
  bel_by hb (by simp; omega) (by repeat (first | with_reducible exact Below.refl _ _ | (with_reducible refine Below.setCell ?_ (by first | exact Nat.le_refl _ | omega | (simp; done) | (simp; omega)) _) | (with_reducible refine Below.alloc ?_ (by first | exact Nat.le_refl _ | omega | (simp; done) | (simp; omega)) _) | with_reducible refine Below.drew ?_ | with_reducible refine bel_drewN ?_ _ | (with_reducible refine bel_by (by with_reducible assumption) (by first | exact Nat.le_refl _ | omega | (simp; done) | (simp; omega)) ?_)))

/-- fraction.order -/
theorem order_any (ph pl qh ql : Int) (h1 : 0 ≤ ph) (h1' : ph ≤ 18446744073709551615) (h2 : 0 ≤ pl) (h2' : pl ≤ 18446744073709551615) (h3 : 0 ≤ qh) (h3' : qh ≤ 18446744073709551615) (h4 : 0 ≤ ql) (h4' : ql ≤ 18446744073709551615) (w : World) :
    Calls Try.prog 75 #[.agg #[.int .u64 ph, .int .u64 pl], .agg #[.int .u64 qh, .int .u64 ql]] w fun e w' =>
      e = .returned (.int .i64 (if valW ph pl < valW qh ql then -1 else if valW ph pl = valW qh ql then 0 else 1)) ∧ Below w.heap.size w w' := by
  by_cases he : ph = qh ∧ pl = ql
  · obtain ⟨rfl, rfl⟩ := he
    rw [if_neg (by omega), if_pos rfl]
    go_enter Try.func75, Try.ntmps75
    go_wp2
    go_ret
    exact ⟨rfl, (by repeat (first | with_reducible exact Below.refl _ _ | (with_reducible refine Below.setCell ?_ (by first | exact Nat.le_refl _ | omega | (simp; done) | (simp; omega)) _) | (with_reducible refine Below.alloc ?_ (by first | exact Nat.le_refl _ | omega | (simp; done) | (simp; omega)) _) | with_reducible refine Below.drew ?_ | with_reducible refine bel_drewN ?_ _ | (with_reducible refine bel_by (by with_reducible assumption) (by first | exact Nat.le_refl _ | omega | (simp; done) | (simp; omega)) ?_)))⟩
  · have hne : valW ph pl ≠ valW qh ql := by unfold valW; omega
    rw [if_neg hne]
    have L := pless_any ph pl qh ql h1 h1' h2 h2' h3 h3' h4 h4'
    have hx : (ph == qh) = false ∨ ph = qh ∧ (pl == ql) = false := by
      by_cases h : ph = qh
      · exact .inr ⟨h, by simp; intro hh; exact he ⟨h, hh⟩⟩
      · exact .inl (by simpa using h)
    clear he
    by_cases hl : valW ph pl < valW qh ql
    · rw [if_pos hl]
      have d1 : decide (valW ph pl < valW qh ql) = true := by simpa using hl
      rw [d1] at L
      clear d1 hl hne
      have HL := Lib.hid L
      clear L
      rcases hx with hx | ⟨rfl, hx⟩
      all_goals
        go_enter Try.func75, Try.ntmps75
        go_wp2_with (go_at_call 80; refine (HL.out _).mono ?_; rintro e w' ⟨rfl, hb⟩)
        go_ret
        exact ⟨rfl, bel_two hb⟩
    · rw [if_neg hl]
      have d1 : decide (valW ph pl < valW qh ql) = false := by simpa using hl
      rw [d1] at L
      clear d1 hl hne
      have HL := Lib.hid L
      clear L
      rcases hx with hx | ⟨rfl, hx⟩
      all_goals
        go_enter Try.func75, Try.ntmps75
        go_wp2_with (go_at_call 80; refine (HL.out _).mono ?_; rintro e w' ⟨rfl, hb⟩)
        go_ret
        exact ⟨rfl, bel_two hb⟩

/-- the number of 10^n -/
def pw10 (n : Int) : Int := 10 ^ n.toNat
theorem pw10_succ (k : Int) (h : 0 ≤ k) : pw10 (k + 1) = pw10 k * 10 := by
  unfold pw10; rw [show (k + 1).toNat = k.toNat + 1 from by omega, Int.pow_succ]
theorem pw10_bd (n : Int) (h : n ≤ 18) : 1 ≤ pw10 n ∧ pw10 n ≤ 1000000000000000000 := by
  obtain ⟨k, hk⟩ : ∃ k : Nat, k = n.toNat := ⟨_, rfl⟩
  unfold pw10; rw [← hk]
  have : k ≤ 18 := by omega
  clear hk
  revert this
  revert k
  decide
/-- numerator, denominator and error of what is within the bounds or not -/
def sg (neg : Bool) (v : Int) : Int := if neg then -v else v
def nrm (neg : Bool) (N D : Int) : Int × Int × Int := if N ≤ 1000000000000000000 ∧ D ≤ 1000000000000000000 then (sg neg N, D, 0) else (0, 0, 5)
theorem nrm_ok {neg : Bool} {N D : Int} (h : N ≤ 1000000000000000000 ∧ D ≤ 1000000000000000000) : nrm neg N D = (sg neg N, D, 0) := by unfold nrm; rw [if_pos h]
theorem nrm_bad {neg : Bool} {N D : Int} (h : ¬ (N ≤ 1000000000000000000 ∧ D ≤ 1000000000000000000)) : nrm neg N D = (0, 0, 5) := by unfold nrm; rw [if_neg h]
/-- the value of a pair of results: a fraction and an error -/
abbrev fracE (t : Int × Int × Int) : Value := .tuple #[.agg #[.int .i64 t.1, .int .i64 t.2.1], .int .i64 t.2.2]

set_option maxHeartbeats 800000 in
theorem normalized_yes (neg : Bool) (pl ql : Int) (h2 : 0 ≤ pl) (b1 : pl ≤ 1000000000000000000) (h4 : 0 ≤ ql) (b2 : ql ≤ 1000000000000000000) (w : World) :
    Calls Try.prog 62 #[.bool neg, .agg #[.int .u64 0, .int .u64 pl], .agg #[.int .u64 0, .int .u64 ql]] w fun e w' =>
      e = .returned (fracE (sg neg pl, ql, 0)) ∧ Below w.heap.size w w' := by
  have L1 := fun W => patMost_any 0 pl 1000000000000000000 (by omega) (by omega) h2 (by omega) (by omega) (by omega) W
  have L2 := fun W => patMost_any 0 ql 1000000000000000000 (by omega) (by omega) h4 (by omega) (by omega) (by omega) W
  rw [show decide (valW 0 pl ≤ 1000000000000000000) = true from by unfold valW; simp; omega] at L1
  rw [show decide (valW 0 ql ≤ 1000000000000000000) = true from by unfold valW; simp; omega] at L2
  have M1 := Lib.hid L1
  have M2 := Lib.hid L2
  clear L1 L2
  cases neg
  all_goals
    unfold sg
    go_enter Try.func62, Try.ntmps62
    go_wp2_with fail
    refine (M1.out _).mono ?_
    rintro e w1 ⟨rfl, hb1⟩
    obtain ⟨hc1, hf1⟩ := bcell hb1
    have hz1 := bsize hb1
    simp at hz1
    have k0 : w.heap.size < w1.heap.size := by omega
    have k1 : w.heap.size + 1 < w1.heap.size := by omega
    have k2 : w.heap.size + 1 + 1 < w1.heap.size := by omega
    go_wp2_with fail
    refine (M2.out _).mono ?_
    rintro e w2 ⟨rfl, hb2⟩
    obtain ⟨hc2, hf2⟩ := bcell hb2
    have hz2 := bsize hb2
    go_wp2
    refine bodyPost_ret (v := fracE (_, _, _)) (by simp [results, Try.results62, go_sem, hc1, hc2, hf1, hf2, k0, k1, k2]) rfl ⟨rfl, (by repeat (first | with_reducible exact Below.refl _ _ | (with_reducible refine Below.setCell ?_ (by first | exact Nat.le_refl _ | omega | (simp; done) | (simp; omega)) _) | (with_reducible refine Below.alloc ?_ (by first | exact Nat.le_refl _ | omega | (simp; done) | (simp; omega)) _) | with_reducible refine Below.drew ?_ | with_reducible refine bel_drewN ?_ _ | (with_reducible refine bel_by (by with_reducible assumption) (by first | exact Nat.le_refl _ | omega | (simp; done) | (simp; omega)) ?_)))⟩

set_option maxHeartbeats 800000 in
theorem normalized_no1 (neg : Bool) (ph pl qh ql : Int) (h1 : 0 ≤ ph) (h1' : ph ≤ 18446744073709551615) (h2 : 0 ≤ pl) (h2' : pl ≤ 18446744073709551615)
    (hn : ¬ valW ph pl ≤ 1000000000000000000) (w : World) :
    Calls Try.prog 62 #[.bool neg, .agg #[.int .u64 ph, .int .u64 pl], .agg #[.int .u64 qh, .int .u64 ql]] w fun e w' =>
      e = .returned (fracE (0, 0, 5)) ∧ Below w.heap.size w w' := by
  have L1 := fun W => patMost_any ph pl 1000000000000000000 h1 h1' h2 h2' (by omega) (by omega) W
  rw [show decide (valW ph pl ≤ 1000000000000000000) = false from by simpa using hn] at L1
  have M1 := Lib.hid L1
  clear L1 hn
  go_enter Try.func62, Try.ntmps62
  go_wp2_with fail
  refine (M1.out _).mono ?_
  rintro e w1 ⟨rfl, hb1⟩
  obtain ⟨hc1, hf1⟩ := bcell hb1
  have hz1 := bsize hb1
  simp at hz1
  go_wp2
  refine bodyPost_ret (v := fracE (_, _, _)) (by simp [results, Try.results62, go_sem, hc1, hf1]) rfl ⟨rfl, (by repeat (first | with_reducible exact Below.refl _ _ | (with_reducible refine Below.setCell ?_ (by first | exact Nat.le_refl _ | omega | (simp; done) | (simp; omega)) _) | (with_reducible refine Below.alloc ?_ (by first | exact Nat.le_refl _ | omega | (simp; done) | (simp; omega)) _) | with_reducible refine Below.drew ?_ | with_reducible refine bel_drewN ?_ _ | (with_reducible refine bel_by (by with_reducible assumption) (by first | exact Nat.le_refl _ | omega | (simp; done) | (simp; omega)) ?_)))⟩

set_option maxHeartbeats 800000 in
theorem normalized_no2 (neg : Bool) (ph pl qh ql : Int) (h1 : 0 ≤ ph) (h1' : ph ≤ 18446744073709551615) (h2 : 0 ≤ pl) (h2' : pl ≤ 18446744073709551615) (h3 : 0 ≤ qh) (h3' : qh ≤ 18446744073709551615) (h4 : 0 ≤ ql) (h4' : ql ≤ 18446744073709551615)
    (hy : valW ph pl ≤ 1000000000000000000) (hn : ¬ valW qh ql ≤ 1000000000000000000) (w : World) :
    Calls Try.prog 62 #[.bool neg, .agg #[.int .u64 ph, .int .u64 pl], .agg #[.int .u64 qh, .int .u64 ql]] w fun e w' =>
      e = .returned (fracE (0, 0, 5)) ∧ Below w.heap.size w w' := by
  have L1 := fun W => patMost_any ph pl 1000000000000000000 h1 h1' h2 h2' (by omega) (by omega) W
  have L2 := fun W => patMost_any qh ql 1000000000000000000 h3 h3' h4 h4' (by omega) (by omega) W
  rw [show decide (valW ph pl ≤ 1000000000000000000) = true from by simpa using hy] at L1
  rw [show decide (valW qh ql ≤ 1000000000000000000) = false from by simpa using hn] at L2
  have M1 := Lib.hid L1
  have M2 := Lib.hid L2
  clear L1 L2 hn hy
  go_enter Try.func62, Try.ntmps62
  go_wp2_with fail
  refine (M1.out _).mono ?_
  rintro e w1 ⟨rfl, hb1⟩
  obtain ⟨hc1, hf1⟩ := bcell hb1
  have hz1 := bsize hb1
  simp at hz1
  have k0 : w.heap.size < w1.heap.size := by omega
  have k1 : w.heap.size + 1 < w1.heap.size := by omega
  have k2 : w.heap.size + 1 + 1 < w1.heap.size := by omega
  go_wp2_with fail
  refine (M2.out _).mono ?_
  rintro e w2 ⟨rfl, hb2⟩
  obtain ⟨hc2, hf2⟩ := bcell hb2
  have hz2 := bsize hb2
  go_wp2
  refine bodyPost_ret (v := fracE (_, _, _)) (by simp [results, Try.results62, go_sem, hc1, hc2, hf1, hf2, k0, k1, k2]) rfl ⟨rfl, (by repeat (first | with_reducible exact Below.refl _ _ | (with_reducible refine Below.setCell ?_ (by first | exact Nat.le_refl _ | omega | (simp; done) | (simp; omega)) _) | (with_reducible refine Below.alloc ?_ (by first | exact Nat.le_refl _ | omega | (simp; done) | (simp; omega)) _) | with_reducible refine Below.drew ?_ | with_reducible refine bel_drewN ?_ _ | (with_reducible refine bel_by (by with_reducible assumption) (by first | exact Nat.le_refl _ | omega | (simp; done) | (simp; omega)) ?_)))⟩

/-- fraction.normalized -/
theorem normalized_any (neg : Bool) (ph pl qh ql : Int) (h1 : 0 ≤ ph) (h1' : ph ≤ 18446744073709551615) (h2 : 0 ≤ pl) (h2' : pl ≤ 18446744073709551615) (h3 : 0 ≤ qh) (h3' : qh ≤ 18446744073709551615) (h4 : 0 ≤ ql) (h4' : ql ≤ 18446744073709551615) (w : World) :
    Calls Try.prog 62 #[.bool neg, .agg #[.int .u64 ph, .int .u64 pl], .agg #[.int .u64 qh, .int .u64 ql]] w fun e w' =>
      e = .returned (fracE (nrm neg (valW ph pl) (valW qh ql))) ∧ Below w.heap.size w w' := by
  by_cases a1 : valW ph pl ≤ 1000000000000000000
  · by_cases a2 : valW qh ql ≤ 1000000000000000000
    · have p0 : ph = 0 := by unfold valW at a1; omega
      have q0 : qh = 0 := by unfold valW at a2; omega
      rw [nrm_ok ⟨a1, a2⟩]
      subst p0; subst q0
      have e1 : valW 0 pl = pl := by unfold valW; omega
      have e2 : valW 0 ql = ql := by unfold valW; omega
      rw [e1] at a1 ⊢
      rw [e2] at a2 ⊢
      exact normalized_yes neg pl ql h2 a1 h4 a2 w
    · rw [nrm_bad (fun h => a2 h.2)]
      exact normalized_no2 neg ph pl qh ql h1 h1' h2 h2' h3 h3' h4 h4' a1 a2 w
  · rw [nrm_bad (fun h => a1 h.1)]
    exact normalized_no1 neg ph pl qh ql h1 h1' h2 h2' a1 w
end Go.Proofs.Ytbjmibaepccbeaa
