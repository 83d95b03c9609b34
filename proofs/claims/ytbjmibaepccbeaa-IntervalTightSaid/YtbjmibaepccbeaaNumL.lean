/- Contracts of package fraction, twelfth part: Cmp. -/
import Derived.Test.YtbjmibaepccbeaaNumK
set_option linter.unusedSimpArgs false
set_option linter.unusedVariables false
namespace Go.Proofs.Ytbjmibaepccbeaa
open Go.RowKit

/-- fraction.Cmp -/
def cmpS (an ad bn bd : Int) : Int :=
  if vldI an ad = true then (if vldI bn bd = true then cmpV an ad bn bd else 1) else if vldI bn bd = true then -1 else 0

set_option maxHeartbeats 2000000 in
set_option maxRecDepth 100000 in
theorem cmp_rest (an ad bn bd : Int) (W1 : Wf64 (an, ad)) (W2 : Wf64 (bn, bd)) (h : ¬ (vldI an ad = true ∧ vldI bn bd = true)) (w : World) :
    Calls Try.prog 41 #[.agg #[.int .i64 an, .int .i64 ad], .agg #[.int .i64 bn, .int .i64 bd]] w fun e w' =>
      e = .returned (.int .i64 (if vldI an ad = true then 1 else if vldI bn bd = true then -1 else 0)) ∧ Below w.heap.size w w' := by
  obtain ⟨A1, A2, A3, A4⟩ := W1
  obtain ⟨B1, B2, B3, B4⟩ := W2
  simp only at A1 A2 A3 A4 B1 B2 B3 B4
  have V1 := fun W => valid_any an ad A1 A2 A3 A4 W
  have V2 := fun W => valid_any bn bd B1 B2 B3 B4 W
  clear A1 A2 A3 A4 B1 B2 B3 B4
  generalize vldI an ad = va at *
  generalize vldI bn bd = vb at *
  cases va <;> cases vb
  case true.true => exact absurd ⟨rfl, rfl⟩ h
  all_goals
    clear h
    have HV1 := Lib.hid V1
    have HV2 := Lib.hid V2
    clear V1 V2
    simp only [if_true, if_false, Bool.false_eq_true]
    go_enter Try.func41, Try.ntmps41
    go_wp2_with fail
    go_region_held3 (fun w' => w'.cell? ⟨w.heap.size, 0, none⟩ = some (.int .i64 an) ∧ w'.cell? ⟨w.heap.size, 1, none⟩ = some (.int .i64 ad) ∧ w'.cell? ⟨w.heap.size + 1, 0, none⟩ = some (.int .i64 bn) ∧ w'.cell? ⟨w.heap.size + 1, 1, none⟩ = some (.int .i64 bd))
      ((first | (simp [go_sem]; done) | (simp [go_sem, hc1]; done) | (simp [go_sem, hc2, hc1, k0, k1]; done)))
      (first
        | (go_at_call_of 40 (Value.agg #[.int .i64 an, .int .i64 ad]); refine (HV1.out _).mono ?_; rintro e w1 ⟨rfl, hb1⟩; (try (with_reducible replace hb1 := undrew hb1)); obtain ⟨hc1, hf1⟩ := bcell hb1; have hz1 := bsize hb1; (try simp at hz1); have k0 : w.heap.size < w1.heap.size := (by omega); have k1 : w.heap.size + 1 < w1.heap.size := (by omega))
        | (go_at_call_of 40 (Value.agg #[.int .i64 bn, .int .i64 bd]); refine (HV2.out _).mono ?_; rintro e w2 ⟨rfl, hb2⟩; (try (with_reducible replace hb2 := undrew hb2)); obtain ⟨hc2, hf2⟩ := bcell hb2; have hz2 := bsize hb2; (try simp at hz2)))
    all_goals
      go_wp2
      go_ret
      exact ⟨rfl, (by repeat (first | with_reducible exact Below.refl _ _ | (with_reducible refine Below.setCell ?_ (by first | exact Nat.le_refl _ | omega | (simp; done) | (simp; omega)) _) | (with_reducible refine Below.alloc ?_ (by first | exact Nat.le_refl _ | omega | (simp; done) | (simp; omega)) _) | with_reducible refine Below.drew ?_ | with_reducible refine bel_drewN ?_ _ | (with_reducible refine bel_by (by with_reducible assumption) (by first | exact Nat.le_refl _ | omega | (simp; done) | (simp; omega)) ?_)))⟩

set_option maxHeartbeats 2000000 in
set_option maxRecDepth 100000 in
theorem cmp_both (an ad bn bd : Int) (av : vldI an ad = true) (bv : vldI bn bd = true) (w : World) :
    Calls Try.prog 41 #[.agg #[.int .i64 an, .int .i64 ad], .agg #[.int .i64 bn, .int .i64 bd]] w fun e w' => e = .returned (.int .i64 (cmpV an ad bn bd)) ∧ Below w.heap.size w w' := by
  obtain ⟨a1, a2, a3, a4, _⟩ := vldI_out av
  obtain ⟨b1, b2, b3, b4, _⟩ := vldI_out bv
  have V1 := fun W => valid_any an ad (by omega) (by omega) (by omega) (by omega) W
  have V2 := fun W => valid_any bn bd (by omega) (by omega) (by omega) (by omega) W
  rw [av] at V1
  rw [bv] at V2
  have HV1 := Lib.hid V1
  have HV2 := Lib.hid V2
  have HC := Lib.hid (fun W => compare_any an ad bn bd av bv W)
  clear V1 V2 av bv a1 a2 a3 a4 b1 b2 b3 b4
  generalize cmpV an ad bn bd = c at *
  go_enter Try.func41, Try.ntmps41
  go_wp2_with fail
  go_region_held3 (fun w' => w'.cell? ⟨w.heap.size, 0, none⟩ = some (.int .i64 an) ∧ w'.cell? ⟨w.heap.size, 1, none⟩ = some (.int .i64 ad) ∧ w'.cell? ⟨w.heap.size + 1, 0, none⟩ = some (.int .i64 bn) ∧ w'.cell? ⟨w.heap.size + 1, 1, none⟩ = some (.int .i64 bd))
    ((first | (simp [go_sem]; done) | (simp [go_sem, hc1]; done) | (simp [go_sem, hc2, hc1, k0, k1]; done)))
    (first
      | (go_at_call_of 40 (Value.agg #[.int .i64 an, .int .i64 ad]); refine (HV1.out _).mono ?_; rintro e w1 ⟨rfl, hb1⟩; (try (with_reducible replace hb1 := undrew hb1)); obtain ⟨hc1, hf1⟩ := bcell hb1; have hz1 := bsize hb1; (try simp at hz1); have k0 : w.heap.size < w1.heap.size := (by omega); have k1 : w.heap.size + 1 < w1.heap.size := (by omega))
      | (go_at_call_of 40 (Value.agg #[.int .i64 bn, .int .i64 bd]); refine (HV2.out _).mono ?_; rintro e w2 ⟨rfl, hb2⟩; (try (with_reducible replace hb2 := undrew hb2)); obtain ⟨hc2, hf2⟩ := bcell hb2; have hz2 := bsize hb2; (try simp at hz2); have l0 : w.heap.size < w2.heap.size := (by omega); have l1 : w.heap.size + 1 < w2.heap.size := (by omega)))
  all_goals
    go_wp2_with fail
    refine (HC.out _).mono ?_
    rintro e w3 ⟨rfl, hb3⟩
    have hz3 := bsize hb3
    go_wp2
    go_ret
    exact ⟨rfl, (by repeat (first | with_reducible exact Below.refl _ _ | (with_reducible refine Below.setCell ?_ (by first | exact Nat.le_refl _ | omega | (simp; done) | (simp; omega)) _) | (with_reducible refine Below.alloc ?_ (by first | exact Nat.le_refl _ | omega | (simp; done) | (simp; omega)) _) | with_reducible refine Below.drew ?_ | with_reducible refine bel_drewN ?_ _ | (with_reducible refine bel_by (by with_reducible assumption) (by first | exact Nat.le_refl _ | omega | (simp; done) | (simp; omega)) ?_)))⟩

theorem cmp_any (an ad bn bd : Int) (W1 : Wf64 (an, ad)) (W2 : Wf64 (bn, bd)) (w : World) :
    Calls Try.prog 41 #[.agg #[.int .i64 an, .int .i64 ad], .agg #[.int .i64 bn, .int .i64 bd]] w fun e w' => e = .returned (.int .i64 (cmpS an ad bn bd)) ∧ Below w.heap.size w w' := by
  by_cases h : vldI an ad = true ∧ vldI bn bd = true
  · unfold cmpS
    rw [if_pos h.1, if_pos h.2]
    exact cmp_both an ad bn bd h.1 h.2 w
  · have e : cmpS an ad bn bd = if vldI an ad = true then 1 else if vldI bn bd = true then -1 else 0 := by
      unfold cmpS
      by_cases ha : vldI an ad = true
      · rw [if_pos ha, if_neg (fun hb => h ⟨ha, hb⟩), if_pos ha]
      · rw [if_neg ha, if_neg ha]
    rw [e]
    exact cmp_rest an ad bn bd W1 W2 h w
end Go.Proofs.Ytbjmibaepccbeaa
