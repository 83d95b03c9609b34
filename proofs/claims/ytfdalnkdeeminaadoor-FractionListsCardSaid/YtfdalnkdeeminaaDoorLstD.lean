/- The sum of a list does not depend on its order: plain facts. A slice that was appended to is a slice of fractions. -/
import Derived.Test.YtfdalnkdeeminaaDoorLstC
import Derived.OwnWalk
set_option linter.unusedSimpArgs false
set_option linter.unusedVariables false
namespace Go.Proofs.YtfdalnkdeeminaaDoor
open Go.RowKit

/-- the sum of fractions as rational numbers -/
def ratS : List (Int × Int) → Rat
  | [] => 0
  | x :: xs => Fr.toR x.1 x.2 + ratS xs
theorem ratS_append (xs ys : List (Int × Int)) : ratS (xs ++ ys) = ratS xs + ratS ys := by
  induction xs with
  | nil => show ratS ys = 0 + ratS ys; rw [Rat.zero_add]
  | cons x xs ih => show Fr.toR x.1 x.2 + ratS (xs ++ ys) = Fr.toR x.1 x.2 + ratS xs + ratS ys; rw [ih, Rat.add_assoc]
theorem ratS_reverse (xs : List (Int × Int)) : ratS xs.reverse = ratS xs := by
  induction xs with
  | nil => rfl
  | cons x xs ih =>
    rw [List.reverse_cons, ratS_append, ih]
    show ratS xs + (Fr.toR x.1 x.2 + 0) = Fr.toR x.1 x.2 + ratS xs
    rw [Rat.add_zero, Rat.add_comm]
theorem sumF_val (xs : List (Int × Int)) : ∀ (a : Int × Int), vldI a.1 a.2 = true → allV xs = true → (sumF a xs).2.2 = 0 → Fr.toR (sumF a xs).1 (sumF a xs).2.1 = Fr.toR a.1 a.2 + ratS xs := by
  induction xs with
  | nil =>
    intro a _ _ _
    show Fr.toR a.1 a.2 = Fr.toR a.1 a.2 + 0
    rw [Rat.add_zero]
  | cons x xs ih =>
    intro a ha hv he
    have hv' : vldI x.1 x.2 = true ∧ allV xs = true := by
      unfold allV at hv ⊢
      simpa using hv
    unfold sumF at he ⊢
    by_cases h : (sumS a.1 a.2 x.1 x.2).2.2 = 0
    · rw [if_pos h] at he ⊢
      rw [ih _ (sumS_ok ha hv'.1 h) hv'.2 he]
      have e : Fr.toR (sumS a.1 a.2 x.1 x.2).1 (sumS a.1 a.2 x.1 x.2).2.1 = Fr.toR a.1 a.2 + Fr.toR x.1 x.2 := by
        rw [sum_q ha hv'.1] at h ⊢
        exact (Fr.addQ_ok h).2
      show Fr.toR (sumS a.1 a.2 x.1 x.2).1 (sumS a.1 a.2 x.1 x.2).2.1 + ratS xs = Fr.toR a.1 a.2 + (Fr.toR x.1 x.2 + ratS xs)
      rw [e, Rat.add_assoc]
    · rw [if_neg h] at he
      exact absurd he h
theorem sumL_rev (xs : List (Int × Int)) (h1 : (sumL xs).2.2 = 0) (h2 : (sumL xs.reverse).2.2 = 0) : (sumL xs.reverse).1 = (sumL xs).1 ∧ (sumL xs.reverse).2.1 = (sumL xs).2.1 := by
  unfold sumL at h1 h2 ⊢
  by_cases hv : allV xs = true
  · have hr : allV xs.reverse = true := by unfold allV at hv ⊢; rw [List.all_reverse]; exact hv
    rw [if_pos hv] at h1 ⊢
    rw [if_pos hr] at h2 ⊢
    have g1 := (sumF_wf xs (0, 1) vld01 hv).2 h1
    have g2 := (sumF_wf xs.reverse (0, 1) vld01 hr).2 h2
    have e1 := sumF_val xs (0, 1) vld01 hv h1
    have e2 := sumF_val xs.reverse (0, 1) vld01 hr h2
    rw [ratS_reverse, ← e1] at e2
    exact Fr.toR_inj (vld_good g2) (vld_good g1) e2
  · rw [if_neg hv] at h1
    simp at h1

/-- the cells of a list of fractions -/
def cellsF2 (xs : List (Int × Int)) : List Value := xs.flatMap fun x => [.int .i64 x.1, .int .i64 x.2]
theorem cellsF2_length (xs : List (Int × Int)) : (cellsF2 xs).length = xs.length * 2 := by
  induction xs with
  | nil => rfl
  | cons x xs ih => show (cellsF2 xs).length + 1 + 1 = (xs.length + 1) * 2; omega
theorem cellsF2_append (xs ys : List (Int × Int)) : cellsF2 (xs ++ ys) = cellsF2 xs ++ cellsF2 ys := by unfold cellsF2; rw [List.flatMap_append]
theorem cellsF2_get (xs : List (Int × Int)) : ∀ (k : Nat) (h : k < xs.length), (cellsF2 xs)[k * 2]? = some (.int .i64 (xs[k]'h).1) ∧ (cellsF2 xs)[k * 2 + 1]? = some (.int .i64 (xs[k]'h).2) := by
  induction xs with
  | nil => intro k h; exact absurd h (Nat.not_lt_zero _)
  | cons x xs ih =>
    intro k h
    cases k with
    | zero => exact ⟨rfl, rfl⟩
    | succ k =>
      obtain ⟨h0, h1⟩ := ih k (by simpa using h)
      have e : cellsF2 (x :: xs) = [.int .i64 x.1, .int .i64 x.2] ++ cellsF2 xs := rfl
      rw [e, show (k + 1) * 2 = k * 2 + 1 + 1 from by omega]
      exact ⟨h0, h1⟩
/-- what was appended to is a slice of fractions -/
theorem slF_of_own {w : World} {base : Nat} {v : Value} {n : Nat} {xs : List (Int × Int)} (hn : xs.length = n) (h : w.ownsRow base 23 2 v n (cellsF2 xs)) (hw : ∀ x ∈ xs, Wf64 x) :
    ∃ (a : Option Addr) (b cap : Nat), v = .slice a n cap ∧ SlF w a b 0 n cap xs := by
  have hcells := fun (g : Nat) (hg : v.ownBlock = some g) => h.cells hg
  rcases h.2 with ⟨rfl, h0⟩ | ⟨g, cap, cur, rfl, hb, hg, hl, hm, hs, ht⟩
  · subst h0
    exact ⟨none, 0, 0, rfl, hn, fun h => absurd h (by omega), fun h => absurd h (by omega), Nat.le_refl _, by decide, fun k hk => absurd hk (by omega), hw⟩
  · refine ⟨some ⟨g, 0, none⟩, g, cap, rfl, hn, fun _ => rfl, fun _ => (Array.getElem?_eq_some_iff.1 hg).1, hl, hm, fun k hk => ?_, hw⟩
    obtain ⟨c0, c1⟩ := cellsF2_get xs k hk
    have d0 := hcells g rfl _ _ c0
    have d1 := hcells g rfl _ _ c1
    have e : ∀ j : Nat, (⟨g, 0, none⟩ : Addr).add j = ⟨g, j, none⟩ := by intro j; unfold Addr.add; split <;> simp_all
    rw [e] at d0 d1
    rw [Nat.zero_add]
    exact ⟨d0, d1⟩
end Go.Proofs.YtfdalnkdeeminaaDoor
