/- Plain facts: the order of fractions is total; rows of fractions. -/
import Derived.Test.YtogdkgcgckdehaaGreatCmpP
import Derived.Test.YtogdkgcgckdehaaGreatCmp
set_option linter.unusedSimpArgs false
set_option linter.unusedVariables false
namespace Go.Proofs.YtogdkgcgckdehaaGreat
open Go.RowKit

def cmpF (a b : Int × Int) : Int := cmpS a.1 a.2 b.1 b.2
theorem ordI_le (x y : Int) : ordI x y ≤ 0 ↔ x ≤ y := by unfold ordI; split <;> (try split) <;> omega
theorem ordI_turn (x y : Int) : ordI x y = - ordI y x := by unfold ordI; split <;> (try split) <;> (try split) <;> (try split) <;> omega
theorem ordI_three (x y : Int) : ordI x y = -1 ∨ ordI x y = 0 ∨ ordI x y = 1 := by unfold ordI; split <;> (try split) <;> omega
theorem tot_cmpF : Tot cmpF := by
  refine ⟨fun a b => ?_, fun a b => ?_, fun a b c => ?_⟩
  · unfold cmpF cmpS
    split <;> split
    · exact ordI_three _ _
    all_goals omega
  · unfold cmpF cmpS
    split <;> split
    · unfold cmpV; exact ordI_turn _ _
    all_goals omega
  · unfold cmpF cmpS
    intro h1 h2
    by_cases va : vldI a.1 a.2 = true
    · rw [if_pos va] at h1 ⊢
      by_cases vb : vldI b.1 b.2 = true
      · rw [if_pos vb] at h1 h2
        by_cases vc : vldI c.1 c.2 = true
        · rw [if_pos vc] at h2 ⊢
          unfold cmpV at *
          rw [ordI_le] at *
          obtain ⟨a1, _⟩ := vldI_out va
          obtain ⟨b1, _⟩ := vldI_out vb
          obtain ⟨c1, _⟩ := vldI_out vc
          have e1 : a.1 * b.2 * c.2 ≤ b.1 * a.2 * c.2 := Int.mul_le_mul_of_nonneg_right h1 (by omega)
          have e2 : b.1 * c.2 * a.2 ≤ c.1 * b.2 * a.2 := Int.mul_le_mul_of_nonneg_right h2 (by omega)
          have f1 : b.1 * a.2 * c.2 = b.1 * c.2 * a.2 := Int.mul_right_comm _ _ _
          have f2 : a.1 * b.2 * c.2 = a.1 * c.2 * b.2 := Int.mul_right_comm _ _ _
          have f3 : c.1 * b.2 * a.2 = c.1 * a.2 * b.2 := Int.mul_right_comm _ _ _
          exact Int.le_of_mul_le_mul_right (by omega : a.1 * c.2 * b.2 ≤ c.1 * a.2 * b.2) (by omega)
        · rw [if_neg vc] at h2; omega
      · rw [if_neg vb] at h1; omega
    · rw [if_neg va] at h1 ⊢
      split <;> omega
/-- the first criterion that decides -/
def rowC : List (Int × Int) → List (Int × Int) → Int
  | a :: xs, b :: ys => if cmpF a b = 0 then rowC xs ys else cmpF a b
  | _, _ => 0
/-- with how many criteria two rows begin that do not decide -/
def rowN : List (Int × Int) → List (Int × Int) → Nat
  | a :: xs, b :: ys => if cmpF a b = 0 then rowN xs ys + 1 else 0
  | _, _ => 0
def rowI (a b : List (Int × Int)) : Int := if rowC a b = 0 then -1 else (rowN a b : Int)
theorem rowC_lex : ∀ (a b : List (Int × Int)), a.length = b.length → rowC a b = lexC cmpF a b
  | [], [], _ => rfl
  | [], _ :: _, h => by simp at h
  | _ :: _, [], h => by simp at h
  | a :: xs, b :: ys, h => by
    unfold rowC lexC
    rw [rowC_lex xs ys (by simpa using h)]
theorem rowN_le : ∀ (a b : List (Int × Int)), rowN a b ≤ a.length ∧ rowN a b ≤ b.length
  | [], b => by cases b <;> simp [rowN]
  | _ :: _, [] => by simp [rowN]
  | a :: xs, b :: ys => by
    unfold rowN
    have := rowN_le xs ys
    split <;> simp <;> omega
theorem rowC_drop : ∀ (a b : List (Int × Int)) (k : Nat) (h1 : k < a.length) (h2 : k < b.length), (∀ (j : Nat) (hj1 : j < a.length) (hj2 : j < b.length), j < k → cmpF (a[j]'hj1) (b[j]'hj2) = 0) →
    cmpF (a[k]'h1) (b[k]'h2) ≠ 0 → rowC a b = cmpF (a[k]'h1) (b[k]'h2) ∧ rowN a b = k
  | [], _, k, h1, _, _, _ => by simp at h1
  | _ :: _, [], k, _, h2, _, _ => by simp at h2
  | a :: xs, b :: ys, 0, _, _, _, hn => by
    simp only [List.getElem_cons_zero] at hn ⊢
    unfold rowC rowN
    rw [if_neg hn, if_neg hn]
    exact ⟨rfl, rfl⟩
  | a :: xs, b :: ys, k + 1, h1, h2, h, hn => by
    have h0 := h 0 (by simp) (by simp) (by omega)
    simp only [List.getElem_cons_zero] at h0
    simp only [List.getElem_cons_succ] at hn ⊢
    have ih := rowC_drop xs ys k (by simpa using h1) (by simpa using h2) (fun j hj1 hj2 hjk => by
      have := h (j + 1) (by simpa using hj1) (by simpa using hj2) (by omega)
      simpa using this) hn
    unfold rowC rowN
    rw [if_pos h0, if_pos h0]
    exact ⟨ih.1, by rw [ih.2]⟩
theorem rowC_end : ∀ (a b : List (Int × Int)), (∀ (j : Nat) (hj1 : j < a.length) (hj2 : j < b.length), cmpF (a[j]'hj1) (b[j]'hj2) = 0) → rowC a b = 0
  | [], b, _ => by cases b <;> simp [rowC]
  | _ :: _, [], _ => by simp [rowC]
  | a :: xs, b :: ys, h => by
    have h0 := h 0 (by simp) (by simp)
    simp only [List.getElem_cons_zero] at h0
    unfold rowC
    rw [if_pos h0]
    exact rowC_end xs ys (fun j hj1 hj2 => by
      have := h (j + 1) (by simpa using hj1) (by simpa using hj2)
      simpa using this)
theorem rowC_turn : ∀ (a b : List (Int × Int)), rowC a b = - rowC b a
  | [], b => by cases b <;> simp [rowC]
  | _ :: _, [] => by simp [rowC]
  | a :: xs, b :: ys => by
    unfold rowC
    have h := tot_cmpF.turn a b
    rw [rowC_turn xs ys]
    split <;> split <;> omega
theorem rowN_comm : ∀ (a b : List (Int × Int)), rowN a b = rowN b a
  | [], b => by cases b <;> simp [rowN]
  | _ :: _, [] => by simp [rowN]
  | a :: xs, b :: ys => by
    unfold rowN
    have h := tot_cmpF.turn a b
    rw [rowN_comm xs ys]
    split <;> split <;> first | rfl | omega
theorem rowC_three (a b : List (Int × Int)) : rowC a b = -1 ∨ rowC a b = 0 ∨ rowC a b = 1 := by
  induction a generalizing b with
  | nil => cases b <;> simp [rowC]
  | cons a xs ih =>
    cases b with
    | nil => simp [rowC]
    | cons b ys =>
      unfold rowC
      split
      · exact ih ys
      · exact tot_cmpF.three a b
end Go.Proofs.YtogdkgcgckdehaaGreat
