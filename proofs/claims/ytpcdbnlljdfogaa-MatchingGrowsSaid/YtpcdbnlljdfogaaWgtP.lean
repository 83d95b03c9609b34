/- Plain facts: the weight of a cover, one element after the other; slices.Contains. -/
import Derived.Test.YtpcdbnlljdfogaaIs
set_option linter.unusedSimpArgs false
set_option linter.unusedVariables false
namespace Go.Proofs.Ytpcdbnlljdfogaa
open Go.RowKit

theorem sumA_take {l A : List Int} {k : Nat} (hk : k < A.length) : sumA l (A.take (k + 1)) = sumA l (A.take k) + atI l (A[k]'hk) := by
  unfold sumA
  rw [List.take_succ_eq_append_getElem hk, List.map_append, List.sum_append, List.map_cons, List.map_nil, List.sum_cons, List.sum_nil, Int.add_zero]
theorem sumA_le {l : List Int} (h : ∀ x ∈ l, 0 ≤ x ∧ x ≤ 1000) : ∀ (A : List Int), 0 ≤ sumA l A ∧ sumA l A ≤ 1000 * (A.length : Int)
  | [] => by simp [sumA]
  | a :: A => by
    have ih := sumA_le h A
    unfold sumA at ih ⊢
    simp only [List.map_cons, List.sum_cons, List.length_cons]
    have : 0 ≤ atI l a ∧ atI l a ≤ 1000 := by
      unfold atI
      rw [List.getD_eq_getElem?_getD]
      cases hg : l[a.toNat]? with
      | none => simp
      | some v => exact h v (List.mem_of_getElem? hg)
    omega
theorem cntO_take {A B : List Int} {E : List (Int × Int)} {k : Nat} (hk : k < E.length) : cntO A B (E.take (k + 1)) = cntO A B (E.take k) + (if outB A B (E[k]'hk) = true then 1 else 0) := by
  unfold cntO
  rw [List.take_succ_eq_append_getElem hk, List.filter_append, List.length_append]
  congr 1
  by_cases h : outB A B (E[k]'hk) = true
  · simp [h]
  · simp [h]
theorem cntO_le {A B : List Int} {E : List (Int × Int)} (k : Nat) : cntO A B (E.take k) ≤ k := by
  unfold cntO
  exact Nat.le_trans (List.length_filter_le _ _) (by rw [List.length_take]; exact Nat.min_le_left _ _)
theorem rises_bound : ∀ (n : Nat) (L : List Int) (lo : Int), 0 ≤ lo → (∀ x ∈ L, lo ≤ x ∧ x < (n : Int)) → L.Pairwise (· < ·) → lo + (L.length : Int) ≤ (n : Int) ∨ L = []
  | _, [], _, _, _, _ => .inr rfl
  | n, a :: L, lo, h0, h1, h2 => by
    left
    have ha := h1 a (by simp)
    rw [List.pairwise_cons] at h2
    have := rises_bound n L (a + 1) (by omega) (fun x hx => ⟨by have := h2.1 x hx; omega, (h1 x (by simp [hx])).2⟩) h2.2
    rcases this with h | rfl
    · rw [List.length_cons]; omega
    · simp; omega
theorem rises_len {n : Nat} {L : List Int} (h : Rises n L) : L.length ≤ n := by
  rcases rises_bound n L 0 (Int.le_refl 0) (fun x hx => h.1 x hx) h.2 with h | rfl
  · omega
  · simp
theorem has_any {a : Option Addr} {b off len cap : Nat} {L : List Int} {w : World} (h : SlI w a b off len cap L) (x : Int) :
    Calls Try.prog 42 #[.slice a len cap, .int .i64 x] w fun e w' => e = .returned (.bool (L.contains x)) ∧ w = w' := by
  have hm := h.hmax
  have hc := h.hcap
  unfold maxLen at hm
  cases len with
  | zero =>
    obtain rfl : L = [] := List.eq_nil_of_length_eq_zero h.hl
    refine (Try.slices_Contains_int_empty a cap x w).mono ?_
    rintro e w1 ⟨rfl, rfl⟩
    exact ⟨rfl, rfl⟩
  | succ n =>
    obtain rfl := h.ha (by omega)
    refine (Try.slices_Contains_int b off (n + 1) cap L x w (by rw [h.hl]; exact Nat.le_refl _) (by omega) (fun j hj => ?_)).mono ?_
    · rw [h.cell j hj]
      simp [hj]
    · rintro e w1 ⟨rfl, rfl⟩
      rw [List.take_of_length_le (by rw [h.hl]; exact Nat.le_refl _)]
      exact ⟨rfl, rfl⟩
/-- a cover as an argument -/
structure Cvr where
  A : List Int
  B : List Int
  aA : Option Addr
  bA : Nat
  oA : Nat
  cA : Nat
  aB : Option Addr
  bB : Nat
  oB : Nat
  cB : Nat
def Cvr.val (c : Cvr) : Value := .agg #[.slice c.aA c.A.length c.cA, .slice c.aB c.B.length c.cB]
structure CvAt (w : World) (c : Cvr) : Prop where
  a : SlI w c.aA c.bA c.oA c.A.length c.cA c.A
  b : SlI w c.aB c.bB c.oB c.B.length c.cB c.B
theorem CvAt.keep {w w' : World} {c : Cvr} (h : CvAt w c) (hB : Below w.heap.size w w') : CvAt w' c := ⟨h.a.keep hB, h.b.keep hB⟩
structure CbAt (w : World) (b : Nat) (c : Cvr) : Prop where
  c0 : w.cell? ⟨b, 0, none⟩ = some (.slice c.aA c.A.length c.cA)
  c1 : w.cell? ⟨b, 1, none⟩ = some (.slice c.aB c.B.length c.cB)
  lt : b < w.heap.size
theorem CbAt.keep {w w' : World} {b : Nat} {c : Cvr} (h : CbAt w b c) (hb : Below w.heap.size w w') : CbAt w' b c :=
  ⟨(hb.cell (p := ⟨b, 0, none⟩) h.lt).trans h.c0, (hb.cell (p := ⟨b, 1, none⟩) h.lt).trans h.c1, Nat.lt_of_lt_of_le h.lt hb.size⟩
theorem cb_new (w : World) (c : Cvr) (T : TypeId) : CbAt (w.alloc (.cells #[.slice c.aA c.A.length c.cA, .slice c.aB c.B.length c.cB] T)) w.heap.size c := by
  refine ⟨?_, ?_, ?_⟩
  all_goals simp [go_sem]
end Go.Proofs.Ytpcdbnlljdfogaa
