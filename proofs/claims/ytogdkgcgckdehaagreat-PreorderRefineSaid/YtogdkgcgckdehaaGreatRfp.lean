/- Plain facts of refined places: by the places of one matrix, then by the rows of another one, are the places of both behind one another. -/
import Derived.Test.YtogdkgcgckdehaaGreatRfn
set_option linter.unusedSimpArgs false
set_option linter.unusedVariables false
namespace Go.Proofs.YtogdkgcgckdehaaGreat
open Go.RowKit Go.Sort

theorem countP_less {α : Type} {p q : α → Bool} : ∀ {L : List α}, (∀ x ∈ L, p x = true → q x = true) → (∃ x ∈ L, q x = true ∧ p x = false) → L.countP p < L.countP q
  | [], _, h => by obtain ⟨x, hx, _⟩ := h; simp at hx
  | z :: t, h, hex => by
    have hm : t.countP p ≤ t.countP q := List.countP_mono_left fun x hx => h x (by simp [hx])
    rw [List.countP_cons, List.countP_cons]
    obtain ⟨x, hx, hq, hp⟩ := hex
    rcases List.mem_cons.1 hx with rfl | hx
    · rw [hq, hp]; simp; omega
    · have ih := countP_less (L := t) (fun x hx => h x (by simp [hx])) ⟨x, hx, hq, hp⟩
      have hz := h z (by simp)
      cases hpz : p z
      · cases q z <;> simp <;> omega
      · rw [hz hpz]; simp; omega
/-- rows one behind the other: the first parts decide, then the second ones -/
theorem rowC_app : ∀ (a a' b b' : List (Int × Int)), a.length = a'.length → rowC (a ++ b) (a' ++ b') = if rowC a a' = 0 then rowC b b' else rowC a a'
  | [], [], b, b', _ => by simp [rowC]
  | x :: a, y :: a', b, b', h => by
    have ih := rowC_app a a' b b' (by simpa using h)
    have e1 : ∀ (p q : List (Int × Int)), rowC (x :: p) (y :: q) = if cmpF x y = 0 then rowC p q else cmpF x y := fun p q => by rw [rowC]
    rw [List.cons_append, List.cons_append, e1, e1]
    by_cases hc : cmpF x y = 0
    · rw [if_pos hc, if_pos hc, ih]
    · rw [if_neg hc, if_neg hc, if_neg hc]
  | [], _ :: _, _, _, h => by simp at h
  | _ :: _, [], _, _, h => by simp at h
theorem getD_range (C : List (List (Int × Int))) : (List.range C.length).map (fun i => C.getD i []) = C := by
  apply List.ext_getElem
  · simp
  · intro j h1 h2
    simp [List.getD, h2]
/-- how many rows rank ahead of row i -/
def nAhead (C : List (List (Int × Int))) (i : Nat) : Nat := (List.range C.length).countP fun k => decide (ahC (C.getD k []) (C.getD i []) < 0)
theorem plc_ahead (C : List (List (Int × Int))) : plcL ahC C = (List.range C.length).map fun i => 1 + (nAhead C i : Int) := by
  unfold plcL
  conv => lhs; arg 2; rw [← getD_range C]
  rw [List.map_map]
  apply List.map_congr_left
  intro i _
  simp only [Function.comp]
  congr 2
  unfold befN nAhead
  conv => lhs; arg 2; rw [← getD_range C]
  rw [List.countP_map]
  rfl
theorem plc_rows {C : List (List (Int × Int))} {i : Nat} (h : i < C.length) : (plcL ahC C).getD i 0 = 1 + (nAhead C i : Int) := by
  rw [plc_ahead]
  simp [List.getD, h]
theorem ahead_lt {C : List (List (Int × Int))} {m : Nat} (hl : ∀ r ∈ C, r.length = m) {i k : Nat} (hi : i < C.length) (hk : k < C.length) (h : ahC (C.getD k []) (C.getD i []) < 0) : nAhead C k < nAhead C i := by
  have T := tot_ix hl
  refine countP_less (fun j hj h1 => ?_) ⟨k, by simpa using hk, decide_eq_true h, ?_⟩
  · have hj' : j < C.length := by simpa using hj
    rw [decide_eq_true_eq] at h1 ⊢
    exact T.lt_le (x := ⟨j, hj'⟩) (y := ⟨k, hk⟩) (z := ⟨i, hi⟩) h1 (Int.le_of_lt h)
  · rw [decide_eq_false_iff_not]
    have := T.refl ⟨k, hk⟩
    simp only at this
    omega
theorem ahead_eq {C : List (List (Int × Int))} {m : Nat} (hl : ∀ r ∈ C, r.length = m) {i k : Nat} (hi : i < C.length) (hk : k < C.length) (h : ahC (C.getD k []) (C.getD i []) = 0) : nAhead C k = nAhead C i := by
  have T := tot_ix hl
  apply List.countP_congr
  intro j hj
  have hj' : j < C.length := by simpa using hj
  rw [decide_eq_true_eq, decide_eq_true_eq]
  have h' : ahC (C.getD i []) (C.getD k []) = 0 := by
    have := T.turn ⟨i, hi⟩ ⟨k, hk⟩
    simp only at this
    omega
  exact ⟨fun h1 => T.lt_le (x := ⟨j, hj'⟩) (y := ⟨k, hk⟩) (z := ⟨i, hi⟩) h1 (Int.le_of_eq h), fun h1 => T.lt_le (x := ⟨j, hj'⟩) (y := ⟨i, hi⟩) (z := ⟨k, hk⟩) h1 (Int.le_of_eq h')⟩
/-- rows of two matrices, one behind the other -/
def bothC (A B : List (List (Int × Int))) : List (List (Int × Int)) := List.zipWith (· ++ ·) A B
theorem both_len {A B : List (List (Int × Int))} (h : A.length = B.length) : (bothC A B).length = A.length := by
  unfold bothC; rw [List.length_zipWith]; omega
theorem both_getD {A B : List (List (Int × Int))} (h : A.length = B.length) {i : Nat} (hi : i < A.length) : (bothC A B).getD i [] = A.getD i [] ++ B.getD i [] := by
  unfold bothC
  simp [List.getD, List.getElem?_zipWith, hi, show i < B.length by omega]
theorem refine_both {A B : List (List (Int × Int))} {m n : Nat} (hA : ∀ r ∈ A, r.length = m) (hl : A.length = n) (hl' : B.length = n) : plcL (refC (plcL ahC A) B) (List.range n) = plcL ahC (bothC A B) := by
  subst hl
  have hb := both_len (A := A) (B := B) (by omega)
  have T := tot_ix hA
  rw [plc_ahead (bothC A B), hb]
  conv => lhs; unfold plcL
  apply List.map_congr_left
  intro i hi
  have hi' : i < A.length := by simpa using hi
  congr 2
  unfold nAhead befN
  rw [hb]
  apply List.countP_congr
  intro k hk
  have hk' : k < A.length := by simpa using hk
  rw [decide_eq_true_eq, decide_eq_true_eq, both_getD (by omega) hi', both_getD (by omega) hk']
  have hlen : (A.getD i []).length = (A.getD k []).length := by
    simp only [List.getD, List.getElem?_eq_getElem hi', List.getElem?_eq_getElem hk', Option.getD_some]
    rw [hA _ (List.getElem_mem hi'), hA _ (List.getElem_mem hk')]
  have e1 : ahC (A.getD k [] ++ B.getD k []) (A.getD i [] ++ B.getD i []) = if ahC (A.getD k []) (A.getD i []) = 0 then ahC (B.getD k []) (B.getD i []) else ahC (A.getD k []) (A.getD i []) := by
    unfold ahC
    exact rowC_app _ _ _ _ hlen
  rw [e1]
  have e2 : refC (plcL ahC A) B k i = if nAhead A k = nAhead A i then ahC (B.getD k []) (B.getD i []) else cmpI (nAhead A k) (nAhead A i) := by
    unfold refC
    rw [plc_rows hi', plc_rows hk']
    by_cases he : nAhead A k = nAhead A i
    · rw [if_pos (by omega), if_pos he]
    · rw [if_neg (by omega), if_neg he]
      unfold cmpI ordI
      by_cases h1 : (nAhead A k : Int) < (nAhead A i : Int)
      · rw [if_pos (by omega), if_pos h1]
      · rw [if_neg (by omega), if_neg h1, if_neg (by omega), if_neg (by omega)]
  show refC (plcL ahC A) B k i < 0 ↔ _
  rw [e2]
  have hs := ahead_eq hA hi' hk'
  have h1 := ahead_lt hA hi' hk'
  have h2 := ahead_lt hA hk' hi'
  have ht := T.turn ⟨i, hi'⟩ ⟨k, hk'⟩
  simp only at ht
  by_cases hz : ahC (A.getD k []) (A.getD i []) = 0
  · rw [if_pos (hs hz), if_pos hz]
  · rw [if_neg hz]
    rcases Int.lt_or_lt_of_ne hz with hlt | hgt
    · have := h1 hlt
      rw [if_neg (by omega)]
      unfold cmpI ordI
      rw [if_pos (by omega)]
      omega
    · have := h2 (by omega)
      rw [if_neg (by omega)]
      unfold cmpI ordI
      rw [if_neg (by omega), if_neg (by omega)]
      omega
end Go.Proofs.YtogdkgcgckdehaaGreat
