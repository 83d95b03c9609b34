/- Plain facts: valid graphs; rising lists, one element after the other; lists taken element by element. -/
import Derived.Test.YtpcdbnlljdfogaaDul
set_option linter.unusedSimpArgs false
set_option linter.unusedVariables false
namespace Go.Proofs.Ytpcdbnlljdfogaa

def outC (x : Int) : Bool := decide (x < 0) || decide (x > 1000)
def dangl (nL nR : Nat) (e : Int × Int) : Bool := !(decide (0 ≤ e.1) && decide (e.1 < (nL : Int))) || !(decide (0 ≤ e.2) && decide (e.2 < (nR : Int)))
/-- the first error of a graph -/
def chkG (L R : List Int) (E : List (Int × Int)) : Int :=
  if 64 < L.length ∨ 64 < R.length ∨ 1024 < E.length then 6
  else if (L.any outC || R.any outC) = true then 5
  else if E.any (dangl L.length R.length) = true then 5
  else if E.Nodup then 0 else 4
theorem chk_ok {L R : List Int} {E : List (Int × Int)} (h : chkG L R E = 0) : L.length ≤ 64 ∧ R.length ≤ 64 ∧ E.length ≤ 1024 ∧ (∀ x ∈ L, 0 ≤ x ∧ x ≤ 1000) ∧ (∀ x ∈ R, 0 ≤ x ∧ x ≤ 1000) ∧ (∀ e ∈ E, 0 ≤ e.1 ∧ e.1 < (L.length : Int) ∧ 0 ≤ e.2 ∧ e.2 < (R.length : Int)) ∧ E.Nodup := by
  unfold chkG at h
  split at h
  · exact absurd h (by decide)
  · rename_i h1
    split at h
    · exact absurd h (by decide)
    · rename_i h2
      split at h
      · exact absurd h (by decide)
      · rename_i h3
        split at h
        · rename_i h4
          simp only [not_or] at h1
          rw [Bool.not_eq_true, Bool.or_eq_false_iff] at h2
          have hc : ∀ (K : List Int), K.any outC = false → ∀ x ∈ K, 0 ≤ x ∧ x ≤ 1000 := by
            intro K hK x hx
            have := List.any_eq_false.1 hK x hx
            unfold outC at this
            simp at this
            omega
          refine ⟨by omega, by omega, by omega, hc L h2.1, hc R h2.2, fun e he => ?_, h4⟩
          have h3 : E.any (dangl L.length R.length) = false := by simpa using h3
          have := List.any_eq_false.1 h3 e he
          unfold dangl at this
          simp at this
          omega
        · exact absurd h (by decide)
theorem rises_snoc {n : Nat} {A : List Int} {x : Int} : Rises n (A ++ [x]) ↔ Rises n A ∧ (0 ≤ x ∧ x < (n : Int)) ∧ (∀ y, A.getLast? = some y → y < x) := by
  unfold Rises
  rw [List.pairwise_append]
  constructor
  · rintro ⟨h1, h2, _, h3⟩
    refine ⟨⟨fun y hy => h1 y (by simp [hy]), h2⟩, h1 x (by simp), fun y hy => h3 y (List.mem_of_getLast? hy) x (by simp)⟩
  · rintro ⟨⟨h1, h2⟩, h3, h4⟩
    refine ⟨fun y hy => ?_, h2, by simp, fun a ha b hb => ?_⟩
    · rw [List.mem_append, List.mem_singleton] at hy
      rcases hy with hy | rfl
      · exact h1 y hy
      · exact h3
    · obtain rfl : b = x := by simpa using hb
      cases hl : A.getLast? with
      | none => rw [List.getLast?_eq_none_iff] at hl; subst hl; simp at ha
      | some y =>
        have hyx := h4 y hl
        obtain ⟨B, rfl⟩ : ∃ B, A = B ++ [y] := by
          rw [List.getLast?_eq_some_iff] at hl
          exact hl
        rw [List.mem_append, List.mem_singleton] at ha
        rcases ha with ha | rfl
        · have := (List.pairwise_append.1 h2).2.2 a ha y (by simp)
          omega
        · exact hyx
theorem rises_pre {n : Nat} {L : List Int} {k : Nat} (h : ¬ Rises n (L.take k)) : ¬ Rises n L := fun hr =>
  h ⟨fun x hx => hr.1 x (List.mem_of_mem_take hx), hr.2.sublist (List.take_sublist k L)⟩
theorem last_take {L : List Int} {k : Nat} (h : k < L.length) : (L.take (k + 1)).getLast? = some (L[k]'h) := by
  rw [List.take_succ_eq_append_getElem h, List.getLast?_append]
  simp
theorem rises_zero {n : Nat} {L : List Int} (h : 0 < L.length) : Rises n (L.take 1) ↔ (0 ≤ L[0]'h ∧ L[0]'h < (n : Int)) := by
  rw [List.take_succ_eq_append_getElem h, rises_snoc]
  simp [Rises]
theorem rises_succ {n : Nat} {L : List Int} {k : Nat} (h : k + 1 < L.length) : Rises n (L.take (k + 1 + 1)) ↔ Rises n (L.take (k + 1)) ∧ (0 ≤ L[k + 1]'h ∧ L[k + 1]'h < (n : Int)) ∧ L[k]'(by omega) < L[k + 1]'h := by
  rw [List.take_succ_eq_append_getElem h, rises_snoc, last_take (by omega)]
  simp
theorem any_take {α : Type} {p : α → Bool} {L : List α} {k : Nat} (h : k < L.length) : (L.take (k + 1)).any p = ((L.take k).any p || p (L[k]'h)) := by
  rw [List.take_succ_eq_append_getElem h, List.any_append]
  simp
theorem any_hit {α : Type} {p : α → Bool} {L : List α} {k : Nat} (h : k < L.length) (hp : p (L[k]'h) = true) : L.any p = true := List.any_eq_true.2 ⟨_, List.getElem_mem h, hp⟩
theorem nodup_take {α : Type} {L : List α} {k : Nat} (h : k < L.length) : (L.take (k + 1)).Nodup ↔ (L.take k).Nodup ∧ L[k]'h ∉ L.take k := by
  rw [List.take_succ_eq_append_getElem h, List.nodup_append]
  simp only [List.nodup_cons, List.not_mem_nil, not_false_eq_true, List.nodup_nil, and_self, true_and, List.mem_singleton, forall_eq]
  constructor
  · rintro ⟨h1, h2⟩
    exact ⟨h1, fun hm => h2 _ hm rfl⟩
  · rintro ⟨h1, h2⟩
    exact ⟨h1, fun a ha e => h2 (e ▸ ha)⟩
theorem nodup_pre {α : Type} {L : List α} {k : Nat} (h : ¬ (L.take k).Nodup) : ¬ L.Nodup := fun hn => h (hn.sublist (List.take_sublist k L))
/-- what the edges, one behind the other, leave of the capacities -/
def leaves : List Int → List Int → List (Int × Int) → Option (List Int × List Int)
  | l, r, [] => some (l, r)
  | l, r, e :: es => if atI l e.1 = 0 ∨ atI r e.2 = 0 then none else leaves (l.set e.1.toNat (atI l e.1 - 1)) (r.set e.2.toNat (atI r e.2 - 1)) es
theorem takes_leaves : ∀ (es : List (Int × Int)) (l r : List Int), takes l r es = (leaves l r es).isSome
  | [], _, _ => rfl
  | e :: es, l, r => by
    rw [takes, leaves]
    split
    · rfl
    · exact takes_leaves es _ _
theorem leaves_snoc : ∀ (es : List (Int × Int)) (l r : List Int) (e : Int × Int), leaves l r (es ++ [e]) = (leaves l r es).bind fun p => if atI p.1 e.1 = 0 ∨ atI p.2 e.2 = 0 then none else some (p.1.set e.1.toNat (atI p.1 e.1 - 1), p.2.set e.2.toNat (atI p.2 e.2 - 1))
  | [], l, r, e => by simp [leaves]
  | d :: es, l, r, e => by
    simp only [List.cons_append, leaves]
    split
    · rfl
    · exact leaves_snoc es _ _ e
theorem leaves_none : ∀ (es fs : List (Int × Int)) (l r : List Int), leaves l r es = none → leaves l r (es ++ fs) = none
  | [], _, _, _, h => by simp [leaves] at h
  | e :: es, fs, l, r, h => by
    simp only [List.cons_append, leaves] at h ⊢
    split
    · rfl
    · rename_i hz
      rw [if_neg hz] at h
      exact leaves_none es fs _ _ h
theorem leaves_len : ∀ (es : List (Int × Int)) (l r : List Int) (p : List Int × List Int), leaves l r es = some p → p.1.length = l.length ∧ p.2.length = r.length
  | [], l, r, p, h => by simp [leaves] at h; subst h; exact ⟨rfl, rfl⟩
  | e :: es, l, r, p, h => by
    simp only [leaves] at h
    split at h
    · exact absurd h (by simp)
    · have := leaves_len es _ _ p h
      simpa using this
theorem leaves_range : ∀ (es : List (Int × Int)) (l r : List Int) (p : List Int × List Int), leaves l r es = some p → (∀ x ∈ l, 0 ≤ x ∧ x ≤ 1000) → (∀ x ∈ r, 0 ≤ x ∧ x ≤ 1000) → (∀ x ∈ p.1, 0 ≤ x ∧ x ≤ 1000) ∧ (∀ x ∈ p.2, 0 ≤ x ∧ x ≤ 1000)
  | [], l, r, p, h, h1, h2 => by simp [leaves] at h; subst h; exact ⟨h1, h2⟩
  | e :: es, l, r, p, h, h1, h2 => by
    simp only [leaves] at h
    split at h
    · exact absurd h (by simp)
    · rename_i hz
      simp only [not_or] at hz
      have key : ∀ (l : List Int) (i : Int), atI l i ≠ 0 → (∀ x ∈ l, 0 ≤ x ∧ x ≤ 1000) → ∀ x ∈ l.set i.toNat (atI l i - 1), 0 ≤ x ∧ x ≤ 1000 := by
        intro l i hi hl x hx
        rcases List.mem_or_eq_of_mem_set hx with hx | rfl
        · exact hl x hx
        · unfold atI at hi ⊢
          rw [List.getD_eq_getElem?_getD] at hi ⊢
          cases hg : l[i.toNat]? with
          | none => rw [hg] at hi; exact absurd rfl hi
          | some v =>
            rw [hg] at hi
            have := hl v (List.mem_of_getElem? hg)
            simp at hi ⊢
            omega
      exact leaves_range es _ _ p h (key l e.1 hz.1 h1) (key r e.2 hz.2 h2)
end Go.Proofs.Ytpcdbnlljdfogaa
