/- What settling the review of an item does to its value: plain facts for RecognizeReviews. -/
import Derived.Test.YtlleebgkglbelaaPlf
import Derived.Test.YtlleebgkglbelaaRst
set_option linter.unusedSimpArgs false
set_option linter.unusedVariables false
namespace Go.Proofs.Ytlleebgkglbelaa
open Go.RowKit

theorem wit_val2 {E : List El} (h : WitE E) : ValE E := by
  intro x hx
  obtain ⟨j, hj, rfl⟩ := List.mem_iff_getElem.1 hx
  have := h j hj
  omega
theorem falls_le {C : List El} (h : ∀ (i : Nat) (hi : i + 1 < C.length), (C[i + 1]'hi).n ≤ (C[i]'(Nat.lt_of_succ_lt hi)).n) : ∀ (m i : Nat) (hi : i + m < C.length), (C[i + m]'hi).n ≤ (C[i]'(by omega)).n
  | 0, _, _ => Int.le_refl _
  | m + 1, i, hi => Int.le_trans (h (i + m) hi) (falls_le h m i (by omega))
theorem rit_same {C : List El} {x y : It} (hv : x.v = y.v) (hd : x.d = y.d) (hj : x.j = y.j) (hr : x.r = false) : ritS C x = ⟨(ritS C y).k, (ritS C y).c, (ritS C y).g, (ritS C y).s, (ritS C y).n, false, (ritS C y).j⟩ := by
  have hrs : rsn C x = rsn C y := by unfold rsn; rw [hv, hd]
  unfold ritS
  rw [hrs, hd, hj, hr]
  by_cases h : rsn C y = 0
  · simp only [if_pos h]
  · simp only [if_neg h]
theorem rit_rev {C : List El} {x : It} (hr : x.r = false) : (ritS C x).r = false := by
  rw [rit_same (y := x) rfl rfl rfl hr]
/-- the item after its review -/
theorem rev_item {E : List El} (h : FitE E) (hv : ValE E) (x : It) (hd : 0 ≤ x.d) {st : Int} (hst : 0 ≤ st) (v : Bool) :
    (itemS E (setI x st v)).n ≤ (itemS E x).n ∧ (itemS E (setI x st v)).r = false ∧ (v = true → (itemS E (setI x st v)).k = false) ∧ (st = 0 → v = false → itemS E (setI x st v) = ⟨(itemS E x).k, (itemS E x).c, (itemS E x).g, (itemS E x).s, (itemS E x).n, false, (itemS E x).j⟩) := by
  obtain ⟨n, C, hC, _, hlow⟩ := fit_chain h x.c
  have hf := chF_falls h n x.c C hC
  have e1 : itemS E x = ritS C x := item_eq hlow
  have e2 : itemS E (setI x st v) = ritS C (setI x st v) := item_eq hlow
  have p1 := itemS_val hv x
  rw [e1] at p1
  rw [e1, e2]
  refine ⟨?_, rit_rev rfl, fun hvt => ?_, fun h0 hvf => ?_⟩
  · by_cases h1 : rsn C (setI x st v) = 0
    · obtain ⟨k1, k2, k3⟩ := rsn_zero.1 h1
      obtain ⟨q1, q2, _⟩ := rit_some h1
      simp only [setI] at k1 k2 k3
      have hm : 0 ≤ min st 10 := by omega
      have h2 : rsn C x = 0 := rsn_zero.2 ⟨by cases hxv : x.v <;> simp_all, hd, by omega⟩
      obtain ⟨r1, r2, _⟩ := rit_some h2
      rw [q2, r2]
      have ht : (setI x st v).d.toNat = x.d.toNat + (min st 10).toNat := by simp only [setI]; omega
      simp only [ht] at q1 ⊢
      exact falls_le hf _ _ q1
    · rw [rit_none h1]
      exact p1.1
  · have h1 : rsn C (setI x st v) ≠ 0 := fun h1 => by
      obtain ⟨k1, _, _⟩ := rsn_zero.1 h1
      simp only [setI, hvt, Bool.or_true] at k1
      exact absurd k1 (by simp)
    rw [rit_none h1]
  · subst h0
    subst hvf
    exact rit_same (by simp [setI]) (by simp only [setI]; omega) rfl rfl
theorem item_rev {E : List El} (h : FitE E) (x : It) (hr : x.r = false) : (itemS E x).r = false := by
  obtain ⟨n, C, hC, _, hlow⟩ := fit_chain h x.c
  rw [show itemS E x = ritS C x from item_eq hlow]
  exact rit_rev hr
theorem last_j {L : List It} (h : chkL L = 0) : lastJ L = false := by
  unfold chkL at h
  split at h
  · split at h
    · exact absurd h (by decide)
    · rename_i _ h2
      simpa using h2
  · rename_i h2
    exact absurd h h2
/-- a line stays as legal when only a review is taken away -/
theorem chk_rev {L : List It} (h : chkL L = 0) (i : Nat) (hi : i < L.length) (y : It) (hc : y.c = (L[i]'hi).c) (hd : y.d = (L[i]'hi).d) (hj : y.j = (L[i]'hi).j) : chkL (L.set i y) = 0 := by
  obtain ⟨p1, p2, p3⟩ := chk_parts h
  have p4 := last_j h
  rw [List.any_eq_false] at p2 p3
  have hm := List.getElem_mem hi
  have q2 : (L.set i y).any badC = false := by
    rw [List.any_eq_false]
    intro x hx
    rcases List.mem_or_eq_of_mem_set hx with hx | rfl
    · exact p2 x hx
    · have := p2 _ hm
      unfold badC at this ⊢
      rw [hc]
      exact this
  have q3 : (L.set i y).any badD = false := by
    rw [List.any_eq_false]
    intro x hx
    rcases List.mem_or_eq_of_mem_set hx with hx | rfl
    · exact p3 x hx
    · have := p3 _ hm
      unfold badD at this ⊢
      rw [hd]
      exact this
  have q4 : lastJ (L.set i y) = false := by
    have hl : 0 < L.length := by omega
    rw [lastJ_at hl] at p4
    rw [lastJ_at (by simpa using hl)]
    simp only [List.length_set, List.getElem_set]
    split
    · rename_i hh
      subst hh
      rw [hj]
      exact p4
    · exact p4
  unfold chkL errE
  rw [q2, q3, q4]
  simp [show ¬ 30 < L.length by omega]
theorem rev_none {R : List Rg} (h : ∀ x ∈ R, x.r = false) : ∀ (k : Nat), revL R k = ([], 0)
  | 0 => rfl
  | k + 1 => by
    have ih := rev_none h k
    rw [revL, ih]
    have : (R.getD k Rg.zero).r = false := by
      by_cases hk : k < R.length
      · rw [show R.getD k Rg.zero = R[k]'hk by simp [List.getD, hk]]
        exact h _ (List.getElem_mem hk)
      · rw [show R.getD k Rg.zero = Rg.zero by simp [List.getD, List.getElem?_eq_none (Nat.le_of_not_lt hk)]]
        rfl
    rw [this]
    rfl
/-- what Settle's answer 0 tells -/
theorem set_ok {L : List It} {i st : Int} {v : Bool} (h : (setS L i st v).1 = 0) : chkL L = 0 ∧ ∃ (n : Nat) (hn : n < L.length), i = (n : Int) ∧ 0 ≤ st ∧ (L[n]'hn).r = true ∧ (setS L i st v).2 = L.set n (setI (L[n]'hn) st v) ∧ chkL (L.set n (setI (L[n]'hn) st v)) = 0 := by
  unfold setS at h ⊢
  by_cases h0 : chkL L = 0
  · rw [if_pos h0] at h ⊢
    by_cases h1 : i < 0 ∨ i ≥ (L.length : Int) ∨ st < 0
    · rw [if_pos h1] at h; exact absurd h (by decide)
    · rw [if_neg h1] at h ⊢
      have hn : i.toNat < L.length := by omega
      have hg : L.getD i.toNat It.zero = L[i.toNat]'hn := by simp [List.getD, hn]
      rw [hg] at h ⊢
      by_cases h2 : (L[i.toNat]'hn).r = false
      · rw [if_pos h2] at h; exact absurd h (by decide)
      · rw [if_neg h2] at h ⊢
        by_cases h3 : chkL (L.set i.toNat (setI (L[i.toNat]'hn) st v)) = 0
        · rw [if_pos h3]
          exact ⟨h0, i.toNat, hn, by omega, by omega, by simpa using h2, rfl, h3⟩
        · rw [if_neg h3] at h; exact absurd h h3
  · rw [if_neg h0] at h; exact absurd h h0
/-- settling with no steps and without void -/
theorem set_rev {L : List It} (h : chkL L = 0) (n : Nat) (hn : n < L.length) (hr : (L[n]'hn).r = true) : setS L (n : Int) 0 false = (0, L.set n (setI (L[n]'hn) 0 false)) := by
  have hg : L.getD n It.zero = L[n]'hn := by simp [List.getD, hn]
  have h3 := chk_rev h n hn (setI (L[n]'hn) 0 false) rfl (by simp only [setI]; omega) rfl
  unfold setS
  rw [if_pos h, if_neg (by omega)]
  simp only [Int.toNat_natCast]
  rw [hg, if_neg (by simp [hr]), if_pos h3]
end Go.Proofs.Ytlleebgkglbelaa
