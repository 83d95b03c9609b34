/- Chains of proper items, put together again: plain; the call's own chains as a slice of slices. -/
import Derived.Test.YtccglojnjakbfaaMrg
import Derived.Test.YtccglojnjakbfaaSpt
import Derived.Test.YtccglojnjakbfaaPrt
set_option linter.unusedSimpArgs false
set_option linter.unusedVariables false
namespace Go.Proofs.Ytccglojnjakbfaa
open Go.RowKit

theorem owm_slm {w : World} {base : Nat} {v : Value} {M : List Lx} (h : OwM w base v M) :
    ∃ (a : Option Addr) (b cap : Nat), v = .slice a M.length cap ∧ SlM w a b 0 M.length cap M := by
  have hcell := h.o
  rcases h.o.2 with ⟨rfl, h0⟩ | ⟨g, cap, cur, rfl, hg, hb, h1, h2, h3, h4⟩
  · have : M = [] := List.eq_nil_of_length_eq_zero h0
    subst this
    exact ⟨none, 0, 0, rfl, ⟨rfl, fun h => absurd h (Nat.lt_irrefl 0), fun h => absurd h (Nat.lt_irrefl 0), Nat.le_refl _, Nat.zero_le _, fun k hk => absurd hk (Nat.not_lt_zero k)⟩, fun r hr => absurd hr (by simp)⟩
  · have hgs : g < w.heap.size := (Array.getElem?_eq_some_iff.1 hb).1
    refine ⟨_, g, cap, rfl, ⟨rfl, fun _ => rfl, fun _ => hgs, h1, h2, fun k hk => ?_⟩, fun r hr => (h.each r hr).1⟩
    have e := hcell.cellAt k (by omega)
    rw [Nat.zero_add, e, List.getElem?_map, List.getElem?_eq_getElem hk]
    rfl
theorem jnK_id (n : Nat) : ∀ (l : List It) (i : Nat), i + l.length = n → (∀ (k : Nat) (h : k < l.length), (l[k]'h).j = decide (i + k + 1 < n)) → jnK n i l = l
  | [], _, _, _ => rfl
  | x :: t, i, hn, h => by
    have h0 := h 0 (by simp)
    have ih := jnK_id n t (i + 1) (by simp at hn; omega) (fun k hk => by
      have := h (k + 1) (by simp; omega)
      simp only [List.getElem_cons_succ] at this
      rw [this]
      congr 1
      apply propext
      constructor <;> intro h <;> omega)
    rw [jnK, ih]
    simp only [List.getElem_cons_zero, Nat.add_zero] at h0
    rw [← h0]
theorem mgL_map : ∀ (M : List Lx), mgL M = ((M.map Lx.L).map jn).flatten
  | [] => rfl
  | r :: t => by rw [mgL, mgL_map t, List.map_cons, List.map_cons, List.flatten_cons]
theorem chn_flat {L : List It} (hj : lastJ L = false) : ∀ (m f i : Nat), L.length - i = m → f ≤ i → i ≤ L.length → (i = L.length → f = L.length) → (∀ (k : Nat) (h : k < L.length), f ≤ k → k < i → (L[k]'h).j = true) →
    (((chnL f i (L.drop i)).map (cutX L)).map jn).flatten = L.drop f
  | 0, f, i, hm, hf, hi, he, _ => by
    have h1 : i = L.length := by omega
    rw [List.drop_eq_nil_of_le (by omega), he h1, List.drop_eq_nil_of_le (Nat.le_refl _)]
    rfl
  | m + 1, f, i, hm, hf, hi, he, hall => by
    have hlt : i < L.length := by omega
    rw [chnL_cut hlt]
    by_cases hc : (L[i]'hlt).j = false ∨ i + 1 = L.length
    · rw [if_pos hc]
      have hji : (L[i]'hlt).j = false := by
        rcases hc with h1 | h1
        · exact h1
        · have := lastJ_at (L := L) (by omega)
          rw [hj] at this
          rw [this]
          congr 2
          omega
      have ih := chn_flat hj m (i + 1) (i + 1) (by omega) (Nat.le_refl _) (by omega) (fun h => h) (fun k hk h1 h2 => by omega)
      rw [List.map_cons, List.map_cons, List.flatten_cons, ih]
      have hcl : ((L.drop f).take (i + 1 - f)).length = i + 1 - f := by simp; omega
      have hid : jn (cutX L (f, i + 1)) = (L.drop f).take (i + 1 - f) := by
        unfold jn cutX
        simp only
        refine jnK_id _ _ 0 (by simp) (fun k hk => ?_)
        rw [List.getElem_take, List.getElem_drop]
        have hk' : k < i + 1 - f := by rw [hcl] at hk; exact hk
        by_cases hl : f + k = i
        · have e1 : (L[f + k]'(by omega)).j = false := by
            rw [← hji]; congr 2
          rw [e1]
          exact (decide_eq_false (by rw [hcl]; omega)).symm
        · rw [hall (f + k) (by omega) (by omega) (by omega)]
          exact (decide_eq_true (by rw [hcl]; omega)).symm
      rw [hid]
      have : L.drop (i + 1) = (L.drop f).drop (i + 1 - f) := by rw [List.drop_drop]; congr 1; omega
      rw [this, List.take_append_drop]
    · rw [if_neg hc]
      have hjt : (L[i]'hlt).j = true := by
        cases h : (L[i]'hlt).j with
        | true => rfl
        | false => exact absurd (Or.inl h) hc
      exact chn_flat hj m f (i + 1) (by omega) (by omega) (by omega) (fun h => absurd (Or.inr h) hc) (fun k hk h1 h2 => by
        by_cases e : k = i
        · subst e; exact hjt
        · exact hall k hk h1 (by omega))
theorem split_merge {L : List It} {M : List Lx} (h : chkL L = 0) (hM : M.map Lx.L = (chnL 0 0 L).map (cutX L)) : mgE M = 0 ∧ mgR M = L := by
  obtain ⟨h1, h2⟩ := chk_zero h
  have hmg : mgL M = L := by
    rw [mgL_map, hM]
    have := chn_flat h2 L.length 0 0 (by omega) (Nat.le_refl _) (Nat.zero_le _) (fun h => h) (fun k hk h1 h2 => by omega)
    simpa using this
  have hem : M.any emB = false := by
    rw [List.any_eq_false]
    intro r hr
    have hr2 : r.L ∈ M.map Lx.L := List.mem_map.2 ⟨r, hr, rfl⟩
    rw [hM] at hr2
    obtain ⟨c, hc, hcr⟩ := List.mem_map.1 hr2
    have := chnL_in L 0 0 (Nat.le_refl _) c hc
    unfold emB
    rw [← hcr]
    have : 0 < (cutX L c).length := by unfold cutX; simp; omega
    rw [decide_eq_false (by omega)]
    simp
  have hE : mgE M = 0 := by unfold mgE; rw [hem, hmg, if_neg (by simp), h1]
  exact ⟨hE, by unfold mgR; rw [if_pos hE, hmg]⟩
theorem split_fit {L : List It} {M : List Lx} (h : fitC L) (hM : M.map Lx.L = (chnL 0 0 L).map (cutX L)) : ∀ r ∈ M, fitC r.L ∧ r.L.length ≤ L.length := by
  intro r hr
  have hr2 : r.L ∈ M.map Lx.L := List.mem_map.2 ⟨r, hr, rfl⟩
  rw [hM] at hr2
  obtain ⟨c, hc, hcr⟩ := List.mem_map.1 hr2
  rw [← hcr]
  refine ⟨fun k hk => ?_, by unfold cutX; simp; omega⟩
  unfold cutX at hk ⊢
  rw [List.getElem_take, List.getElem_drop]
  exact h _ _
theorem mgL_sum : ∀ (M : List Lx), (mgL M).length = (M.map (fun r => r.L.length)).sum
  | [] => rfl
  | r :: t => by rw [mgL, List.length_append, mgL_sum t, List.map_cons, List.sum_cons]; unfold jn; rw [jnK_len]
end Go.Proofs.Ytccglojnjakbfaa
