/- Plain facts of sets: what is left of a sorted list when what is twice in a row goes. -/
import Derived.Test.YtflpehpjemlphaaDoorSetP
import Derived.Lib.SlicesCompact
import Derived.Sort.Walk0
set_option linter.unusedSimpArgs false
set_option linter.unusedVariables false
namespace Go.Proofs.YtflpehpjemlphaaDoor
open Go.RowKit Go.Sort

theorem lt_cmp (x y : List UInt8) : x < y ↔ Lib.compareBytes x y < 0 := by
  have h1 := less_cmp x y
  rw [bytesLess_eq] at h1
  simpa using h1
theorem le_cmp (x y : List UInt8) : x ≤ y ↔ Lib.compareBytes x y ≤ 0 := by
  have := tot_bytes.turn x y
  rw [← List.not_lt, lt_cmp]
  omega
theorem sorted_pw (ss : List (List UInt8)) : (ss.mergeSort fun x y => decide (x ≤ y)).Pairwise (fun a b => Lib.compareBytes a b ≤ 0) := by
  have := List.pairwise_mergeSort (le := fun (x y : List UInt8) => decide (x ≤ y)) (fun a b c h1 h2 => by
    rw [decide_eq_true_eq, le_cmp] at *
    exact tot_bytes.trans a b c h1 h2) (fun a b => by
    rw [Bool.or_eq_true, decide_eq_true_eq, decide_eq_true_eq, le_cmp, le_cmp]
    have := tot_bytes.turn a b
    omega) ss
  refine this.imp (fun {a b} h => ?_)
  rw [decide_eq_true_eq, le_cmp] at h
  exact h
/-- of the first m places, each a set already -/
theorem upto_set (d : Array (List UInt8)) (hd : ∀ (i j : Nat), i < j → j < d.size → Lib.compareBytes d[i]! d[j]! ≤ 0) : ∀ (m : Nat), m ≤ d.size →
    (Lib.compactUpTo d m).Pairwise (fun a b => Lib.compareBytes a b < 0) ∧ ∀ x, x ∈ Lib.compactUpTo d m ↔ ∃ j, j < m ∧ d[j]! = x
  | 0, _ => by
    constructor
    · simp [Lib.compactUpTo]
    · intro x; simp [Lib.compactUpTo]
  | m + 1, hm => by
    have ⟨h1, h2⟩ := upto_set d hd m (by omega)
    rw [Lib.compactUpTo_succ]
    by_cases hk : Lib.keeps d m = true
    · rw [if_pos hk]
      constructor
      · rw [List.pairwise_append]
        refine ⟨h1, by simp, fun x hx y hy => ?_⟩
        rw [List.mem_singleton] at hy
        subst hy
        obtain ⟨j, hj, rfl⟩ := (h2 x).1 hx
        unfold Lib.keeps at hk
        rw [decide_eq_true_eq] at hk
        have hne : d[m]! ≠ d[m - 1]! := hk.resolve_left (by omega)
        have q1 : Lib.compareBytes d[m - 1]! d[m]! ≤ 0 := hd (m - 1) m (by omega) (by omega)
        have q2 : Lib.compareBytes d[m - 1]! d[m]! ≠ 0 := fun e => hne ((bytes_zero.1 e).symm)
        have q3 : Lib.compareBytes d[j]! d[m - 1]! ≤ 0 := by
          by_cases e : j = m - 1
          · subst e; rw [tot_bytes.refl]; omega
          · exact hd j (m - 1) (by omega) (by omega)
        exact tot_bytes.le_lt q3 (by omega)
      · intro x
        rw [List.mem_append, List.mem_singleton, h2]
        constructor
        · rintro (⟨j, hj, e⟩ | e)
          · exact ⟨j, by omega, e⟩
          · exact ⟨m, by omega, e.symm⟩
        · rintro ⟨j, hj, e⟩
          by_cases hjm : j = m
          · subst hjm; exact Or.inr e.symm
          · exact Or.inl ⟨j, by omega, e⟩
    · rw [if_neg hk, List.append_nil]
      refine ⟨h1, fun x => ?_⟩
      rw [h2]
      constructor
      · rintro ⟨j, hj, e⟩; exact ⟨j, by omega, e⟩
      · rintro ⟨j, hj, e⟩
        by_cases hjm : j = m
        · subst hjm
          unfold Lib.keeps at hk
          rw [decide_eq_true_eq] at hk
          have h0 : j ≠ 0 := fun e => hk (Or.inl e)
          have hne : d[j]! = d[j - 1]! := Classical.byContradiction (fun e => hk (Or.inr e))
          exact ⟨j - 1, by omega, by rw [← hne, e]⟩
        · exact ⟨j, by omega, e⟩
theorem compact_set {zs : List (List UInt8)} (hd : zs.Pairwise (fun a b => Lib.compareBytes a b ≤ 0)) :
    (Lib.compact zs).Pairwise (fun a b => Lib.compareBytes a b < 0) ∧ ∀ x, x ∈ Lib.compact zs ↔ x ∈ zs := by
  rw [List.pairwise_iff_getElem] at hd
  have := upto_set zs.toArray (fun i j hij hj => by
    have hj' : j < zs.length := by simpa using hj
    have := hd i j (by omega) hj' hij
    simpa [getElem!_pos, hj', show i < zs.length by omega] using this) zs.length (by simp)
  unfold Lib.compact
  refine ⟨this.1, fun x => ?_⟩
  rw [this.2, List.mem_iff_getElem]
  constructor
  · rintro ⟨j, hj, e⟩
    exact ⟨j, hj, by simpa [getElem!_pos, hj] using e⟩
  · rintro ⟨j, hj, e⟩
    exact ⟨j, hj, by simpa [getElem!_pos, hj] using e⟩
def bytesOf (l : List UInt8) : ByteArray := ⟨l.toArray⟩
theorem bytesOf_list (x : ByteArray) : bytesOf x.data.toList = x := by cases x; rfl
theorem list_bytesOf (l : List UInt8) : (bytesOf l).data.toList = l := rfl
/-- what Union does to both lists: sorted, and once each -/
theorem sort_compact (L : List ByteArray) :
    (Lib.compact ((L.map (fun x => x.data.toList)).mergeSort fun x y => decide (x ≤ y))).map bytesOf = setL L := by
  have ⟨h1, h2⟩ := compact_set (sorted_pw (L.map (fun x => x.data.toList)))
  apply set_of
  · apply pw_srt
    rw [List.pairwise_map]
    exact h1
  · intro x
    rw [List.mem_map]
    constructor
    · rintro ⟨l, hl, rfl⟩
      rw [h2, List.mem_mergeSort, List.mem_map] at hl
      obtain ⟨y, hy, rfl⟩ := hl
      rw [bytesOf_list]; exact hy
    · intro hx
      refine ⟨x.data.toList, ?_, bytesOf_list x⟩
      rw [h2, List.mem_mergeSort, List.mem_map]
      exact ⟨x, hx, rfl⟩
end Go.Proofs.YtflpehpjemlphaaDoor
