/- Plain facts of places: how many stand before one; in a sorted list they stand at its head. -/
import Derived.Test.YtogdkgcgckdehaaGreatCmpP
import Derived.Sort.Statements
import Derived.Shelf.SlSorted.Search
import Derived.Shelf.SlSortCmp.Insertion
set_option linter.unusedSimpArgs false
set_option linter.unusedVariables false
namespace Go.Proofs.YtogdkgcgckdehaaGreat
open Go.Sort

theorem swo_of {α : Type} [Inhabited α] {c : α → α → Int} (h : Tot c) : SWO (ltOf c) := by
  refine ⟨fun x => ?_, fun x y z => ?_, fun x y z => ?_⟩
  · unfold ltOf; rw [h.refl x]; rfl
  · unfold ltOf
    rw [decide_eq_true_eq, decide_eq_true_eq, decide_eq_true_eq]
    intro h1 h2
    exact h.lt_le h1 (by omega)
  · unfold ltOf
    rw [decide_eq_false_iff_not, decide_eq_false_iff_not, decide_eq_false_iff_not]
    intro h1 h2
    have a := h.turn x y
    have b := h.turn y z
    have d := h.turn x z
    have := h.trans z y x (by omega) (by omega)
    omega
/-- how many stand before x -/
def befN {α : Type} (c : α → α → Int) (L : List α) (x : α) : Nat := L.countP (fun y => decide (c y x < 0))
theorem perm_list {α : Type} [Inhabited α] {d d' : Array α} (h : PermIn 0 d.size d d') : d'.toList.Perm d.toList := by
  obtain ⟨h1, _, h2⟩ := h
  have e1 : d.extract 0 d.size = d := by simp
  have e2 : d'.extract 0 d.size = d' := by rw [← h1]; simp
  rwa [e1, e2] at h2
theorem bef_perm {α : Type} {c : α → α → Int} {L L' : List α} (h : L'.Perm L) (x : α) : befN c L' x = befN c L x := h.countP_eq _
theorem bef_le {α : Type} (c : α → α → Int) (L : List α) (x : α) : befN c L x ≤ L.length := List.countP_le_length
theorem sorted_mono {α : Type} [Inhabited α] {c : α → α → Int} (hT : Tot c) {n : Nat} {d : Array α} (hs : SortedIn (ltOf c) 0 n d) (x : α) :
    ∀ a b, a ≤ b → b < n → (!decide (c d[a]! x < 0)) = true → (!decide (c d[b]! x < 0)) = true := by
  intro a b hab hb
  rw [Bool.not_eq_true', Bool.not_eq_true', decide_eq_false_iff_not, decide_eq_false_iff_not]
  intro h
  rcases Nat.lt_or_eq_of_le hab with h1 | h1
  · have h2 := hs a b (Nat.zero_le _) h1 hb
    unfold ltOf at h2
    rw [decide_eq_false_iff_not] at h2
    have t1 := hT.turn d[b]! d[a]!
    have t2 := hT.turn d[a]! x
    have t3 := hT.turn d[b]! x
    have := hT.trans x d[a]! d[b]! (by omega) (by omega)
    omega
  · subst h1; exact h
theorem search_bef {α : Type} [Inhabited α] (c : α → α → Int) (d : Array α) (x : α) :
    (List.range d.size).countP (fun i => !(!decide (c d[i]! x < 0))) = befN c d.toList x := by
  have := Lib.countP_range d (fun y => decide (c y x < 0))
  unfold befN
  rw [← this]
  congr 1
  funext i
  rw [Bool.not_not]
end Go.Proofs.YtogdkgcgckdehaaGreat
