/- The examples of the chapter on rankings, as plain facts. -/
import Derived.Test.YtogdkgcgckdehaaGreatOrder
import Derived.Test.YtogdkgcgckdehaaGreatGroups
import Derived.Test.YtogdkgcgckdehaaGreatInv
import Derived.Test.YtogdkgcgckdehaaGreatMed
import Derived.Test.YtogdkgcgckdehaaGreatAgr
import Derived.Test.YtogdkgcgckdehaaGreatSam
set_option linter.unusedSimpArgs false
set_option linter.unusedVariables false
namespace Go.Proofs.YtogdkgcgckdehaaGreat
open Go.RowKit Go.Sort

/-- the one sorted list -/
theorem srtI_eq {L L' : List Int} (hp : L'.Perm L) (hs : L'.Pairwise (fun x y => x ≤ y)) : srtI L = L' := by
  have h1 : (srtI L).Pairwise (fun x y => x ≤ y) := by
    have := List.pairwise_mergeSort (le := fun x y : Int => decide (x ≤ y)) (fun a b c h1 h2 => by simp at *; omega) (fun a b => by simp; omega) L
    exact this.imp fun h => by simpa using h
  exact List.Perm.eq_of_pairwise (fun a b _ _ h1 h2 => by omega) h1 hs ((List.mergeSort_perm L _).trans hp.symm)
def rel (C : List (List (Int × Int))) (i k : Nat) : Prop := ¬ ahC (C.getD k []) (C.getD i []) < 0 ∧ (ahC (C.getD k []) (C.getD i []) = 0 → i < k)
theorem OrdL.pw {C : List (List (Int × Int))} {O : List Nat} (h : OrdL C O) : O.Pairwise (rel C) := by
  rw [List.pairwise_iff_getElem]
  intro p q hp hq hpq
  exact h.srt p q hp hq hpq
/-- there is one order -/
theorem ord_uniq {C : List (List (Int × Int))} {O O' : List Nat} (h : OrdL C O) (h' : OrdL C O') : O = O' := by
  refine List.Perm.eq_of_pairwise (le := rel C) (fun i k _ _ h1 h2 => ?_) h.pw h'.pw (h.perm.trans h'.perm.symm)
  have t : ahC (C.getD k []) (C.getD i []) = - ahC (C.getD i []) (C.getD k []) := rowC_turn _ _
  obtain ⟨a1, a2⟩ := h1
  obtain ⟨b1, b2⟩ := h2
  have h0 : ahC (C.getD k []) (C.getD i []) = 0 := by omega
  have := a2 h0
  have := b2 (by omega)
  omega
def C0 : List (List (Int × Int)) := [[(2, 1), (1, 1)], [(3, 1), (0, 1)], [(2, 1), (1, 1)], [(2, 1), (5, 1)]]
theorem eg_chk : chkL C0 = 0 := by decide +kernel
theorem eg_plc : plcL ahC C0 = [3, 1, 3, 2] := by decide +kernel
theorem eg_ord0 : OrdL C0 [1, 3, 0, 2] := by
  refine ⟨by decide, ?_⟩
  have : ([1, 3, 0, 2] : List Nat).Pairwise (fun i k => ¬ ahC (C0.getD k []) (C0.getD i []) < 0 ∧ (ahC (C0.getD k []) (C0.getD i []) = 0 → i < k)) := by decide +kernel
  rw [List.pairwise_iff_getElem] at this
  exact fun p q hp hq hpq => this p q hp hq hpq
theorem eg_ord {O : List Nat} (h : OrdL C0 O) : O = [1, 3, 0, 2] := ord_uniq h eg_ord0
theorem eg_grp : grpK C0 [1, 3, 0, 2] 4 = [[1], [3], [0, 2]] := by decide +kernel
theorem eg_cmp : rowC [(2, 1), (1, 1)] [(2, 1), (5, 1)] = -1 ∧ rowI [(2, 1), (1, 1)] [(2, 1), (5, 1)] = 1 := by decide +kernel
theorem eg_inv0 : crkL [[1, 2, 3], [3, 2, 1]] = 0 := by decide +kernel
theorem eg_inv1 : pcN oppP (([1, 2, 3] : List Int).zip [3, 2, 1]) = 3 := by decide +kernel
theorem eg_inv2 : pcN halfP (([1, 2, 3] : List Int).zip [3, 2, 1]) = 0 := by decide +kernel
def C3 : List (List Int) := [[1, 2, 3], [1, 3, 2], [2, 1, 3]]
theorem eg_crk : crkL C3 = 0 := by decide +kernel
theorem eg_hd : headI C3 = 3 := by decide +kernel
theorem eg_med : medR C3 = [1, 2, 3] := by
  have e0 : medI C3 0 = 1 := by
    unfold medI
    rw [srtI_eq (L' := [1, 1, 2]) (by decide +kernel) (by decide)]
    rfl
  have e1 : medI C3 1 = 2 := by
    unfold medI
    rw [srtI_eq (L' := [1, 2, 3]) (by decide +kernel) (by decide)]
    rfl
  have e2 : medI C3 2 = 3 := by
    unfold medI
    rw [srtI_eq (L' := [2, 3, 3]) (by decide +kernel) (by decide)]
    rfl
  unfold medR
  rw [eg_hd]
  have : medsL C3 3 = [1, 2, 3] := by
    unfold medsL
    simp [List.range, List.range.loop, e0, e1, e2]
  rw [this]
  decide +kernel
theorem eg_agr : agrI C3 3 3 = [(0, 2)] := by decide +kernel
theorem eg_rnk : rnkB [1, 2, 2, 3] = false := by decide +kernel
end Go.Proofs.YtogdkgcgckdehaaGreat
