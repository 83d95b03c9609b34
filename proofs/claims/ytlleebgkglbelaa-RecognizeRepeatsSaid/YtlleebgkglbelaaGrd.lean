/- The map of indices by code, as a datum. -/
import Derived.Test.YtlleebgkglbelaaElm
import Derived.Test.YtlleebgkglbelaaRcg
import Derived.Maps.OwnRows
import Derived.Sort.KeysCollected
set_option linter.unusedSimpArgs false
set_option linter.unusedVariables false
namespace Go.Proofs.Ytlleebgkglbelaa
open Go.RowKit Go.ChangeShapes

/-- the indices below k of credited items with a code -/
def grpK (R : List Rg) (s : ByteArray) : Nat → List Nat
  | 0 => []
  | k + 1 => if (R.getD k Rg.zero).k = true ∧ (R.getD k Rg.zero).c = s then grpK R s k ++ [k] else grpK R s k
def litI (l : List Nat) : DataW Unit := if l = [] then .nil else .slice (lits .i64 (l.map (fun (k : Nat) => (k : Int)))) []
def GD (R : List Rg) : Nat → DataW Unit
  | 0 => .map []
  | k + 1 => if (R.getD k Rg.zero).k = true then (GD R k).put (kS (R.getD k Rg.zero).c) (litI (grpK R (R.getD k Rg.zero).c (k + 1))) else GD R k
theorem GD_tidy (R : List Rg) : ∀ k, Maps.Tidy (GD R k)
  | 0 => Maps.tidy_empty
  | k + 1 => by
    rw [GD]
    split
    · exact (GD_tidy R k).put (kS_key _) _
    · exact GD_tidy R k
theorem grpK_ne (R : List Rg) (k : Nat) (h : (R.getD k Rg.zero).k = true) : grpK R (R.getD k Rg.zero).c (k + 1) ≠ [] := by
  rw [grpK, if_pos ⟨h, rfl⟩]
  simp
theorem GD_at (R : List Rg) (s : ByteArray) : ∀ k, (GD R k).atKey (kS s) .nil = litI (grpK R s k)
  | 0 => by simp [GD, grpK, litI, DataW.atKey]
  | k + 1 => by
    rw [GD]
    split
    · rename_i h
      by_cases e : (R.getD k Rg.zero).c = s
      · subst e
        rw [Maps.atKey_put_same (GD_tidy R k).isMap (kS_key _)]
      · rw [Maps.atKey_put_other (fun e2 => e (kS_inj e2).symm), GD_at R s k, grpK, if_neg (fun h2 => e h2.2)]
    · rename_i h
      rw [GD_at R s k, grpK, if_neg (fun h2 => h h2.1)]
theorem GD_has (R : List Rg) (s : ByteArray) : ∀ k, Maps.has (GD R k) (kS s) = decide (grpK R s k ≠ [])
  | 0 => by simp [GD, grpK, Maps.has]
  | k + 1 => by
    rw [GD]
    split
    · rename_i h
      by_cases e : (R.getD k Rg.zero).c = s
      · subst e
        rw [Maps.has_put_same (GD_tidy R k).isMap (kS_key _), decide_eq_true (grpK_ne R k h)]
      · rw [Maps.has_put_other (fun e2 => e (kS_inj e2).symm), GD_has R s k, grpK, if_neg (fun h2 => e h2.2)]
    · rename_i h
      rw [GD_has R s k, grpK, if_neg (fun h2 => h h2.1)]
theorem GD_size (R : List Rg) : ∀ k, Maps.size (GD R k) ≤ k
  | 0 => Nat.le_refl _
  | k + 1 => by
    rw [GD]
    have := GD_size R k
    split
    · rw [Maps.size_put (GD_tidy R k)]
      split <;> omega
    · omega
theorem grpK_len (R : List Rg) (s : ByteArray) : ∀ k, (grpK R s k).length ≤ k
  | 0 => Nat.le_refl _
  | k + 1 => by
    rw [grpK]
    have := grpK_len R s k
    split
    · rw [List.length_append, List.length_singleton]; omega
    · omega
theorem lits_inj {a b : List Int} (h : lits (H := Unit) .i64 a = lits .i64 b) : a = b := by
  unfold lits at h
  exact (List.map_inj_right (fun x y hxy => by cases hxy; rfl)).1 h
/-- what is owned at a key is what the datum says -/
theorem owned_is {w : World} {base : Nat} {e : TypeId} {v : Value} {zs : List Int} {l : List Nat} (hoi : w.ownsInts base e .i64 v zs) (h : litI l = rowDatum .i64 v zs) : zs = l.map (fun (k : Nat) => (k : Int)) := by
  unfold litI at h
  rcases hoi.datum (H := Unit) with ⟨h1, h2⟩ | h1
  · rw [h1] at h
    split at h
    · rename_i hl
      rw [hl, h2]; rfl
    · cases h
  · rw [h1] at h
    split at h
    · cases h
    · simp only [DataW.slice.injEq, and_true] at h
      exact (lits_inj h).symm
end Go.Proofs.Ytlleebgkglbelaa
