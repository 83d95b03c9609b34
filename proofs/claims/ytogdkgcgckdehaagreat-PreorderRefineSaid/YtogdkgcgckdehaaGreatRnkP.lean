/- Plain facts of rankings. -/
import Derived.Test.YtogdkgcgckdehaaGreatPla
set_option linter.unusedSimpArgs false
set_option linter.unusedVariables false
namespace Go.Proofs.YtogdkgcgckdehaaGreat
open Go.RowKit Go.Sort

/-- how many numbers are less than x -/
def ltN (P : List Int) (x : Int) : Nat := P.countP fun y => decide (y < x)
theorem bef_lt (P : List Int) (x : Int) : befN cmpI P x = ltN P x := by
  unfold befN ltN
  congr 1
  funext y
  exact cmpI_less y x
theorem lt_step {P : List Int} {x : Int} {k : Nat} (hk : k < P.length) : ltN (P.take (k + 1)) x = ltN (P.take k) x + (if P.getD k 0 < x then 1 else 0) := by
  have e : P.getD k 0 = P[k] := by simp [List.getD, hk]
  rw [List.take_succ_eq_append_getElem hk, e]
  unfold ltN
  rw [List.countP_append, List.countP_singleton]
  by_cases h : P[k] < x <;> simp [h]
theorem ltN_le (P : List Int) (x : Int) : ltN P x ≤ P.length := List.countP_le_length
theorem plc_getD {P : List Int} {j : Nat} (h : j < P.length) : (plcL cmpI P).getD j 0 = 1 + (ltN P (P.getD j 0) : Int) := by
  unfold plcL
  simp only [List.getD, List.getElem?_map, List.getElem?_eq_getElem h, Option.map_some, Option.getD_some, bef_lt]
theorem rnk_yes {P : List Int} (h : ∀ j, j < P.length → P.getD j 0 = 1 + (ltN P (P.getD j 0) : Int)) : rnkB P = true :=
  decide_eq_true (eq_getD (plcL_len cmpI P).symm (fun j hj => by rw [plc_getD hj]; exact h j hj))
theorem rnk_no {P : List Int} {j : Nat} (hj : j < P.length) (h : P.getD j 0 ≠ 1 + (ltN P (P.getD j 0) : Int)) : rnkB P = false :=
  decide_eq_false (fun e => h (by rw [← plc_getD hj, ← e]))
theorem wrap_less {x : Int} {n : Nat} (h1 : -9223372036854775808 ≤ x) (h2 : x ≤ 9223372036854775807) (hn : n ≤ 1000000000000) : (IntKind.i64.wrap (x - 1) != (n : Int)) = !decide (x = 1 + (n : Int)) := by
  by_cases h : x = -9223372036854775808
  · subst h
    have : IntKind.i64.wrap (-9223372036854775808 - 1) = 9223372036854775807 := by decide
    rw [this, decide_eq_false (by omega)]
    simp only [Bool.not_false, bne_iff_ne]
    omega
  · rw [IntWalk.i64_in _ (by omega)]
    by_cases e : x = 1 + (n : Int)
    · rw [decide_eq_true e]; simp; omega
    · rw [decide_eq_false e]; simp; omega
/-- every number within its kind -/
def InI (P : List Int) : Prop := ∀ x ∈ P, -9223372036854775808 ≤ x ∧ x ≤ 9223372036854775807
theorem InI.get {P : List Int} (h : InI P) {k : Nat} (hk : k < P.length) : -9223372036854775808 ≤ P.getD k 0 ∧ P.getD k 0 ≤ 9223372036854775807 := by
  have e : P.getD k 0 = P[k] := by simp [List.getD, hk]
  rw [e]
  exact h _ (List.getElem_mem hk)
end Go.Proofs.YtogdkgcgckdehaaGreat
