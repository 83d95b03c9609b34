/- Plain facts of medians: places of numbers are a ranking; the median of one ranking twice is this ranking. -/
import Derived.Test.YtflmjoikojfgaaaGreatRMed
set_option linter.unusedSimpArgs false
set_option linter.unusedVariables false
namespace Go.Proofs.YtflmjoikojfgaaaGreat
open Go.RowKit Go.Sort

theorem ltN_mono (X : List Int) {x y : Int} (h : y ≤ x) : ltN X y ≤ ltN X x :=
  List.countP_mono_left fun z _ hz => by
    rw [decide_eq_true_eq] at hz ⊢
    omega
theorem ltN_cons (z : Int) (t : List Int) (x : Int) : ltN (z :: t) x = ltN t x + if z < x then 1 else 0 := by
  unfold ltN
  rw [List.countP_cons]
  by_cases h : z < x <;> simp [h]
theorem ltN_strict : ∀ (X : List Int) {x y : Int}, y ∈ X → y < x → ltN X y < ltN X x
  | [], x, y, hy, _ => by simp at hy
  | z :: t, x, y, hy, h => by
    rw [ltN_cons, ltN_cons]
    have hm := ltN_mono t (show y ≤ x by omega)
    rcases List.mem_cons.1 hy with rfl | hy
    · rw [if_neg (by omega), if_pos h]; omega
    · have := ltN_strict t hy h
      by_cases h1 : z < y
      · rw [if_pos h1, if_pos (by omega)]; omega
      · rw [if_neg h1]; omega
theorem plc_lt (X : List Int) : plcL cmpI X = X.map fun x => 1 + (ltN X x : Int) := by
  unfold plcL
  apply List.map_congr_left
  intro x _
  rw [bef_lt]
theorem rnk_plc (X : List Int) : rnkB (plcL cmpI X) = true := by
  refine decide_eq_true ?_
  rw [plc_lt (plcL cmpI X), plc_lt X, List.map_map]
  apply List.map_congr_left
  intro x hx
  simp only [Function.comp]
  have : ltN (X.map fun x => 1 + (ltN X x : Int)) (1 + (ltN X x : Int)) = ltN X x := by
    conv => lhs; unfold ltN
    rw [List.countP_map]
    show _ = X.countP _
    apply List.countP_congr
    intro y hy
    simp only [Function.comp, decide_eq_true_eq]
    constructor
    · intro h
      have h' : (1 + (ltN X y : Int)) < 1 + (ltN X x : Int) := h
      rcases Int.lt_or_le y x with h1 | h1
      · exact h1
      · have := ltN_mono X h1; omega
    · intro h
      have := ltN_strict X hy h
      show (1 + (ltN X y : Int)) < 1 + (ltN X x : Int)
      omega
  rw [this]
theorem med_two {L : List Int} (h : rnkB L = true) : medR [L, L] = L := by
  have hm : medsL [L, L] L.length = L := by
    refine eq_getD (by rw [medsL_len]) (fun j hj => ?_)
    rw [medsL_len] at hj
    rw [medsL_at _ hj]
    unfold medI numsL
    rw [srtI_eq (L' := [L.getD j 0, L.getD j 0]) (by simp) (by simp)]
    simp
  unfold medR
  rw [show headI [L, L] = L.length from rfl, hm]
  exact (of_decide_eq_true h).symm
theorem crk_two {L : List Int} (h : rnkB L = true) : crkL [L, L] = 0 := by
  unfold crkL rnksB
  rw [if_neg (by simp), if_pos]
  rw [List.all_eq_true]
  intro r hr
  have : r = L := by simpa using hr
  subst this
  unfold lisOk
  rw [h]
  simp [headI]
end Go.Proofs.YtflmjoikojfgaaaGreat
