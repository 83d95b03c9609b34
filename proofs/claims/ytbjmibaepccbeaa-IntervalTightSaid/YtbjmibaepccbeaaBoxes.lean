/- Intervals: what the results are within 64 bits. -/
import Derived.Test.YtbjmibaepccbeaaIvE
set_option linter.unusedSimpArgs false
set_option linter.unusedVariables false
namespace Go.Proofs.Ytbjmibaepccbeaa
open Go.RowKit
open Iv

theorem zv_wf : WfV zV := ⟨zz_wf, zz_wf⟩
theorem foldv_wf (fs : List F) (h : ∀ x ∈ fs, Wf64 x) : WfV (foldV fs) := by
  match fs, h with
  | [], _ => exact zv_wf
  | f :: fs, h =>
    show WfV ((f :: fs).foldl ext (f, f))
    exact fold_wf (f :: fs) (f, f) ⟨h f (by simp), h f (by simp)⟩ h
theorem ofV_wf (op : Nat) {a b : V} (ha : WfV a) (hb : WfV b) : WfV (ofV op a b).1 := by
  unfold ofV
  split
  · exact zv_wf
  · split
    · refine foldv_wf _ (fun x hx => ?_)
      obtain ⟨y, hy, rfl⟩ := List.mem_map.1 hx
      obtain ⟨p, hp, rfl⟩ := List.mem_map.1 hy
      obtain ⟨h1, h2⟩ := ends_mem hp
      refine opR_wfa op _ _ ?_ ?_
      · rcases h1 with e | e <;> rw [e]
        · exact ha.l
        · exact ha.h
      · rcases h2 with e | e <;> rw [e]
        · exact hb.l
        · exact hb.h
    · exact zv_wf
theorem do_wf (op : Nat) (h : op < 5) {a b : V} (ha : WfV a) (hb : WfV b) : WfV (doV op a b).1 := by
  rw [do_of h]
  exact ofV_wf op ha hb
theorem scale_wf {a : V} {f : F} (ha : WfV a) (hf : Wf64 f) : WfV (scaleV a f).1 := by
  rw [scale_of]
  exact ofV_wf 2 ha ⟨hf, hf⟩
theorem div_wf {a : V} {f : F} (ha : WfV a) (hf : Wf64 f) : WfV (divV a f).1 := by
  rw [div_of]
  exact ofV_wf 5 ha ⟨hf, hf⟩
theorem width_wf {a : V} (ha : WfV a) : Wf64 (widthV a).1 := by
  unfold widthV
  split
  · exact opR_wfa 1 _ _ ha.h ha.l
  · exact zz_wf
theorem hull_wf {a b : V} (ha : WfV a) (hb : WfV b) : WfV (hullV a b).1 := by
  unfold hullV
  split
  · exact ⟨les_wf ha.l hb.l, gre_wf ha.h hb.h⟩
  · exact zv_wf
theorem hull_ok {a b : V} (h : (hullV a b).2 = 0) : (okV a && okV b) = true := by
  unfold hullV at h
  split at h
  · assumption
  · simp at h
theorem inter_wf {a b : V} (ha : WfV a) (hb : WfV b) : WfV (interV a b).1 := by
  unfold interV
  split
  · split
    · exact ⟨gre_wf ha.l hb.l, les_wf ha.h hb.h⟩
    · exact zv_wf
  · exact zv_wf
end Go.Proofs.Ytbjmibaepccbeaa
