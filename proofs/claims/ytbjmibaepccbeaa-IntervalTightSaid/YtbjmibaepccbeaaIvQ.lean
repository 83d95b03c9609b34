/- Plain facts of intervals, second part: scaled, divided, hull, intersection, width. -/
import Derived.Test.YtbjmibaepccbeaaIvP
set_option linter.unusedSimpArgs false
set_option linter.unusedVariables false
namespace Go.Proofs.Ytbjmibaepccbeaa
namespace Iv
def scaleV (a : V) (f : F) : V × Int := if okV a = true then spanV [opR 2 a.1 f, opR 2 a.2 f] else (zV, 1)
def divV (a : V) (f : F) : V × Int := if okV a = true then spanV [opR 5 a.1 f, opR 5 a.2 f] else (zV, 1)
theorem okV_point (f : F) : okV (f, f) = okF f := by unfold okV; rw [cm_self]; simp
theorem span_twice {op : Nat} {a : V} {f : F} (ha : Ok a) (hf : okF f = true) (hfit : fit op f) (he : ends op a (f, f) = [(a.1, f), (a.1, f), (a.2, f), (a.2, f)]) :
    spanV [opR op a.1 f, opR op a.2 f] = if errs (res op a (f, f)) = 0 then (foldV ((res op a (f, f)).map Prod.fst), 0) else (zV, 5) := by
  have hr : res op a (f, f) = [opR op a.1 f, opR op a.1 f, opR op a.2 f, opR op a.2 f] := by unfold res; rw [he]; rfl
  rw [hr]
  have e0 : errs [opR op a.1 f, opR op a.2 f] = 0 ↔ errs [opR op a.1 f, opR op a.1 f, opR op a.2 f, opR op a.2 f] = 0 := by
    rw [errs_zero, errs_zero]; simp
  have o1 := opR_ok ha.l hf hfit
  have o2 := opR_ok ha.h hf hfit
  have v1 := opR_err ha.l hf hfit
  have v2 := opR_err ha.h hf hfit
  generalize opR op a.1 f = x at *
  generalize opR op a.2 f = y at *
  unfold spanV
  by_cases h : errs [x, y] = 0
  · rw [if_pos h, if_pos (e0.1 h)]
    have hz := errs_zero.1 h
    refine Prod.ext (fold_eq (L := [x.1, y.1]) (L' := [x.1, x.1, y.1, y.1]) (fun r hr => ?_) (by simp) (fun r => by simp)) rfl
    simp only [List.mem_cons, List.not_mem_nil, or_false] at hr
    rcases hr with rfl | rfl
    · exact (o1 (hz x (by simp))).1
    · exact (o2 (hz y (by simp))).1
  · rw [if_neg h, if_neg (fun h' => h (e0.2 h'))]
    have h5 : errs [x, y] = 0 ∨ errs [x, y] = 5 := errs_five (fun r hr => by
      simp only [List.mem_cons, List.not_mem_nil, or_false] at hr
      rcases hr with rfl | rfl
      · rcases v1 with h | h
        · exact Or.inl h
        · exact Or.inr (by rw [h])
      · rcases v2 with h | h
        · exact Or.inl h
        · exact Or.inr (by rw [h]))
    rcases h5 with h' | h'
    · exact absurd h' h
    · rw [h']
theorem span_bad {x y : R} (hx : x = (zF, 1)) : spanV [x, y] = (zV, 1) := by
  subst hx
  unfold spanV errs
  simp
theorem scale_of (a : V) (f : F) : scaleV a f = ofV 2 a (f, f) := by
  unfold scaleV ofV
  rw [okV_point]
  cases ha : okV a
  · simp
  · cases hf : okF f
    · rw [if_pos rfl]
      simp only [Bool.not_true, Bool.not_false, Bool.false_or, Bool.true_or, if_true]
      exact span_bad (by show tri (mulS _ _ _ _) = _; unfold mulS; rw [show vldI f.1 f.2 = false from hf]; simp; rfl)
    · rw [if_pos rfl, if_neg (by simp)]
      exact span_twice (okV_iff.1 ha) hf (fun h => by omega) rfl
theorem div_of (a : V) (f : F) : divV a f = ofV 5 a (f, f) := by
  unfold divV ofV
  rw [okV_point]
  cases ha : okV a
  · simp
  · cases hf : okF f
    · rw [if_pos rfl]
      simp only [Bool.not_true, Bool.not_false, Bool.false_or, Bool.true_or, if_true]
      exact span_bad (by show tri (divS _ _ _ _) = _; unfold divS; rw [show vldI f.1 f.2 = false from hf]; simp; rfl)
    · by_cases h0 : f.1 = 0
      · rw [if_pos rfl, if_pos (by simp [h0])]
        exact span_bad (by show tri (divS _ _ _ _) = _; unfold divS; rw [h0]; simp; rfl)
      · rw [if_pos rfl, if_neg (by simp [h0])]
        exact span_twice (okV_iff.1 ha) hf (fun _ => h0) rfl
theorem scale_sound {a b : V} {f g : F} (hf : conV a f = true) (hg : conV b g = true) (h : (scaleV a g).2 = 0) (h0 : (opR 2 f g).2 = 0) : conV (scaleV a g).1 (opR 2 f g).1 = true := by
  rw [scale_of] at h ⊢
  obtain ⟨_, f1, f2, f3⟩ := conV_iff.1 hf
  obtain ⟨_, g1, _, _⟩ := conV_iff.1 hg
  exact sound_of (fun h => by omega) h f1 g1 (fun h => by omega) (brk (by omega) ⟨f2, f3⟩ ⟨Rat.le_refl, Rat.le_refl⟩) h0
theorem div_sound {a b : V} {f g : F} (hf : conV a f = true) (hg : conV b g = true) (h : (divV a g).2 = 0) (h0 : (opR 5 f g).2 = 0) : conV (divV a g).1 (opR 5 f g).1 = true := by
  rw [div_of] at h ⊢
  obtain ⟨_, f1, f2, f3⟩ := conV_iff.1 hf
  obtain ⟨_, g1, _, _⟩ := conV_iff.1 hg
  have hz := (of_ok h).2.2.1 rfl
  exact sound_of (fun _ => ⟨hz, hz⟩) h f1 g1 (fun _ => hz) (brk_div ⟨f2, f3⟩) h0
/-- the width -/
def widthV (a : V) : R := if okV a = true then opR 1 a.2 a.1 else (zF, 1)
def widthR (a : V) : R := if okV a = true then (if (opR 1 a.2 a.1).2 = 0 then ((opR 1 a.2 a.1).1, 0) else (zF, 5)) else (zF, 1)
theorem width_of (a : V) : widthV a = widthR a := by
  unfold widthV widthR
  cases ha : okV a
  · rfl
  · have k := okV_iff.1 ha
    rw [if_pos rfl, if_pos rfl]
    rcases opR_err k.h k.l (op := 1) (fun h => by omega) with h | h
    · rw [if_pos h]; exact Prod.ext rfl h
    · rw [h]; rfl
theorem width_grows {a c : V} (h : insV a c = true) (e : (widthV a).2 = 0) (e' : (widthV c).2 = 0) : cmF (widthV a).1 (widthV c).1 ≤ 0 := by
  obtain ⟨ka, kc, c1, c2⟩ := insV_iff.1 h
  unfold widthV at e e' ⊢
  rw [if_pos (okV_iff.2 ka)] at e ⊢
  rw [if_pos (okV_iff.2 kc)] at e' ⊢
  obtain ⟨v1, v2⟩ := opR_ok ka.h ka.l (op := 1) (fun h => by omega) e
  obtain ⟨w1, w2⟩ := opR_ok kc.h kc.l (op := 1) (fun h => by omega) e'
  rw [cm_le v1 w1, v2, w2]
  show q a.2 - q a.1 ≤ q c.2 - q c.1
  grind
/-- hull and intersection -/
def hullV (a b : V) : V × Int := if (okV a && okV b) = true then ((les a.1 b.1, gre a.2 b.2), 0) else (zV, 1)
def interV (a b : V) : V × Int := if (okV a && okV b) = true then (if okV (gre a.1 b.1, les a.2 b.2) = true then ((gre a.1 b.1, les a.2 b.2), 0) else (zV, 8)) else (zV, 1)
theorem hull_two {a b : V} (h : (hullV a b).2 = 0) : insV a (hullV a b).1 = true ∧ insV b (hullV a b).1 = true := by
  unfold hullV at h ⊢
  split at h
  · rename_i h0
    rw [if_pos h0]
    rw [Bool.and_eq_true, okV_iff, okV_iff] at h0
    obtain ⟨ka, kb⟩ := h0
    have l := les_le ka.l kb.l
    have g := le_gre ka.h kb.h
    have hk : Ok (les a.1 b.1, gre a.2 b.2) := ⟨les_ok ka.l kb.l, gre_ok ka.h kb.h, Rat.le_trans (Rat.le_trans l.1 ka.le) g.1⟩
    exact ⟨insV_iff.2 ⟨ka, hk, l.1, g.1⟩, insV_iff.2 ⟨kb, hk, l.2, g.2⟩⟩
  · exact absurd h (by decide)
theorem hull_least {a b c : V} (h : (hullV a b).2 = 0) (ha : insV a c = true) (hb : insV b c = true) : insV (hullV a b).1 c = true := by
  have hk := (insV_iff.1 (hull_two h).1).2.1
  obtain ⟨ka, kc, c1, c2⟩ := insV_iff.1 ha
  obtain ⟨kb, _, d1, d2⟩ := insV_iff.1 hb
  refine insV_iff.2 ⟨hk, kc, ?_, ?_⟩
  · unfold hullV
    rw [if_pos (by rw [okV_iff.2 ka, okV_iff.2 kb]; rfl)]
    show q c.1 ≤ q (les a.1 b.1)
    rcases les_mem a.1 b.1 with e | e <;> rw [e] <;> assumption
  · unfold hullV
    rw [if_pos (by rw [okV_iff.2 ka, okV_iff.2 kb]; rfl)]
    show q (gre a.2 b.2) ≤ q c.2
    rcases gre_mem a.2 b.2 with e | e <;> rw [e] <;> assumption
theorem inter_all {a b c : V} (h : (okV a && okV b) = true) (hc : okV c = true) : (insV c a && insV c b) = (decide ((interV a b).2 = 0) && insV c (interV a b).1) := by
  have h0 := h
  rw [Bool.and_eq_true, okV_iff, okV_iff] at h0
  obtain ⟨ka, kb⟩ := h0
  have kc := okV_iff.1 hc
  have g := le_gre ka.l kb.l
  have l := les_le ka.h kb.h
  rw [Bool.eq_iff_iff, Bool.and_eq_true, Bool.and_eq_true, decide_eq_true_eq]
  unfold interV
  rw [if_pos h]
  constructor
  · rintro ⟨h1, h2⟩
    obtain ⟨_, _, c1, c2⟩ := insV_iff.1 h1
    obtain ⟨_, _, d1, d2⟩ := insV_iff.1 h2
    have e1 : q (gre a.1 b.1) ≤ q c.1 := by rcases gre_mem a.1 b.1 with e | e <;> rw [e] <;> assumption
    have e2 : q c.2 ≤ q (les a.2 b.2) := by rcases les_mem a.2 b.2 with e | e <;> rw [e] <;> assumption
    have hk : Ok (gre a.1 b.1, les a.2 b.2) := ⟨gre_ok ka.l kb.l, les_ok ka.h kb.h, Rat.le_trans e1 (Rat.le_trans kc.le e2)⟩
    rw [if_pos (okV_iff.2 hk)]
    exact ⟨rfl, insV_iff.2 ⟨kc, hk, e1, e2⟩⟩
  · intro h1
    split at h1
    · obtain ⟨_, hk, e1, e2⟩ := insV_iff.1 h1.2
      exact ⟨insV_iff.2 ⟨kc, ka, Rat.le_trans g.1 e1, Rat.le_trans e2 l.1⟩, insV_iff.2 ⟨kc, kb, Rat.le_trans g.2 e1, Rat.le_trans e2 l.2⟩⟩
    · exact absurd h1.1 (by decide)
def negV (a : V) : V × Int := if okV a = true then ((negS a.2.1 a.2.2, negS a.1.1 a.1.2), 0) else (zV, 1)
end Iv
end Go.Proofs.Ytbjmibaepccbeaa
