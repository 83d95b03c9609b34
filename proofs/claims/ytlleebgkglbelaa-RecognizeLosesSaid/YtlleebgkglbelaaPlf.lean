/- Values fall along a chain: plain facts for RecognizeLoses. -/
import Derived.Test.YtlleebgkglbelaaPln
import Derived.Test.YtlleebgkglbelaaLos
set_option linter.unusedSimpArgs false
set_option linter.unusedVariables false
namespace Go.Proofs.Ytlleebgkglbelaa
open Go.RowKit

theorem fit_empty {E : List El} (h : FitE E) : fstE E ⟨#[]⟩ = none := by
  cases hx : fstE E ⟨#[]⟩ with
  | none => rfl
  | some x =>
    obtain ⟨hm, hc⟩ := fstE_mem hx
    obtain ⟨j, hj, rfl⟩ := List.mem_iff_getElem.1 hm
    exact absurd hc (codeS_ne (h.nam j hj).1)
theorem fit_step {E : List El} (h : FitE E) {x y : El} (hx : x ∈ E) (hy : fstE E x.l = some y) : y.n ≤ x.n := by
  obtain ⟨j, hj, rfl⟩ := List.mem_iff_getElem.1 hx
  obtain ⟨n, _, hf⟩ := h.fal j hj
  have he := fit_empty h
  cases n with
  | zero =>
    rw [FlE] at hf
    rw [hf, he] at hy
    exact absurd hy (by simp)
  | succ n =>
    rw [FlE] at hf
    rcases hf with hf | ⟨z, hz, hle, _⟩
    · rw [hf, he] at hy
      exact absurd hy (by simp)
    · rw [hz] at hy
      simp only [Option.some.injEq] at hy
      subst hy
      exact hle
theorem chF_falls {E : List El} (h : FitE E) : ∀ (m : Nat) (s : ByteArray) (C : List El), chF E m s = some C → ∀ (i : Nat) (hi : i + 1 < C.length), (C[i + 1]'hi).n ≤ (C[i]'(Nat.lt_of_succ_lt hi)).n
  | 0, _, _, h0 => by rw [chF] at h0; exact absurd h0 (by simp)
  | m + 1, s, C, h0 => by
    rw [chF] at h0
    cases hx : fstE E s with
    | none =>
      rw [hx] at h0
      simp only [Option.some.injEq] at h0
      subst h0
      intro i hi
      exact absurd hi (by simp)
    | some x =>
      rw [hx] at h0
      simp only [Option.map_eq_some_iff] at h0
      obtain ⟨D, hD, rfl⟩ := h0
      intro i hi
      cases i with
      | succ i => exact chF_falls h m x.l D hD i (by simpa using hi)
      | zero =>
        have hD0 := hD
        cases m with
        | zero => rw [chF] at hD; exact absurd hD (by simp)
        | succ m =>
          rw [chF] at hD
          cases hy : fstE E x.l with
          | none =>
            rw [hy] at hD
            simp only [Option.some.injEq] at hD
            subst hD
            simp at hi
          | some y =>
            rw [hy] at hD
            simp only [Option.map_eq_some_iff] at hD
            obtain ⟨D', _, rfl⟩ := hD
            exact fit_step h (fstE_mem hx).1 hy
theorem falls_all {C : List El} (h : ∀ (i : Nat) (hi : i + 1 < C.length), (C[i + 1]'hi).n ≤ (C[i]'(Nat.lt_of_succ_lt hi)).n) : ∀ (i : Nat) (hi : i < C.length), (C[i]'hi).n ≤ (C[0]'(by omega)).n
  | 0, _ => Int.le_refl _
  | i + 1, hi => Int.le_trans (h i hi) (falls_all h i (by omega))
theorem rsn_zero {C : List El} {x : It} : rsn C x = 0 ↔ x.v = false ∧ 0 ≤ x.d ∧ x.d < (C.length : Int) := by
  unfold rsn
  by_cases hv : x.v = true
  · simp [hv]
  · have hv2 : x.v = false := by simpa using hv
    by_cases h0 : C.length = 0
    · rw [if_neg hv, if_pos h0]
      constructor
      · intro h; exact absurd h (by decide)
      · intro h; omega
    · rw [if_neg hv, if_neg h0]
      by_cases h1 : x.d < 0 ∨ x.d ≥ (C.length : Int)
      · rw [if_pos h1]
        constructor
        · intro h; exact absurd h (by decide)
        · intro h; omega
      · rw [if_neg h1]
        exact ⟨fun _ => ⟨hv2, by omega, by omega⟩, fun _ => rfl⟩
theorem rit_some {C : List El} {x : It} (h : rsn C x = 0) : ∃ (hd : x.d.toNat < C.length), (ritS C x).n = (C[x.d.toNat]'hd).n ∧ (ritS C x).k = true := by
  obtain ⟨_, h1, h2⟩ := rsn_zero.1 h
  have hd : x.d.toNat < C.length := by omega
  refine ⟨hd, ?_, ?_⟩
  · unfold ritS; rw [if_pos h]; simp [List.getD, hd]
  · unfold ritS; rw [if_pos h]
theorem rit_none {C : List El} {x : It} (h : rsn C x ≠ 0) : ritS C x = ⟨false, ⟨#[]⟩, ⟨#[]⟩, ⟨#[]⟩, 0, false, x.j⟩ := by
  unfold ritS; rw [if_neg h]
/-- what the law of RecognizeLoses asks of an item -/
theorem loses_item {E : List El} (h : FitE E) (hv : ValE E) (x : It) (hd : 0 ≤ x.d) :
    (itemS E x).n ≤ (itemS E (bareI x)).n ∧ (itemS E ⟨x.c, x.d + 1, x.r, x.v, x.j⟩).n ≤ (itemS E x).n ∧ ((itemS E x).k = true → (itemS E (bareI x)).k = true) ∧ ((itemS E x).k = decide ((perfE E x).2 = 0)) ∧ ((itemS E x).k = false → itemS E x = ⟨false, ⟨#[]⟩, ⟨#[]⟩, ⟨#[]⟩, 0, false, x.j⟩) := by
  obtain ⟨n, C, hC, _, hlow⟩ := fit_chain h x.c
  have hf := chF_falls h n x.c C hC
  have e1 : itemS E x = ritS C x := item_eq hlow
  have e2 : itemS E (bareI x) = ritS C (bareI x) := item_eq hlow
  have e3 : itemS E ⟨x.c, x.d + 1, x.r, x.v, x.j⟩ = ritS C ⟨x.c, x.d + 1, x.r, x.v, x.j⟩ := item_eq hlow
  have p1 := itemS_val hv x
  have p2 := itemS_val hv (bareI x)
  rw [perf_eq hlow]
  rw [e1] at p1
  rw [e2] at p2
  rw [e1, e2, e3]
  by_cases h0 : rsn C x = 0
  · obtain ⟨k1, k2, k3⟩ := rsn_zero.1 h0
    obtain ⟨q1, q2, q3⟩ := rit_some h0
    have hb : rsn C (bareI x) = 0 := rsn_zero.2 ⟨rfl, Int.le_refl _, by show (0 : Int) < _; omega⟩
    obtain ⟨r1, r2, r3⟩ := rit_some hb
    refine ⟨?_, ?_, fun _ => r3, ?_, fun hk => ?_⟩
    · rw [q2, r2]
      exact falls_all hf _ q1
    · by_cases h1 : rsn C ⟨x.c, x.d + 1, x.r, x.v, x.j⟩ = 0
      · obtain ⟨s1, s2, _⟩ := rit_some h1
        rw [s2, q2]
        have ht : (x.d + 1).toNat = x.d.toNat + 1 := by omega
        simp only [ht] at s1 ⊢
        exact hf x.d.toNat s1
      · rw [rit_none h1]
        exact p1.1
    · rw [q3]; simp [h0]
    · rw [q3] at hk; exact absurd hk (by simp)
  · rw [rit_none h0]
    refine ⟨p2.1, ?_, fun hk => absurd hk (by simp), by simp [h0], fun _ => rfl⟩
    have h1 : rsn C ⟨x.c, x.d + 1, x.r, x.v, x.j⟩ ≠ 0 := fun h1 => h0 (by
      obtain ⟨a1, a2, a3⟩ := rsn_zero.1 h1
      simp only at a1 a2 a3
      exact rsn_zero.2 ⟨a1, hd, by omega⟩)
    rw [rit_none h1]
    exact Int.le_refl _
end Go.Proofs.Ytlleebgkglbelaa
