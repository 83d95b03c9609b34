/- What a valid small catalog gives: the code's chains and the reference's are the same. -/
import Derived.Test.YtlleebgkglbelaaFit
import Derived.Test.YtlleebgkglbelaaRim
import Derived.Sort.Walk0
set_option linter.unusedSimpArgs false
set_option linter.unusedVariables false
namespace Go.Proofs.Ytlleebgkglbelaa
open Go.RowKit

theorem lessB_trans {a b c : ByteArray} (h1 : lessB a b = true) (h2 : lessB b c = true) : lessB a c = true := by
  unfold lessB at *
  rw [bytesLess_eq, decide_eq_true_eq] at *
  exact List.lt_trans h1 h2
theorem lessB_irrefl (a : ByteArray) : lessB a a = false := by
  unfold lessB
  rw [bytesLess_eq, decide_eq_false_iff_not]
  exact List.lt_irrefl _
theorem ris_lt {E : List El} (h : RisE E) : ∀ (d i : Nat) (hi : i + d + 1 < E.length), lessB (E[i]'(by omega)).c (E[i + d + 1]'hi).c = true
  | 0, i, hi => h i hi
  | d + 1, i, hi => lessB_trans (ris_lt h d i (by omega)) (h (i + d + 1) hi)
theorem ris_dist {E : List El} (h : RisE E) : DistE E := by
  unfold DistE
  rw [List.pairwise_iff_getElem]
  intro i j hi hj hij e
  have := ris_lt h (j - i - 1) i (by omega)
  simp only [show i + (j - i - 1) + 1 = j by omega] at this
  rw [e, lessB_irrefl] at this
  exact absurd this (by simp)
theorem dist_inj : ∀ {E : List El}, DistE E → ∀ {x y : El}, x ∈ E → y ∈ E → x.c = y.c → x = y
  | [], _, x, y, hx, _, _ => absurd hx (by simp)
  | z :: t, h, x, y, hx, hy, e => by
    unfold DistE at h
    rw [List.pairwise_cons] at h
    rcases List.mem_cons.1 hx with h1 | h1
    · rcases List.mem_cons.1 hy with h2 | h2
      · rw [h1, h2]
      · subst h1; exact absurd e (h.1 _ h2)
    · rcases List.mem_cons.1 hy with h2 | h2
      · subst h2; exact absurd e.symm (h.1 _ h1)
      · exact dist_inj h.2 h1 h2 e
theorem getE_c {L : List El} {s : ByteArray} {x : El} (h : getE L s = some x) : x.c = s := by
  have := List.find?_some h
  simpa using this
theorem fst_get {E : List El} (h : DistE E) (s : ByteArray) : fstE E s = getE E s := by
  cases h1 : fstE E s with
  | none =>
    cases h2 : getE E s with
    | none => rfl
    | some y =>
      unfold fstE at h1
      rw [List.find?_eq_none] at h1
      have := h1 y (getE_mem h2)
      simp [getE_c h2] at this
  | some x =>
    obtain ⟨hx, hc⟩ := fstE_mem h1
    cases h2 : getE E s with
    | none =>
      unfold getE at h2
      rw [List.find?_eq_none] at h2
      have := h2 x (List.mem_reverse.2 hx)
      simp [hc] at this
    | some y => rw [dist_inj h hx (getE_mem h2) (by rw [hc, getE_c h2])]
theorem chF_det {E : List El} : ∀ (m m' : Nat) (s : ByteArray) (C C' : List El), chF E m s = some C → chF E m' s = some C' → C = C'
  | 0, _, _, _, _, h, _ => by rw [chF] at h; exact absurd h (by simp)
  | _ + 1, 0, _, _, _, _, h => by rw [chF] at h; exact absurd h (by simp)
  | m + 1, m' + 1, s, C, C', h1, h2 => by
    rw [chF] at h1 h2
    cases hx : fstE E s with
    | none =>
      rw [hx] at h1 h2
      simp only [Option.some.injEq] at h1 h2
      rw [← h1, ← h2]
    | some x =>
      rw [hx] at h1 h2
      simp only [Option.map_eq_some_iff] at h1 h2
      obtain ⟨D, hD, rfl⟩ := h1
      obtain ⟨D', hD', rfl⟩ := h2
      rw [chF_det m m' x.l D D' hD hD']
theorem chF_suf {E : List El} : ∀ (m : Nat) (s : ByteArray) (C : List El), chF E m s = some C → ∀ x ∈ C, ∃ m' D, chF E m' x.l = some D ∧ D.length < C.length
  | 0, _, _, h => by rw [chF] at h; exact absurd h (by simp)
  | m + 1, s, C, h => by
    rw [chF] at h
    cases hx : fstE E s with
    | none =>
      rw [hx] at h
      simp only [Option.some.injEq] at h
      subst h
      intro x hx
      exact absurd hx (by simp)
    | some y =>
      rw [hx] at h
      simp only [Option.map_eq_some_iff] at h
      obtain ⟨D, hD, rfl⟩ := h
      intro x hx
      rcases List.mem_cons.1 hx with rfl | hx
      · exact ⟨m, D, hD, by simp⟩
      · obtain ⟨m', D', h1, h2⟩ := chF_suf m y.l D hD x hx
        exact ⟨m', D', h1, by rw [List.length_cons]; omega⟩
theorem chF_sub {E : List El} : ∀ (m : Nat) (s : ByteArray) (C : List El), chF E m s = some C → (∀ x ∈ C, x ∈ E) ∧ C.Nodup
  | 0, _, _, h => by rw [chF] at h; exact absurd h (by simp)
  | m + 1, s, C, h => by
    rw [chF] at h
    cases hx : fstE E s with
    | none =>
      rw [hx] at h
      simp only [Option.some.injEq] at h
      subst h
      exact ⟨fun x hx => absurd hx (by simp), List.nodup_nil⟩
    | some y =>
      rw [hx] at h
      simp only [Option.map_eq_some_iff] at h
      obtain ⟨D, hD, rfl⟩ := h
      obtain ⟨h1, h2⟩ := chF_sub m y.l D hD
      refine ⟨fun x hm => ?_, List.nodup_cons.2 ⟨fun hm => ?_, h2⟩⟩
      · rcases List.mem_cons.1 hm with rfl | hm
        · exact (fstE_mem hx).1
        · exact h1 x hm
      · obtain ⟨m', D', e1, e2⟩ := chF_suf m y.l D hD y hm
        have := chF_det m m' y.l D D' hD e1
        subst this
        omega
theorem nodup_len : ∀ (C E : List El), C.Nodup → (∀ x ∈ C, x ∈ E) → C.length ≤ E.length
  | [], _, _, _ => Nat.zero_le _
  | x :: C, E, hn, hs => by
    rw [List.nodup_cons] at hn
    have hx := hs x (List.mem_cons_self ..)
    have := nodup_len C (E.erase x) hn.2 (fun y hy => by
      have hne : y ≠ x := fun e => hn.1 (e ▸ hy)
      exact (List.mem_erase_of_ne hne).2 (hs y (List.mem_cons_of_mem _ hy)))
    rw [List.length_erase_of_mem hx] at this
    have := List.length_pos_of_mem hx
    rw [List.length_cons]
    omega
theorem chn_eq {E : List El} (hd : ∀ s, fstE E s = getE E s) : ∀ (m n : Nat) (s : ByteArray) (C : List El), chF E m s = some C → C.length ≤ n → chnO E n (getE E s) = C
  | 0, _, _, _, h, _ => by rw [chF] at h; exact absurd h (by simp)
  | m + 1, n, s, C, h, hl => by
    rw [chF, hd s] at h
    cases hx : getE E s with
    | none =>
      rw [hx] at h
      simp only [Option.some.injEq] at h
      subst h
      cases n <;> rfl
    | some x =>
      rw [hx] at h
      simp only [Option.map_eq_some_iff] at h
      obtain ⟨D, hD, rfl⟩ := h
      cases n with
      | zero => simp at hl
      | succ n => rw [chnO, chn_eq hd m n x.l D hD (by simpa using hl)]
theorem codeS_ne {s : ByteArray} (h : codeS s = true) : s ≠ ⟨#[]⟩ := by
  rintro rfl
  exact absurd h (by decide +kernel)
theorem fl_chF {E : List El} (he : fstE E ⟨#[]⟩ = none) : ∀ (n : Nat) (x : El), FlE E n x → ∃ C, chF E (n + 1) x.l = some C
  | 0, x, h => by
    rw [FlE] at h
    exact ⟨[], by rw [chF, h, he]⟩
  | n + 1, x, h => by
    rw [FlE] at h
    rcases h with h | ⟨y, hy, _, hf⟩
    · exact ⟨[], by rw [chF, h, he]⟩
    · obtain ⟨C, hC⟩ := fl_chF he n y hf
      exact ⟨y :: C, by rw [chF, hy]; simp [hC]⟩
/-- the chain of a code, in a valid small catalog -/
theorem fit_chain {E : List El} (h : FitE E) (s : ByteArray) : ∃ n C, chF E n s = some C ∧ C.length ≤ 1000000 ∧ lowL E s = C := by
  have hd := ris_dist h.ris
  have hfg := fst_get hd
  have he : fstE E ⟨#[]⟩ = none := by
    cases hx : fstE E ⟨#[]⟩ with
    | none => rfl
    | some x =>
      obtain ⟨hm, hc⟩ := fstE_mem hx
      obtain ⟨j, hj, rfl⟩ := List.mem_iff_getElem.1 hm
      exact absurd hc (codeS_ne (h.nam j hj).1)
  have hex : ∃ n C, chF E n s = some C := by
    cases hx : fstE E s with
    | none => exact ⟨1, [], by rw [chF, hx]⟩
    | some x =>
      obtain ⟨hm, _⟩ := fstE_mem hx
      obtain ⟨j, hj, rfl⟩ := List.mem_iff_getElem.1 hm
      obtain ⟨n, _, hf⟩ := h.fal j hj
      obtain ⟨C, hC⟩ := fl_chF he n _ hf
      exact ⟨n + 2, E[j] :: C, by rw [chF, hx]; simp [hC]⟩
  obtain ⟨n, C, hC⟩ := hex
  obtain ⟨h1, h2⟩ := chF_sub n s C hC
  have hl := nodup_len C E h2 h1
  have := h.len
  refine ⟨n, C, hC, by omega, ?_⟩
  unfold lowL
  exact chn_eq hfg n _ s C hC (by unfold szE; rw [sizeE hd]; exact hl)
theorem perf_eq {E : List El} {x : It} {C : List El} (h : lowL E x.c = C) : (perfE E x).2 = rsn C x := by
  unfold perfE lowE rsn
  rw [h]
  by_cases hv : x.v = true
  · rw [if_pos hv, if_pos hv]
  · rw [if_neg hv, if_neg hv]
    by_cases h0 : C.length = 0
    · simp [h0]
    · rw [if_neg h0, if_neg h0]
      by_cases h1 : x.d < 0
      · simp [h1]
      · by_cases h2 : x.d ≥ (C.length : Int)
        · simp [h1, h2]
        · simp [h1, h2]
theorem item_eq {E : List El} {x : It} {C : List El} (h : lowL E x.c = C) : itemS E x = ritS C x := by
  unfold itemS ritS
  rw [perf_eq h]
  by_cases h0 : rsn C x = 0
  · rw [if_pos h0, if_pos h0]
    have hp : (perfE E x).1 = C.getD x.d.toNat El.zero := by
      unfold rsn at h0
      unfold perfE lowE
      rw [h]
      by_cases hv : x.v = true
      · rw [if_pos hv] at h0; exact absurd h0 (by decide)
      · rw [if_neg hv] at h0 ⊢
        by_cases hl : C.length = 0
        · rw [if_pos hl] at h0; exact absurd h0 (by decide)
        · rw [if_neg hl] at h0 ⊢
          by_cases h1 : x.d < 0 ∨ x.d ≥ (C.length : Int)
          · rw [if_pos h1] at h0; exact absurd h0 (by decide)
          · have e1 : ¬ x.d < 0 := fun e => h1 (Or.inl e)
            have e2 : ¬ x.d ≥ (C.length : Int) := fun e => h1 (Or.inr e)
            simp [e1, e2]
    rw [hp]
  · rw [if_neg h0, if_neg h0]
end Go.Proofs.Ytlleebgkglbelaa
