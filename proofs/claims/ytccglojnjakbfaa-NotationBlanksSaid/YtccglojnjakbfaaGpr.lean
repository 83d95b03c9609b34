/- Lines with any numbers of blanks are read: plain. -/
import Derived.Test.YtccglojnjakbfaaConP
set_option linter.unusedSimpArgs false
set_option linter.unusedVariables false
namespace Go.Proofs.Ytccglojnjakbfaa
open Go.RowKit

/-- items, each with the blanks behind it -/
def gprt : List (It × Nat) → List UInt8
  | [] => []
  | (x, n) :: t => x.c.data.toList ++ (mkL x ++ ((if x.j = true then [43] else List.replicate n 32) ++ gprt t))
def itsG (T : List (It × Nat)) : List It := T.map Prod.fst
theorem gprt_head {T : List (It × Nat)} (h : ∀ y ∈ T, okI y.1) : (gprt T).head? ≠ some 32 := by
  cases T with
  | nil => simp [gprt]
  | cons y t =>
    obtain ⟨x, n⟩ := y
    have hx := h (x, n) (by simp)
    intro e
    have hne := okI_ne hx
    have hc := okI_code hx
    cases hl : x.c.data.toList with
    | nil => exact absurd hl hne
    | cons c l =>
      rw [gprt, hl] at e
      simp at e
      have := hc c (by rw [hl]; simp)
      rw [e] at this
      revert this
      decide
theorem gprt_app (T U : List (It × Nat)) : gprt (T ++ U) = gprt T ++ gprt U := by
  induction T with
  | nil => rfl
  | cons y t ih =>
    obtain ⟨x, n⟩ := y
    rw [List.cons_append, gprt, gprt, ih]
    simp
/-- items that are each joined or followed by a blank -/
theorem con_walk {S : List UInt8} : ∀ (T : List (It × Nat)) (p : Nat) (acc : List It) (R : List UInt8), (∀ y ∈ T, okI y.1 ∧ (y.1.j = true ∨ 1 ≤ y.2)) → acc.length + T.length ≤ 30 → R ≠ [] → R.head? ≠ some 32 → S.drop p = gprt T ++ R →
    conP S p acc = conP S (p + (gprt T).length) (acc ++ itsG T) ∧ S.drop (p + (gprt T).length) = R
  | [], p, acc, R, _, _, _, _, hS => by
    refine ⟨by simp [gprt, itsG], by simpa [gprt] using hS⟩
  | (x, n) :: t, p, acc, R, hT, hlen, hR, hR2, hS => by
    obtain ⟨hx, hxn⟩ := hT (x, n) (by simp)
    simp only at hx hxn
    have ht : ∀ y ∈ t, okI y.1 ∧ (y.1.j = true ∨ 1 ≤ y.2) := fun y hy => hT y (by simp [hy])
    have hhead : (gprt t ++ R).head? ≠ some 32 := by
      cases t with
      | nil => simpa [gprt] using hR2
      | cons y u =>
        have := gprt_head (T := y :: u) (fun z hz => (ht z hz).1)
        cases hg : gprt (y :: u) with
        | nil =>
          obtain ⟨z, m⟩ := y
          rw [gprt] at hg
          have := okI_ne (ht (z, m) (by simp)).1
          simp at hg
          exact absurd (by rw [hg.1]) this
        | cons c l => rw [hg] at this; simpa using this
    have hlen2 : acc.length ≠ 30 := by simp at hlen; omega
    rw [gprt] at hS
    simp only [List.append_assoc] at hS
    cases hj : x.j with
    | true =>
      rw [hj, if_pos rfl, List.cons_append, List.nil_append] at hS
      obtain ⟨e1, e2⟩ := con_joined hx hj hlen2 hS
      obtain ⟨e3, e4⟩ := con_walk t _ (acc ++ [x]) R ht (by simp at hlen ⊢; omega) hR hR2 e2
      have hl : (gprt ((x, n) :: t)).length = x.c.size + (mkL x).length + 1 + (gprt t).length := by
        rw [gprt, hj, if_pos rfl]
        simp only [List.length_append, list_size, List.length_singleton]
        omega
      rw [hl, e1, e3]
      refine ⟨?_, ?_⟩
      · rw [show p + x.c.size + (mkL x).length + 1 + (gprt t).length = p + (x.c.size + (mkL x).length + 1 + (gprt t).length) by omega]
        simp [itsG]
      · rw [← e4]; congr 1; omega
    | false =>
      rw [hj, if_neg (by simp)] at hS
      obtain ⟨e1, e2⟩ := con_last (n := n) hx hj hlen2 hhead (Or.inr (hxn.resolve_left (by rw [hj]; simp))) hS
      have hne : gprt t ++ R ≠ [] := by simp [hR]
      rw [if_neg hne] at e1
      obtain ⟨e3, e4⟩ := con_walk t _ (acc ++ [x]) R ht (by simp at hlen ⊢; omega) hR hR2 e2
      have hl : (gprt ((x, n) :: t)).length = x.c.size + (mkL x).length + n + (gprt t).length := by
        rw [gprt, hj, if_neg (by simp)]
        simp only [List.length_append, list_size, List.length_replicate]
        omega
      rw [hl, e1, e3]
      refine ⟨?_, ?_⟩
      · rw [show p + x.c.size + (mkL x).length + n + (gprt t).length = p + (x.c.size + (mkL x).length + n + (gprt t).length) by omega]
        simp [itsG]
      · rw [← e4]; congr 1; omega
/-- blanks ahead of a line -/
theorem par_blanks {S R : List UInt8} {b : Nat} (hR : R ≠ []) (hR2 : R.head? ≠ some 32) (hS : S = List.replicate b 32 ++ R) : redP S (S.length + 1) 0 [] = conP S b [] := by
  rw [red_eq S 0 [] (Nat.zero_le _)]
  have hrun : runN blB S 0 = b := by
    unfold runN
    rw [List.drop_zero, hS, tw_all (p := blB) (l := List.replicate b 32) (m := R) (fun y hy => by rw [List.eq_of_mem_replicate hy]; rfl) (fun c hc => by
      unfold blB
      rw [beq_eq_false_iff_ne]
      intro e
      exact hR2 (by rw [hc, e]))]
    simp
  have : 0 < R.length := List.length_pos_iff.2 hR
  rw [hrun, if_neg (by rw [hS]; simp; omega), Nat.zero_add]
/-- a line with blanks is read -/
theorem par_gprt (b n : Nat) (T : List (It × Nat)) (x : It) (hT : ∀ y ∈ T, okI y.1 ∧ (y.1.j = true ∨ 1 ≤ y.2)) (hx : okI x) (hj : x.j = false) (hlen : T.length + 1 ≤ 30) :
    parP (List.replicate b 32 ++ (gprt T ++ (x.c.data.toList ++ (mkL x ++ List.replicate n 32)))) = (itsG T ++ [x], 0, 0) := by
  obtain ⟨S, hS⟩ : ∃ S, S = List.replicate b 32 ++ (gprt T ++ (x.c.data.toList ++ (mkL x ++ List.replicate n 32))) := ⟨_, rfl⟩
  rw [← hS]
  have hxne : x.c.data.toList ++ (mkL x ++ List.replicate n 32) ≠ [] := by simp [okI_ne hx]
  have hxh : (x.c.data.toList ++ (mkL x ++ List.replicate n 32)).head? ≠ some 32 := by
    have := gprt_head (T := [(x, n)]) (fun y hy => by simp at hy; rw [hy]; exact hx)
    rw [gprt, hj] at this
    simpa [gprt] using this
  have hne : gprt T ++ (x.c.data.toList ++ (mkL x ++ List.replicate n 32)) ≠ [] := by simp [okI_ne hx]
  have hh : (gprt T ++ (x.c.data.toList ++ (mkL x ++ List.replicate n 32))).head? ≠ some 32 := by
    have h1 := gprt_head (T := T) (fun y hy => (hT y hy).1)
    cases hg : gprt T with
    | nil => simpa using hxh
    | cons c l => rw [hg] at h1; simpa using h1
  have h0 := par_blanks hne hh hS
  have hSd : S.drop b = gprt T ++ (x.c.data.toList ++ (mkL x ++ List.replicate n 32)) := by
    rw [hS, List.drop_left' (by simp)]
  obtain ⟨e1, e2⟩ := con_walk T b [] _ hT (by simp; omega) hxne hxh hSd
  have hlT : (itsG T).length = T.length := by simp [itsG]
  obtain ⟨e3, e4⟩ := con_last (n := n) (R := []) (acc := [] ++ itsG T) hx hj (by rw [List.nil_append, hlT]; omega) (by simp) (Or.inl rfl) (by rw [e2]; simp)
  rw [if_pos rfl] at e3
  have h2 : redP S (S.length + 1) 0 [] = (0, itsG T ++ [x], S.length) := by rw [h0, e1, e3]; simp
  unfold parP
  rw [h2, if_pos rfl]
theorem prt_gprt (L : List It) (x : It) (hj : x.j = false) : prtS (L ++ [x]) = gprt (L.map (fun y => (y, 1))) ++ (x.c.data.toList ++ mkL x) := by
  induction L with
  | nil => simp [prtS, gprt, hj]
  | cons y t ih =>
    rw [List.cons_append, prtS, ih, List.map_cons, gprt]
    have : t ++ [x] ≠ [] := by simp
    rw [if_neg this]
    simp
theorem ok_of_err {L : List It} (h : errE L = 0) : ∀ x ∈ L, okI x := fun x hx => (err_zero h).2 x hx
theorem last_split {L : List It} (h : lastJ L = false) (hne : L ≠ []) : ∃ L' x, L = L' ++ [x] ∧ x.j = false := by
  refine ⟨L.dropLast, L.getLast hne, (List.dropLast_concat_getLast hne).symm, ?_⟩
  unfold lastJ at h
  rw [List.getLast?_eq_some_getLast hne] at h
  exact h
theorem itsG_one (L : List It) (n : Nat) : itsG (L.map (fun y => (y, n))) = L := by
  induction L with
  | nil => rfl
  | cons y t ih => rw [List.map_cons, itsG, List.map_cons]; exact congrArg (y :: ·) ih
/-- the canonical line is read back -/
theorem par_prt {L : List It} (h : chkL L = 0) : parP (prtS L) = (L, 0, 0) := by
  obtain ⟨h1, h2⟩ := chk_zero h
  have hok := ok_of_err h1
  have hln := (err_zero h1).1
  by_cases hne : L = []
  · subst hne; decide +kernel
  · obtain ⟨L', x, rfl, hj⟩ := last_split h2 hne
    rw [prt_gprt L' x hj]
    have := par_gprt 0 0 (L'.map (fun y => (y, 1))) x (fun y hy => by
      obtain ⟨z, hz, rfl⟩ := List.mem_map.1 hy
      exact ⟨hok z (by simp [hz]), Or.inr (Nat.le_refl _)⟩) (hok x (by simp)) hj (by simp at hln ⊢; omega)
    simp only [List.replicate_zero, List.append_nil, List.nil_append] at this
    rw [this, itsG_one]
end Go.Proofs.Ytccglojnjakbfaa
