/- Blanks put into canonical lines: plain. -/
import Derived.Test.YtccglojnjakbfaaInvP
set_option linter.unusedSimpArgs false
set_option linter.unusedVariables false
namespace Go.Proofs.Ytccglojnjakbfaa
open Go.RowKit

theorem mkL_chars {x : It} : ∀ c ∈ mkL x, c ≠ 32 ∧ c ≠ 43 := by
  intro c hc
  unfold mkL at hc
  simp only [List.mem_append] at hc
  rcases hc with hc | hc | hc
  · rw [List.eq_of_mem_replicate hc]; decide
  · split at hc
    · simp at hc; subst hc; decide
    · simp at hc
  · split at hc
    · simp at hc; subst hc; decide
    · simp at hc
theorem code_chars {x : It} (h : okI x) : ∀ c ∈ x.c.data.toList, c ≠ 32 ∧ c ≠ 43 := by
  intro c hc
  have := okI_code h c hc
  constructor
  · rintro rfl; revert this; decide
  · rintro rfl; revert this; decide
/-- where a blank or a plus stands in a canonical line -/
theorem sep_at : ∀ (L : List It), (∀ x ∈ L, okI x) → lastJ L = false → ∀ (k : Nat) (c : UInt8), (prtS L)[k]? = some c → (c = 32 ∨ c = 43) →
    ∃ (L1 : List It) (y : It) (L2 : List It), L = L1 ++ y :: L2 ∧ L2 ≠ [] ∧ c = (if y.j = true then 43 else 32) ∧ (prtS L).take k = gprt (L1.map (fun z => (z, 1))) ++ (y.c.data.toList ++ mkL y) ∧ (prtS L).drop k = c :: prtS L2
  | [], _, _, k, c, h, _ => by simp [prtS] at h
  | x :: t, hok, hj, k, c, h, hc => by
    have hx := hok x (by simp)
    obtain ⟨W, hW⟩ : ∃ W, x.c.data.toList ++ mkL x = W := ⟨_, rfl⟩
    have hWc : ∀ c ∈ W, c ≠ 32 ∧ c ≠ 43 := by
      intro d hd
      rw [← hW, List.mem_append] at hd
      rcases hd with hd | hd
      · exact code_chars hx d hd
      · exact mkL_chars d hd
    have hp : prtS (x :: t) = W ++ ((if x.j = true then [43] else if t = [] then [] else [32]) ++ prtS t) := by
      rw [prtS, ← List.append_assoc, hW]
    rw [hp] at h ⊢
    by_cases h1 : k < W.length
    · rw [List.getElem?_append_left h1] at h
      have := hWc c (List.mem_of_getElem? h)
      rcases hc with rfl | rfl
      · exact absurd rfl this.1
      · exact absurd rfl this.2
    · have htne : t ≠ [] := by
        intro e
        subst e
        have hxj : x.j = false := hj
        rw [hxj, if_neg (by simp), if_pos rfl, List.nil_append, prtS, List.append_nil, List.getElem?_eq_none (by omega)] at h
        exact absurd h (by simp)
      have hj2 : lastJ t = false := by
        obtain ⟨y, u, rfl⟩ := List.exists_cons_of_ne_nil htne
        unfold lastJ at hj ⊢
        rwa [List.getLast?_cons_cons] at hj
      rw [if_neg htne] at h ⊢
      obtain ⟨s, hs⟩ : ∃ s : UInt8, (if x.j = true then [(43 : UInt8)] else [32]) = [s] ∧ s = (if x.j = true then 43 else 32) := by
        cases x.j
        · exact ⟨32, rfl, rfl⟩
        · exact ⟨43, rfl, rfl⟩
      rw [hs.1] at h ⊢
      rw [List.getElem?_append_right (by omega)] at h
      by_cases h2 : k = W.length
      · subst h2
        simp at h
        subst h
        refine ⟨[], x, t, rfl, htne, hs.2, ?_, ?_⟩
        · rw [List.take_left' rfl]
          simp [gprt, hW]
        · rw [List.drop_left' rfl]
          rfl
      · obtain ⟨m, hm⟩ : ∃ m, k = W.length + 1 + m := ⟨k - (W.length + 1), by omega⟩
        have h3 : (prtS t)[m]? = some c := by
          rw [hm, show W.length + 1 + m - W.length = m + 1 by omega] at h
          simpa using h
        obtain ⟨L1, y, L2, e1, e2, e3, e4, e5⟩ := sep_at t (fun z hz => hok z (by simp [hz])) hj2 m c h3 hc
        refine ⟨x :: L1, y, L2, by rw [e1]; rfl, e2, e3, ?_, ?_⟩
        · have : (W ++ ([s] ++ prtS t)).take k = W ++ ([s] ++ (prtS t).take m) := by
            rw [hm, show W.length + 1 + m = W.length + (1 + m) by omega, List.take_append, List.take_of_length_le (by omega)]
            congr 1
            rw [show W.length + (1 + m) - W.length = m + 1 by omega]
            rfl
          rw [this, e4, List.map_cons, gprt, ← hW]
          have hse : (if x.j = true then [(43 : UInt8)] else List.replicate 1 32) = [s] := hs.1
          rw [hse]
          simp
        · have : (W ++ ([s] ++ prtS t)).drop k = (prtS t).drop m := by
            rw [hm, show W.length + 1 + m = W.length + (1 + m) by omega, List.drop_append, List.drop_of_length_le (by omega)]
            rw [show W.length + (1 + m) - W.length = m + 1 by omega]
            rfl
          rw [this, e5]
/-- where no item begins -/
theorem con_bad {S R : List UInt8} {p : Nat} {acc : List It} {c : UInt8} (hc : codeB c = false) (hS : S.drop p = c :: R) : conP S p acc = (2, acc, p) := by
  have hp : p ≤ S.length := Nat.le_of_lt (le_of_drop hS (by simp))
  have hi : itemP S p acc.length = (2, It.zero, p) := by
    unfold itemP
    have : runN codeB S p = 0 := by
      unfold runN
      rw [hS, List.takeWhile_cons_of_neg (by rw [hc]; simp)]
      rfl
    rw [if_pos this]
  rw [con_eq S p acc hp, hi, if_neg (by simp)]
theorem gone_ok {L1 : List It} (h : ∀ x ∈ L1, okI x) : ∀ y ∈ L1.map (fun z => (z, 1)), okI y.1 ∧ (y.1.j = true ∨ 1 ≤ y.2) := by
  intro y hy
  obtain ⟨z, hz, rfl⟩ := List.mem_map.1 hy
  exact ⟨h z hz, Or.inr (Nat.le_refl _)⟩
theorem last_text {L2 : List It} (hj : lastJ L2 = false) (hne : L2 ≠ []) : ∃ L' z, L2 = L' ++ [z] ∧ z.j = false ∧ prtS L2 = gprt (L'.map (fun y => (y, 1))) ++ (z.c.data.toList ++ mkL z) := by
  obtain ⟨L', z, rfl, hz⟩ := last_split hj hne
  exact ⟨L', z, rfl, hz, prt_gprt L' z hz⟩
theorem lastJ_tail {L1 L2 : List It} {y : It} (h : lastJ (L1 ++ y :: L2) = false) (hne : L2 ≠ []) : lastJ L2 = false := by
  obtain ⟨z, u, rfl⟩ := List.exists_cons_of_ne_nil hne
  unfold lastJ at h ⊢
  rw [List.getLast?_append, List.getLast?_cons_cons] at h
  cases hg : (z :: u).getLast? with
  | none => rfl
  | some x => rw [hg] at h; exact h
/-- blanks around a line -/
theorem blk_around {L : List It} (h : chkL L = 0) (hne : L ≠ []) : parP ([32, 32] ++ prtS L ++ [32]) = (L, 0, 0) := by
  obtain ⟨h1, h2⟩ := chk_zero h
  have hok := ok_of_err h1
  have hln := (err_zero h1).1
  obtain ⟨L', z, rfl, hz, ht⟩ := last_text h2 hne
  rw [ht]
  have := par_gprt 2 1 (L'.map (fun y => (y, 1))) z (gone_ok (fun x hx => hok x (by simp [hx]))) (hok z (by simp)) hz (by simp at hln ⊢; omega)
  rw [itsG_one] at this
  rw [← this]
  simp
/-- one more blank between chains, or beside a plus -/
theorem blk_in {L : List It} (h : chkL L = 0) {k : Nat} {c : UInt8} (hk : (prtS L)[k]? = some c) (hc : c = 32 ∨ c = 43) :
    (parP ((prtS L).take k ++ [32] ++ (prtS L).drop k) = if c = 43 then ([], 2, ((k + 1 : Nat) : Int)) else (L, 0, 0)) ∧
    (parP ((prtS L).take (k + 1) ++ [32] ++ (prtS L).drop (k + 1)) = if c = 43 then ([], 2, ((k + 1 : Nat) : Int)) else (L, 0, 0)) := by
  obtain ⟨h1, h2⟩ := chk_zero h
  have hok := ok_of_err h1
  have hln := (err_zero h1).1
  have hlt : k < (prtS L).length := (List.getElem?_eq_some_iff.1 hk).1
  obtain ⟨L1, y, L2, e1, e2, e3, e4, e5⟩ := sep_at L hok h2 k c hk hc
  have ok1 : ∀ x ∈ L1, okI x := fun x hx => hok x (by rw [e1]; simp [hx])
  have oky : okI y := hok y (by rw [e1]; simp)
  have ok2 : ∀ x ∈ L2, okI x := fun x hx => hok x (by rw [e1]; simp [hx])
  have hlen : L1.length + 1 + L2.length ≤ 30 := by rw [e1] at hln; simp at hln; omega
  have hkl : k = (gprt (L1.map (fun z => (z, 1)))).length + (y.c.size + (mkL y).length) := by
    have := congrArg List.length e4
    rw [List.length_take] at this
    simp only [List.length_append, list_size] at this
    omega
  have ht1 : (prtS L).take (k + 1) = (prtS L).take k ++ [c] := by
    rw [List.take_add_one, hk]; rfl
  have hd1 : (prtS L).drop (k + 1) = prtS L2 := by
    rw [← List.drop_drop, e5]; rfl
  rw [ht1, hd1, e4, e5]
  by_cases hc43 : c = 43
  · have hyj : y.j = true := by
      cases hy : y.j with
      | true => rfl
      | false => rw [hy, hc43] at e3; exact absurd e3 (by decide)
    rw [if_pos hc43, hc43]
    have hG : gprt (L1.map (fun z => (z, 1))) ++ (y.c.data.toList ++ (mkL y ++ (43 :: 32 :: prtS L2))) = gprt (L1.map (fun z => (z, 1))) ++ (y.c.data.toList ++ mkL y) ++ [43] ++ [32] ++ prtS L2 := by simp
    have hH : gprt (L1.map (fun z => (z, 1)) ++ [(⟨y.c, y.d, y.r, y.v, false⟩, 1)]) ++ (43 :: prtS L2) = gprt (L1.map (fun z => (z, 1))) ++ (y.c.data.toList ++ mkL y) ++ [32] ++ 43 :: prtS L2 := by
      rw [gprt_app]
      simp [gprt, mkL]
    have headW : ∀ (R : List UInt8), (gprt (L1.map (fun z => (z, 1))) ++ (y.c.data.toList ++ R)).head? ≠ some 32 := by
      intro R
      have a1 := gprt_head (T := L1.map (fun z => (z, 1))) (fun z hz => (gone_ok ok1 z hz).1)
      cases hg : gprt (L1.map (fun z => (z, 1))) with
      | cons d u => rw [hg] at a1; simpa using a1
      | nil =>
        rw [List.nil_append]
        cases hl : y.c.data.toList with
        | nil => exact absurd hl (okI_ne oky)
        | cons d u =>
          have := code_chars oky d (by rw [hl]; simp)
          simp only [List.cons_append, List.head?_cons, ne_eq, Option.some.injEq]
          exact this.1
    have headY : ∀ (R : List UInt8), (y.c.data.toList ++ R).head? ≠ some 32 := by
      intro R
      cases hl : y.c.data.toList with
      | nil => exact absurd hl (okI_ne oky)
      | cons d u =>
        have := code_chars oky d (by rw [hl]; simp)
        simp only [List.cons_append, List.head?_cons, ne_eq, Option.some.injEq]
        exact this.1
    constructor
    · rw [← hH]
      obtain ⟨S, hS⟩ : ∃ S, S = gprt (L1.map (fun z => (z, 1)) ++ [(⟨y.c, y.d, y.r, y.v, false⟩, 1)]) ++ (43 :: prtS L2) := ⟨_, rfl⟩
      rw [← hS]
      have oky' : okI ⟨y.c, y.d, y.r, y.v, false⟩ := oky
      have h0 := par_blanks (S := S) (R := S) (b := 0) (by rw [hS]; simp) (by
        rw [hS, hH]
        have := headW (mkL y ++ ([32] ++ 43 :: prtS L2))
        simpa using this) rfl
      obtain ⟨c1, c2⟩ := con_walk (S := S) (L1.map (fun z => (z, 1)) ++ [(⟨y.c, y.d, y.r, y.v, false⟩, 1)]) 0 [] (43 :: prtS L2) (fun z hz => by
        rw [List.mem_append, List.mem_singleton] at hz
        rcases hz with hz | rfl
        · exact gone_ok ok1 z hz
        · exact ⟨oky', Or.inr (Nat.le_refl _)⟩) (by simp; omega) (by simp) (by simp) (by rw [List.drop_zero]; exact hS)
      have c3 := con_bad (acc := [] ++ itsG (L1.map (fun z => (z, 1)) ++ [(⟨y.c, y.d, y.r, y.v, false⟩, 1)])) (c := 43) (by decide) c2
      rw [← c1, ← h0] at c3
      have hpos : 0 + (gprt (L1.map (fun z => (z, 1)) ++ [(⟨y.c, y.d, y.r, y.v, false⟩, 1)])).length = k + 1 := by
        rw [gprt_app, hkl]
        simp [gprt, mkL]
        omega
      rw [hpos] at c3
      unfold parP
      rw [c3, if_neg (by simp)]
    · rw [← hG]
      obtain ⟨S, hS⟩ : ∃ S, S = gprt (L1.map (fun z => (z, 1))) ++ (y.c.data.toList ++ (mkL y ++ (43 :: 32 :: prtS L2))) := ⟨_, rfl⟩
      rw [← hS]
      have h0 := par_blanks (S := S) (R := S) (b := 0) (by rw [hS]; simp [okI_ne oky]) (by rw [hS]; exact headW _) rfl
      obtain ⟨c1, c2⟩ := con_walk (S := S) (L1.map (fun z => (z, 1))) 0 [] (y.c.data.toList ++ (mkL y ++ (43 :: 32 :: prtS L2))) (gone_ok ok1) (by simp; omega) (by simp [okI_ne oky]) (headY _) (by rw [List.drop_zero]; exact hS)
      have hl1 : (itsG (L1.map (fun z => (z, 1)))).length = L1.length := by rw [itsG_one]
      obtain ⟨d1, d2⟩ := con_joined (acc := [] ++ itsG (L1.map (fun z => (z, 1)))) oky hyj (by rw [List.nil_append, hl1]; omega) c2
      have c3 := con_bad (acc := ([] ++ itsG (L1.map (fun z => (z, 1)))) ++ [y]) (c := 32) (by decide) d2
      rw [← d1, ← c1, ← h0] at c3
      have hpos : 0 + (gprt (L1.map (fun z => (z, 1)))).length + y.c.size + (mkL y).length + 1 = k + 1 := by omega
      rw [hpos] at c3
      unfold parP
      rw [c3, if_neg (by simp)]
  · have hc32 : c = 32 := hc.resolve_right hc43
    have hyj : y.j = false := by
      cases hy : y.j with
      | false => rfl
      | true => rw [hy, hc32] at e3; exact absurd e3 (by decide)
    rw [if_neg hc43, hc32]
    obtain ⟨L', z, rfl, hz, ht⟩ := last_text (lastJ_tail (by rw [← e1]; exact h2) e2) e2
    have hpar := par_gprt 0 0 (L1.map (fun z => (z, 1)) ++ (y, 2) :: L'.map (fun z => (z, 1))) z (fun q hq => by
      rw [List.mem_append, List.mem_cons] at hq
      rcases hq with hq | rfl | hq
      · exact gone_ok ok1 q hq
      · exact ⟨oky, Or.inr (Nat.le_succ 1)⟩
      · exact gone_ok (fun x hx => ok2 x (by simp [hx])) q hq) (ok2 z (by simp)) hz (by simp at hlen ⊢; omega)
    have hits : itsG (L1.map (fun z => (z, 1)) ++ (y, 2) :: L'.map (fun z => (z, 1))) ++ [z] = L := by
      have a1 := itsG_one L1 1
      have a2 := itsG_one L' 1
      unfold itsG at a1 a2 ⊢
      rw [List.map_append, List.map_cons, a1, a2, e1]
      simp
    rw [hits] at hpar
    have htx : gprt (L1.map (fun z => (z, 1)) ++ (y, 2) :: L'.map (fun z => (z, 1))) ++ (z.c.data.toList ++ mkL z) = gprt (L1.map (fun z => (z, 1))) ++ (y.c.data.toList ++ mkL y) ++ [32] ++ 32 :: prtS (L' ++ [z]) := by
      rw [gprt_app, gprt, hyj, ht]
      simp [List.replicate]
    simp only [List.replicate_zero, List.append_nil, List.nil_append] at hpar
    rw [htx] at hpar
    refine ⟨hpar, ?_⟩
    rw [← hpar]
    congr 1
    simp
end Go.Proofs.Ytccglojnjakbfaa
