/- What is read from a line is proper, and its canonical line is not longer: plain. -/
import Derived.Test.YtccglojnjakbfaaGpr
import Derived.Test.YtccglojnjakbfaaPar
set_option linter.unusedSimpArgs false
set_option linter.unusedVariables false
namespace Go.Proofs.Ytccglojnjakbfaa
open Go.RowKit

/-- what items take, each with the sign behind it -/
def wtX (L : List It) : Nat := (L.map (fun x => x.c.size + (mkL x).length + 1)).sum
theorem wtX_app (L M : List It) : wtX (L ++ M) = wtX L + wtX M := by unfold wtX; simp
theorem wtX_one (x : It) : wtX [x] = x.c.size + (mkL x).length + 1 := by simp [wtX]
theorem prt_wt : ∀ (L : List It), lastJ L = false → L ≠ [] → (prtS L).length + 1 = wtX L
  | [], _, h => absurd rfl h
  | [x], hj, _ => by
    have hx : x.j = false := hj
    rw [wtX_one, prtS, prtS, hx]
    simp only [Bool.false_eq_true, if_false, if_true, List.append_nil, List.length_append, list_size]
  | x :: y :: t, hj, _ => by
    have hj2 : lastJ (y :: t) = false := by
      unfold lastJ at hj ⊢
      rwa [List.getLast?_cons_cons] at hj
    have ih := prt_wt (y :: t) hj2 (by simp)
    rw [prtS, show wtX (x :: y :: t) = wtX [x] + wtX (y :: t) from wtX_app [x] (y :: t), wtX_one, ← ih, if_neg (show ¬ (y :: t) = [] by simp)]
    simp only [List.length_append, list_size]
    have : (if x.j = true then [(43 : UInt8)] else [32]).length = 1 := by split <;> rfl
    omega
theorem mkL_size (d : Int) (r v : Bool) (c : ByteArray) (j : Bool) : (mkL ⟨c, d, r, v, j⟩).length = d.toNat + (if r = true then 1 else 0) + (if v = true then 1 else 0) := by
  unfold mkL
  cases r <;> cases v <;> simp
theorem markR_inv : ∀ (l : List UInt8) (p : Nat) (x : It), 0 ≤ x.d → x.d ≤ 9 → (markR l p x).1 = 0 →
    (markR l p x).2.1.c = x.c ∧ 0 ≤ (markR l p x).2.1.d ∧ (markR l p x).2.1.d ≤ 9 ∧ (mkL (markR l p x).2.1).length + p = (mkL x).length + (markR l p x).2.2
  | [], p, x, h0, h9, _ => ⟨rfl, h0, h9, rfl⟩
  | c :: t, p, x, h0, h9, h => by
    obtain ⟨xc, xd, xr, xv, xj⟩ := x
    simp only at h0 h9
    rw [markR] at h ⊢
    simp only at h ⊢
    by_cases h60 : c = 60
    · rw [if_pos h60] at h ⊢
      by_cases hd : xd = 9
      · rw [if_pos hd] at h; exact absurd h (by simp)
      · rw [if_neg hd] at h ⊢
        obtain ⟨e1, e2, e3, e4⟩ := markR_inv t (p + 1) ⟨xc, xd + 1, xr, xv, xj⟩ (by simp; omega) (by simp; omega) h
        refine ⟨e1, e2, e3, ?_⟩
        have a1 := mkL_size (xd + 1) xr xv xc xj
        have a2 := mkL_size xd xr xv xc xj
        omega
    · rw [if_neg h60] at h ⊢
      by_cases h63 : c = 63
      · rw [if_pos h63] at h ⊢
        by_cases hr : xr = true
        · rw [if_pos hr] at h; exact absurd h (by simp)
        · rw [if_neg hr] at h ⊢
          obtain ⟨e1, e2, e3, e4⟩ := markR_inv t (p + 1) ⟨xc, xd, true, xv, xj⟩ h0 h9 h
          refine ⟨e1, e2, e3, ?_⟩
          have a1 := mkL_size xd true xv xc xj
          have a2 := mkL_size xd xr xv xc xj
          rw [if_pos rfl] at a1
          rw [if_neg hr] at a2
          omega
      · rw [if_neg h63] at h ⊢
        by_cases h42 : c = 42
        · rw [if_pos h42] at h ⊢
          by_cases hv : xv = true
          · rw [if_pos hv] at h; exact absurd h (by simp)
          · rw [if_neg hv] at h ⊢
            obtain ⟨e1, e2, e3, e4⟩ := markR_inv t (p + 1) ⟨xc, xd, xr, true, xj⟩ h0 h9 h
            refine ⟨e1, e2, e3, ?_⟩
            have a1 := mkL_size xd xr true xc xj
            have a2 := mkL_size xd xr xv xc xj
            rw [if_pos rfl] at a1
            rw [if_neg hv] at a2
            omega
        · rw [if_neg h42] at h ⊢
          exact ⟨rfl, h0, h9, rfl⟩
theorem itemP_inv {L : List UInt8} {p n : Nat} (h : (itemP L p n).1 = 0) : okI (itemP L p n).2.1 ∧ (itemP L p n).2.1.c.size + (mkL (itemP L p n).2.1).length + p = (itemP L p n).2.2 := by
  unfold itemP at h ⊢
  by_cases hr : runN codeB L p = 0
  · rw [if_pos hr] at h; exact absurd h (by simp)
  · rw [if_neg hr] at h ⊢
    by_cases hn : n = 30
    · rw [if_pos hn] at h; exact absurd h (by simp)
    · rw [if_neg hn] at h ⊢
      by_cases hc : codeS (bs ((L.drop p).takeWhile codeB)) = false
      · rw [if_pos hc] at h; exact absurd h (by simp)
      · rw [if_neg hc] at h ⊢
        obtain ⟨e1, e2, e3, e4⟩ := markR_inv _ _ _ (by simp) (by simp) h
        refine ⟨⟨by rw [e1]; simpa using hc, e2, e3⟩, ?_⟩
        rw [e1]
        have h0 : (mkL (⟨bs ((L.drop p).takeWhile codeB), 0, false, false, false⟩ : It)).length = 0 := by simp [mkL]
        have hs : (bs ((L.drop p).takeWhile codeB)).size = runN codeB L p := by rw [bs_size]; rfl
        rw [h0] at e4
        rw [hs]
        omega
theorem chnP_inv (L : List UInt8) : ∀ (f p : Nat) (acc : List It), p ≤ L.length → L.length < p + f → (chnP L f p acc).1 = 0 → (∀ x ∈ acc, okI x) →
    (∀ x ∈ (chnP L f p acc).2.1, okI x) ∧ lastJ (chnP L f p acc).2.1 = false ∧ (chnP L f p acc).2.1 ≠ [] ∧ wtX (chnP L f p acc).2.1 + p = wtX acc + (chnP L f p acc).2.2 + 1
  | 0, p, acc, hp, hf, _, _ => by omega
  | f + 1, p, acc, hp, hf, h, hacc => by
    rw [chnP] at h ⊢
    by_cases h0 : (itemP L p acc.length).1 = 0
    · rw [if_pos h0] at h ⊢
      have hat := itemP_at L p acc.length hp
      have hpq := hat.2.2 h0
      obtain ⟨hok, hw⟩ := itemP_inv h0
      have hj := itemP_j L p acc.length
      by_cases h1 : isAt 43 L (itemP L p acc.length).2.2 = true
      · rw [if_pos h1] at h ⊢
        have hlt := isAt_lt h1
        generalize itemP L p acc.length = t at *
        obtain ⟨e, ⟨xc, xd, xr, xv, xj⟩, q⟩ := t
        simp only at h hok hw hlt hpq ⊢
        obtain ⟨a1, a2, a3, a4⟩ := chnP_inv L f (q + 1) (acc ++ [⟨xc, xd, xr, xv, true⟩]) (by omega) (by omega) h (fun x hx => by
          rw [List.mem_append, List.mem_singleton] at hx
          rcases hx with hx | rfl
          · exact hacc x hx
          · exact hok)
        refine ⟨a1, a2, a3, ?_⟩
        rw [wtX_app, wtX_one] at a4
        have m1 := mkL_size xd xr xv xc xj
        have m2 := mkL_size xd xr xv xc true
        simp only at a4
        omega
      · rw [if_neg h1] at h ⊢
        refine ⟨fun x hx => ?_, ?_, by simp, ?_⟩
        · rw [List.mem_append, List.mem_singleton] at hx
          rcases hx with hx | rfl
          · exact hacc x hx
          · exact hok
        · unfold lastJ; rw [List.getLast?_concat]; exact hj
        · rw [wtX_app, wtX_one]
          simp only
          omega
    · rw [if_neg h0] at h; exact absurd h h0
theorem redP_inv (L : List UInt8) : ∀ (f p : Nat) (acc : List It), p ≤ L.length → L.length < p + f → (redP L f p acc).1 = 0 → (∀ x ∈ acc, okI x) → lastJ acc = false → (acc ≠ [] → (p = L.length ∨ isAt 32 L p = true) ∧ wtX acc ≤ p + 1) →
    (∀ x ∈ (redP L f p acc).2.1, okI x) ∧ lastJ (redP L f p acc).2.1 = false ∧ ((redP L f p acc).2.1 ≠ [] → wtX (redP L f p acc).2.1 ≤ L.length + 1)
  | 0, p, acc, hp, hf, _, _, _, _ => by omega
  | f + 1, p, acc, hp, hf, h, hok, hj, hw => by
    rw [redP] at h ⊢
    have hr := runN_le blB L p hp
    by_cases h0 : p + runN blB L p = L.length
    · rw [if_pos h0]
      exact ⟨hok, hj, fun hne => by have := (hw hne).2; simp only; omega⟩
    · rw [if_neg h0] at h ⊢
      have hc := chnP_at L (L.length + 1) (p + runN blB L p) acc hr (by omega)
      by_cases h1 : (chnP L (L.length + 1) (p + runN blB L p) acc).1 = 0
      · rw [if_pos h1] at h ⊢
        have hq := hc.2.2 h1
        obtain ⟨a1, a2, a3, a4⟩ := chnP_inv L (L.length + 1) (p + runN blB L p) acc hr (by omega) h1 hok
        by_cases h2 : (chnP L (L.length + 1) (p + runN blB L p) acc).2.2 = L.length ∨ isAt 32 L (chnP L (L.length + 1) (p + runN blB L p) acc).2.2 = true
        · rw [if_pos h2] at h ⊢
          refine redP_inv L f _ _ hc.2.1 (by omega) h a1 a2 (fun _ => ⟨h2, ?_⟩)
          by_cases hne : acc = []
          · rw [hne] at a4
            simp only [wtX, List.map_nil, List.sum_nil] at a4
            rw [hne]
            simp only [wtX] at a4 ⊢
            omega
          · obtain ⟨b1, b2⟩ := hw hne
            rcases b1 with b1 | b1
            · omega
            · have hrun : 1 ≤ runN blB L p := by
                have hlt := isAt_lt b1
                unfold runN
                rw [List.drop_eq_getElem_cons hlt]
                have : L[p] = 32 := by
                  unfold isAt at b1
                  rw [List.getElem?_eq_getElem hlt] at b1
                  simpa using b1
                rw [this, List.takeWhile_cons_of_pos (by rfl)]
                simp
              omega
        · rw [if_neg h2] at h
          exact absurd h (by simp)
      · rw [if_neg h1] at h; exact absurd h h1
theorem errE_ok {L : List It} (h1 : L.length ≤ 30) (h2 : ∀ x ∈ L, okI x) : errE L = 0 := by
  unfold errE
  have b1 : L.any badC = false := by
    rw [List.any_eq_false]
    intro x hx
    unfold badC
    rw [(h2 x hx).1]
    simp
  have b2 : L.any badD = false := by
    rw [List.any_eq_false]
    intro x hx
    unfold badD
    have := (h2 x hx).2
    rw [decide_eq_false (by omega), decide_eq_false (by omega)]
    simp
  rw [if_neg (by omega), b1, b2]
  rfl
/-- what is read is proper -/
theorem par_chk (L : List UInt8) (h : (parP L).2.1 = 0) : chkL (parP L).1 = 0 ∧ (prtS (parP L).1).length ≤ L.length := by
  have hln := redP_len L (L.length + 1) 0 [] (by simp)
  have hiv := redP_inv L (L.length + 1) 0 [] (Nat.zero_le _) (by omega)
  unfold parP at h ⊢
  by_cases h0 : (redP L (L.length + 1) 0 []).1 = 0
  · rw [if_pos h0]
    obtain ⟨a1, a2, a3⟩ := hiv h0 (by simp) rfl (fun h => absurd rfl h)
    simp only
    refine ⟨by unfold chkL; rw [if_pos (errE_ok hln a1), a2]; rfl, ?_⟩
    by_cases hne : (redP L (L.length + 1) 0 []).2.1 = []
    · rw [hne]; simp [prtS]
    · have := prt_wt _ a2 hne
      have := a3 hne
      omega
  · rw [if_neg h0] at h
    exact absurd h h0
theorem prt_len {L : List It} (h : chkL L = 0) : (prtS L).length ≤ 1000 := by
  obtain ⟨h1, h2⟩ := chk_zero h
  obtain ⟨hl, hok⟩ := err_zero h1
  by_cases hne : L = []
  · subst hne; simp [prtS]
  · have hw := prt_wt L h2 hne
    have : ∀ (M : List It), (∀ x ∈ M, codeS x.c = true ∧ 0 ≤ x.d ∧ x.d ≤ 9) → wtX M ≤ 20 * M.length := by
      intro M hM
      induction M with
      | nil => simp [wtX]
      | cons x t ih =>
        rw [show wtX (x :: t) = wtX [x] + wtX t from wtX_app [x] t, wtX_one]
        have a1 := ih (fun y hy => hM y (by simp [hy]))
        obtain ⟨b1, b2, b3⟩ := hM x (by simp)
        have c1 := code_size b1
        have c2 := mk_len b2 b3
        simp only [List.length_cons]
        omega
    have := this L hok
    omega
end Go.Proofs.Ytccglojnjakbfaa
