/- The sorted codes of credited items: plain facts for RecognizeRepeats. -/
import Derived.Test.YtlleebgkglbelaaRep
set_option linter.unusedSimpArgs false
set_option linter.unusedVariables false
namespace Go.Proofs.Ytlleebgkglbelaa
open Go.RowKit Go.ChangeShapes

/-- no key but strings -/
def noStr (D : DataW Unit) : Bool := match D with
  | .map es => es.any (fun p => match p.1 with | .string _ => false | _ => true)
  | _ => false
theorem any_filter_le {α : Type} {f g : α → Bool} : ∀ l : List α, l.any f = false → (l.filter g).any f = false := by
  intro l h
  rw [List.any_eq_false] at h ⊢
  intro x hx
  exact h x (List.mem_filter.1 hx).1
theorem noStr_put {D : DataW Unit} (hD : Maps.IsMap D) (h : noStr D = false) (s : ByteArray) (d : DataW Unit) : noStr (D.put (kS s) d) = false := by
  obtain ⟨es, rfl⟩ := hD
  simp only [DataW.put, noStr] at h ⊢
  rw [Maps.any_insert, any_filter_le _ h]
  rfl
theorem GD_noStr (R : List Rg) : ∀ k, noStr (GD R k) = false
  | 0 => rfl
  | k + 1 => by
    rw [GD]
    split
    · exact noStr_put (GD_tidy R k).isMap (GD_noStr R k) _ _
    · exact GD_noStr R k
theorem GD_parts (R : List Rg) (k : Nat) : ∃ es, GD R k = .map es ∧ es.Pairwise (fun p q => p.1 ≠ q.1) ∧ ∀ p ∈ es, ∃ x, p.1 = .string x := by
  obtain ⟨es, he, hp⟩ := GD_tidy R k
  refine ⟨es, he, hp, fun p hpm => ?_⟩
  have h := GD_noStr R k
  rw [he] at h
  simp only [noStr] at h
  rw [List.any_eq_false] at h
  have h2 := h p hpm
  cases hl : p.1 <;> simp [hl] at h2 ⊢
/-- which codes stand in the list -/
theorem keys_mem (R : List Rg) (n : Nat) (x : List UInt8) : x ∈ keysR R n ↔ grpK R (bs x) n ≠ [] := by
  have hh := GD_has R (bs x) n
  obtain ⟨es, he, hp, hk⟩ := GD_parts R n
  unfold keysR
  rw [List.mem_mergeSort]
  rw [he] at hh ⊢
  rw [Maps.has_eq] at hh
  show x ∈ es.map (fun p => strOf p.1) ↔ _
  rw [List.mem_map]
  have hx : kS (bs x) = .string x := by unfold kS; rw [bs_data]
  rw [hx] at hh
  constructor
  · rintro ⟨p, hpm, hpx⟩
    have : es.any (fun p => p.1.sameKey (.string x)) = true := by
      rw [List.any_eq_true]
      obtain ⟨y, hy⟩ := hk p hpm
      rw [hy] at hpx
      simp only [strOf] at hpx
      subst hpx
      exact ⟨p, hpm, by rw [hy]; simp [Lit.sameKey]⟩
    rw [this] at hh
    simpa using hh.symm
  · intro hne
    rw [decide_eq_true hne, List.any_eq_true] at hh
    obtain ⟨p, hpm, hs⟩ := hh
    obtain ⟨y, hy⟩ := hk p hpm
    rw [hy] at hs
    exact ⟨p, hpm, by rw [hy]; simpa [Lit.sameKey, strOf] using hs⟩
theorem keys_nodup (R : List Rg) (n : Nat) : (keysR R n).Nodup := by
  obtain ⟨es, he, hp, hk⟩ := GD_parts R n
  unfold keysR
  refine (List.mergeSort_perm _ _).nodup_iff.2 ?_
  rw [he]
  show (es.map fun p => strOf p.1).Nodup
  refine List.pairwise_map.2 (hp.imp_of_mem fun {p q} hp' hq' hne e => hne ?_)
  obtain ⟨a, ha⟩ := hk p hp'
  obtain ⟨b, hb⟩ := hk q hq'
  rw [ha, hb] at e ⊢
  exact congrArg _ e
theorem keys_sorted (R : List Rg) (n : Nat) : (keysR R n).Pairwise (fun a b => a < b) := by
  have tr : ∀ a b c : List UInt8, leB a b = true → leB b c = true → leB a c = true := fun a b c h1 h2 => by simp only [leB, decide_eq_true_eq] at *; exact List.le_trans h1 h2
  have tt : ∀ a b : List UInt8, (leB a b || leB b a) = true := fun a b => by simp only [leB, Bool.or_eq_true, decide_eq_true_eq]; exact List.le_total a b
  have h1 := List.pairwise_mergeSort tr tt (strKeys (GD R n))
  have h2 : (keysR R n).Pairwise (fun a b => a ≠ b) := keys_nodup R n
  refine (List.Pairwise.and h1 h2).imp fun {a b} h => ?_
  have h3 : a ≤ b := by simpa [leB] using h.1
  rcases Decidable.em (a < b) with h4 | h4
  · exact h4
  · exact absurd (List.le_antisymm h3 (List.not_lt.1 h4)) h.2
theorem keys_lt (R : List Rg) (n : Nat) {i j : Nat} (hj : j < (keysR R n).length) (hij : i < j) : (keysR R n)[i]'(by omega) < (keysR R n)[j]'hj :=
  List.pairwise_iff_getElem.1 (keys_sorted R n) i j (by omega) hj hij
theorem grp_ex {R : List Rg} {s : ByteArray} : ∀ {k : Nat}, grpK R s k ≠ [] → ∃ i, i < k ∧ (R.getD i Rg.zero).k = true ∧ (R.getD i Rg.zero).c = s
  | 0, h => absurd rfl h
  | k + 1, h => by
    rw [grpK] at h
    by_cases hc : (R.getD k Rg.zero).k = true ∧ (R.getD k Rg.zero).c = s
    · exact ⟨k, by omega, hc.1, hc.2⟩
    · rw [if_neg hc] at h
      obtain ⟨i, hi, h1, h2⟩ := grp_ex h
      exact ⟨i, by omega, h1, h2⟩
theorem grp_in {R : List Rg} {s : ByteArray} {k i : Nat} (hi : i < k) (h1 : (R.getD i Rg.zero).k = true) (h2 : (R.getD i Rg.zero).c = s) : grpK R s k ≠ [] := by
  induction k with
  | zero => omega
  | succ k ih =>
    rw [grpK]
    split
    · simp
    · rename_i hc
      rcases Nat.lt_succ_iff_lt_or_eq.1 hi with hl | rfl
      · exact ih hl
      · exact absurd ⟨h1, h2⟩ hc
/-- may a code take the place of what was found? -/
def okN (o : Option ByteArray) (c : ByteArray) : Bool := match o with
  | none => true
  | some m => Op.bytesLess c.toList m.toList
/-- the least code so far that is allowed -/
def scn (R : List Rg) (P : ByteArray → Bool) : Nat → Option ByteArray
  | 0 => none
  | k + 1 => if (R.getD k Rg.zero).k = true ∧ P (R.getD k Rg.zero).c = true ∧ okN (scn R P k) (R.getD k Rg.zero).c = true then some (R.getD k Rg.zero).c else scn R P k
theorem scn_none {R : List Rg} {P : ByteArray → Bool} : ∀ {k : Nat}, scn R P k = none → ∀ i, i < k → (R.getD i Rg.zero).k = true → P (R.getD i Rg.zero).c = false
  | 0, _, i, hi, _ => by omega
  | k + 1, h, i, hi, hk => by
    rw [scn] at h
    by_cases hc : (R.getD k Rg.zero).k = true ∧ P (R.getD k Rg.zero).c = true ∧ okN (scn R P k) (R.getD k Rg.zero).c = true
    · rw [if_pos hc] at h
      exact absurd h (by simp)
    · rw [if_neg hc] at h
      rcases Nat.lt_succ_iff_lt_or_eq.1 hi with hl | rfl
      · exact scn_none h i hl hk
      · cases hp : P (R.getD i Rg.zero).c with
        | false => rfl
        | true => exact absurd ⟨hk, hp, by rw [h]; rfl⟩ hc
theorem scn_some {R : List Rg} {P : ByteArray → Bool} : ∀ {k : Nat} {m : ByteArray}, scn R P k = some m → (∃ i, i < k ∧ (R.getD i Rg.zero).k = true ∧ (R.getD i Rg.zero).c = m) ∧ P m = true ∧ ∀ i, i < k → (R.getD i Rg.zero).k = true → P (R.getD i Rg.zero).c = true → ¬ (R.getD i Rg.zero).c.toList < m.toList
  | 0, m, h => absurd h (by simp [scn])
  | k + 1, m, h => by
    rw [scn] at h
    by_cases hc : (R.getD k Rg.zero).k = true ∧ P (R.getD k Rg.zero).c = true ∧ okN (scn R P k) (R.getD k Rg.zero).c = true
    · rw [if_pos hc] at h
      simp only [Option.some.injEq] at h
      subst h
      refine ⟨⟨k, by omega, hc.1, rfl⟩, hc.2.1, fun i hi hk hp hl => ?_⟩
      rcases Nat.lt_succ_iff_lt_or_eq.1 hi with h1 | rfl
      · cases hs : scn R P k with
        | none =>
          have := scn_none hs i h1 hk
          rw [this] at hp
          exact absurd hp (by simp)
        | some m' =>
          obtain ⟨_, _, h3⟩ := scn_some hs
          have h4 := hc.2.2
          rw [hs] at h4
          simp only [okN, bytesLess_eq, decide_eq_true_eq] at h4
          exact h3 i h1 hk hp (List.lt_trans hl h4)
      · exact absurd hl (List.lt_irrefl _)
    · rw [if_neg hc] at h
      obtain ⟨⟨i, hi, h1, h2⟩, h3, h4⟩ := scn_some h
      refine ⟨⟨i, by omega, h1, h2⟩, h3, fun j hj hk hp hl => ?_⟩
      rcases Nat.lt_succ_iff_lt_or_eq.1 hj with h5 | rfl
      · exact h4 j h5 hk hp hl
      · exact hc ⟨hk, hp, by rw [h]; simp only [okN, bytesLess_eq, decide_eq_true_eq]; exact hl⟩
/-- what may come next behind the codes before j -/
def nxtP (T : List (List UInt8)) (j : Nat) (c : ByteArray) : Bool := if j = 0 then true else decide (T.getD (j - 1) [] < c.toList)
theorem ba_list (s : ByteArray) : s.data.toList = s.toList := (Lib.toList_data s).symm
theorem scn_keys (R : List Rg) (n j : Nat) (hjl : j ≤ (keysR R n).length) : scn R (nxtP (keysR R n) j) n = if h : j < (keysR R n).length then some (bs ((keysR R n)[j]'h)) else none := by
  have hlt := fun {i j : Nat} (hj : j < (keysR R n).length) (hij : i < j) => keys_lt R n hj hij
  have hmem := fun x => keys_mem R n x
  have hin : ∀ i, i < n → (R.getD i Rg.zero).k = true → ∃ (q : Nat) (hq : q < (keysR R n).length), (keysR R n)[q]'hq = (R.getD i Rg.zero).c.toList := fun i hi hk => by
    have : (R.getD i Rg.zero).c.toList ∈ keysR R n := by
      rw [hmem, ← ba_list, bs_of rfl]
      exact grp_in hi hk rfl
    obtain ⟨q, hq, he⟩ := List.mem_iff_getElem.1 this
    exact ⟨q, hq, he⟩
  have hal : ∀ (q : Nat) (hq : q < (keysR R n).length), nxtP (keysR R n) j (bs ((keysR R n)[q]'hq)) = decide (j ≤ q) := fun q hq => by
    unfold nxtP
    by_cases h0 : j = 0
    · subst h0; simp
    · rw [if_neg h0, ← ba_list, bs_data]
      by_cases hjq : j ≤ q
      · rw [show (keysR R n).getD (j - 1) [] = (keysR R n)[j - 1]'(by omega) by simp [List.getD, show j - 1 < (keysR R n).length by omega]]
        rw [decide_eq_true hjq, decide_eq_true_eq]
        exact hlt hq (by omega)
      · rw [decide_eq_false hjq, decide_eq_false_iff_not]
        intro hl
        by_cases hj1 : j - 1 < (keysR R n).length
        · rw [show (keysR R n).getD (j - 1) [] = (keysR R n)[j - 1]'hj1 by simp [List.getD, hj1]] at hl
          rcases Nat.lt_or_ge q (j - 1) with h5 | h5
          · exact List.lt_irrefl _ (List.lt_trans hl (hlt hj1 h5))
          · have : q = j - 1 := by omega
            subst this
            exact List.lt_irrefl _ hl
        · omega
  cases hs : scn R (nxtP (keysR R n) j) n with
  | none =>
    by_cases hj : j < (keysR R n).length
    · have hne := (hmem _).1 (List.getElem_mem hj)
      obtain ⟨i, hi, h1, h2⟩ := grp_ex hne
      have h3 := scn_none hs i hi h1
      rw [h2, hal j hj] at h3
      simp at h3
    · rw [dif_neg hj]
  | some m =>
    obtain ⟨⟨i, hi, h1, h2⟩, h3, h4⟩ := scn_some hs
    obtain ⟨q, hq, he⟩ := hin i hi h1
    rw [h2] at he
    have hm : m = bs ((keysR R n)[q]'hq) := by rw [he, ← ba_list, bs_of rfl]
    have h5 := hal q hq
    rw [← hm, h3] at h5
    have h6 : j ≤ q := by simpa using h5.symm
    have hj : j < (keysR R n).length := by omega
    rw [dif_pos hj, hm]
    congr 1
    rcases Nat.lt_or_ge j q with h7 | h7
    · exfalso
      have hne := (hmem _).1 (List.getElem_mem hj)
      obtain ⟨i', hi', g1, g2⟩ := grp_ex hne
      have g3 := h4 i' hi' g1 (by rw [g2, hal j hj]; simp)
      rw [g2, hm, ← ba_list, ← ba_list, bs_data, bs_data] at g3
      exact g3 (hlt hq h7)
    · have : q = j := by omega
      subst this
      rfl
end Go.Proofs.Ytlleebgkglbelaa
