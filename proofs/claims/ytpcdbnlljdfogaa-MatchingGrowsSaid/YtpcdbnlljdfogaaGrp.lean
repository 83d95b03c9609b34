/- Plain facts for MatchingGrows. -/
import Derived.Test.YtpcdbnlljdfogaaFle
set_option linter.unusedSimpArgs false
set_option linter.unusedVariables false
namespace Go.Proofs.Ytpcdbnlljdfogaa
open Go.RowKit

/-- a matching and a cover that prove each other -/
structure Pf (g : Gph) (M A B : List Int) : Prop where
  m : isM g.L g.R g.E M = true
  a : Rises g.L.length A
  b : Rises g.R.length B
  w : (M.length : Int) = weigh g.L g.R g.E A B
theorem pf_le {g : Gph} (hc : chk g = 0) {M A B : List Int} (hm : isM g.L g.R g.E M = true) (ha : Rises g.L.length A) (hb : Rises g.R.length B) : (M.length : Int) ≤ weigh g.L g.R g.E A B := by
  obtain ⟨l1, l2, l3, hL, hR, hE, hN⟩ := chk_ok hc
  exact weak hE (fun x hx => (hL x hx).1) (fun x hx => (hR x hx).1) hm ha hb
/-- sizes compare as weights do -/
theorem pf_cmp {g g' : Gph} {d : Int} (hc : chk g = 0) (hc' : chk g' = 0) {M A B M' A' B' : List Int} (h : Pf g M A B) (h' : Pf g' M' A' B') (hl : g'.L.length = g.L.length) (hr : g'.R.length = g.R.length)
    (h1 : ∀ A B, Rises g.L.length A → Rises g.R.length B → weigh g'.L g'.R g'.E A B ≤ weigh g.L g.R g.E A B + d) : (M'.length : Int) ≤ (M.length : Int) + d := by
  have := pf_le hc' h'.m (A := A) (B := B) (by rw [hl]; exact h.a) (by rw [hr]; exact h.b)
  have := h1 A B h.a h.b
  have := h.w
  omega
theorem weigh_more {L R : List Int} {E : List (Int × Int)} {A B : List Int} {k : Nat} (hk : k < L.length) (hA : Rises L.length A) : weigh (L.set k (atI L (k : Int) + 1)) R E A B = weigh L R E A B + (if A.contains (k : Int) then 1 else 0) := by
  have h := sumA_set (l := L.set k (atI L (k : Int) + 1)) (i := (k : Int)) (by omega) (by simpa using hk) A (fun x hx => (hA.1 x hx).1) (rises_nodup hA)
  have e : (L.set k (atI L (k : Int) + 1)).set (k : Int).toNat (atI (L.set k (atI L (k : Int) + 1)) (k : Int) - 1) = L := by
    rw [atI_set_same hk, Int.toNat_natCast, List.set_set, show atI L (k : Int) + 1 - 1 = L[k]'hk by rw [atI_get hk]; omega, List.set_getElem_self]
  rw [e] at h
  unfold weigh
  omega
theorem grow_more {g g' : Gph} (hc : chk g = 0) (hc' : chk g' = 0) {k : Nat} (hk : k < g.L.length) (hL : g'.L = g.L.set k (atI g.L (k : Int) + 1)) (hR : g'.R = g.R) (hE : g'.E = g.E) {M A B M' A' B' : List Int} (h : Pf g M A B) (h' : Pf g' M' A' B') : M'.length = M.length ∨ M'.length = M.length + 1 := by
  have hl : g'.L.length = g.L.length := by rw [hL, List.length_set]
  have h1 := pf_cmp (d := 1) hc hc' h h' hl (by rw [hR]) (fun A B ha hb => by rw [hL, hR, hE, weigh_more hk ha]; split <;> omega)
  have h2 := pf_cmp (d := 0) hc' hc h' h hl.symm (by rw [hR]) (fun A B ha hb => by rw [hl] at ha; rw [hL, hR, hE, weigh_more hk ha]; split <;> omega)
  omega
theorem grow_less {g g' : Gph} (hc : chk g = 0) (hc' : chk g' = 0) (hL : g'.L = g.L) (hR : g'.R = g.R) (hE : g'.E = g.E.take (g.E.length - 1)) (h0 : 0 < g.E.length) {M A B M' A' B' : List Int} (h : Pf g M A B) (h' : Pf g' M' A' B') : M'.length = M.length ∨ M'.length + 1 = M.length := by
  have hw : ∀ A B, weigh g'.L g'.R g'.E A B ≤ weigh g.L g.R g.E A B ∧ weigh g.L g.R g.E A B ≤ weigh g'.L g'.R g'.E A B + 1 := by
    intro A B
    have := cntO_take (A := A) (B := B) (E := g.E) (k := g.E.length - 1) (by omega)
    rw [show g.E.length - 1 + 1 = g.E.length by omega, List.take_length, ← hE] at this
    rw [hL, hR]
    unfold weigh
    split at this <;> omega
  have h1 := pf_cmp (d := 0) hc hc' h h' (by rw [hL]) (by rw [hR]) (fun A B _ _ => by have := (hw A B).1; omega)
  have h2 := pf_cmp (d := 1) hc' hc h' h (by rw [hL]) (by rw [hR]) (fun A B _ _ => (hw A B).2)
  omega
theorem grow_back {g g' : Gph} (hc : chk g = 0) (hc' : chk g' = 0) (hL : g'.L = g.L) (hR : g'.R = g.R) (hE : g'.E = g.E.reverse) {M A B M' A' B' : List Int} (h : Pf g M A B) (h' : Pf g' M' A' B') : M'.length = M.length := by
  have hw : ∀ A B, weigh g'.L g'.R g'.E A B = weigh g.L g.R g.E A B := by
    intro A B
    rw [hL, hR, hE]
    unfold weigh cntO
    rw [List.filter_reverse, List.length_reverse]
  have h1 := pf_cmp (d := 0) hc hc' h h' (by rw [hL]) (by rw [hR]) (fun A B _ _ => by rw [hw A B]; omega)
  have h2 := pf_cmp (d := 0) hc' hc h' h (by rw [hL]) (by rw [hR]) (fun A B _ _ => by rw [hw A B]; omega)
  omega
theorem chk_of {g : Gph} (l1 : g.L.length ≤ 64) (l2 : g.R.length ≤ 64) (l3 : g.E.length ≤ 1024) (hL : ∀ x ∈ g.L, 0 ≤ x ∧ x ≤ 1000) (hR : ∀ x ∈ g.R, 0 ≤ x ∧ x ≤ 1000) (hE : ∀ e ∈ g.E, 0 ≤ e.1 ∧ e.1 < (g.L.length : Int) ∧ 0 ≤ e.2 ∧ e.2 < (g.R.length : Int)) (hN : g.E.Nodup) : chk g = 0 := by
  have ho : ∀ (K : List Int), (∀ x ∈ K, 0 ≤ x ∧ x ≤ 1000) → K.any outC = false := by
    intro K hK
    rw [List.any_eq_false]
    intro x hx
    have := hK x hx
    unfold outC
    simp
    omega
  have hd : g.E.any (dangl g.L.length g.R.length) = false := by
    rw [List.any_eq_false]
    intro e he
    have := hE e he
    unfold dangl
    simp
    omega
  unfold chk chkG
  rw [if_neg (by omega), ho g.L hL, ho g.R hR, hd, if_pos hN]
  simp
theorem pf_of {g : Gph} (hc : chk g = 0) : ∃ M A B, greG g (nG g) (1000 * mG g + 1) = some M ∧ Pf g M A B := by
  obtain ⟨Rf, M, f1, f2, f3, m1, m2⟩ := konig hc (nG g) (1000 * mG g + 1) (Nat.le_refl _) (Nat.lt_succ_self _)
  have hr : ∀ (p : Nat → Bool) (n : Nat), Rises n (selN p n) := by
    intro p n
    induction n with
    | zero => simp [selN, Rises]
    | succ n ih =>
      rw [selN_succ]
      split
      · exact rises_add1 ih
      · rw [List.append_nil]; exact rises_more ih
  exact ⟨M, _, _, f2, ⟨m1, hr _ _, hr _ _, m2⟩⟩
end Go.Proofs.Ytpcdbnlljdfogaa
