/- Plain facts on the network of a graph: its arcs by number; it is as a search wants it. -/
import Derived.Test.YtpcdbnlljdfogaaFlw
import Derived.Test.YtpcdbnlljdfogaaGre
set_option linter.unusedSimpArgs false
set_option linter.unusedVariables false
namespace Go.Proofs.Ytpcdbnlljdfogaa
open Go.RowKit

/-- heads and tails of the arcs -/
def arcP (g : Gph) : List (Int × Int) := (g.E.map fun e => ((g.L.length : Int) + e.2, e.1)) ++ ((List.range g.L.length).map fun (i : Nat) => ((i : Int), ((g.L.length + g.R.length : Nat) : Int))) ++ ((List.range g.R.length).map fun (i : Nat) => (((g.L.length + g.R.length + 1 : Nat) : Int), ((g.L.length + i : Nat) : Int)))
def capP (g : Gph) : List Int := (g.E.map fun _ => 1) ++ g.L ++ g.R
theorem netH_eq (g : Gph) : netH g = (arcP g).flatMap fun p => [p.1, p.2] := by
  unfold netH arcP headE headL headR
  rw [List.flatMap_append, List.flatMap_append, List.flatMap_map, List.flatMap_map, List.flatMap_map]
theorem netR_eq (g : Gph) : netR g = (capP g).flatMap fun c => [c, 0] := by
  unfold netR capP roomE roomC
  rw [List.flatMap_append, List.flatMap_append, List.flatMap_map]
  congr 2
  apply List.ext_getElem?
  intro i
  induction g.E generalizing i with
  | nil => rfl
  | cons e r ih =>
    rw [List.length_cons, List.range_succ_eq_map, List.flatMap_cons, List.flatMap_map, List.flatMap_cons]
    match i with
    | 0 => rfl
    | 1 => rfl
    | i + 2 => simpa using ih i
theorem pair_at {α : Type} {f g : α → Int} : ∀ (l : List α) (k : Nat) (h : k < l.length), (l.flatMap fun x => [f x, g x])[2 * k]? = some (f l[k]) ∧ (l.flatMap fun x => [f x, g x])[2 * k + 1]? = some (g l[k])
  | [], k, h => absurd h (Nat.not_lt_zero k)
  | a :: l, 0, _ => ⟨rfl, rfl⟩
  | a :: l, k + 1, h => by
    have := pair_at (f := f) (g := g) l k (by simpa using h)
    rw [List.flatMap_cons]
    rw [show 2 * (k + 1) = 2 * k + 2 by omega]
    simpa using this
theorem atI_some {L : List Int} {k : Nat} {x : Int} (h : L[k]? = some x) : atI L (k : Int) = x := by
  unfold atI
  rw [Int.toNat_natCast, List.getD_eq_getElem?_getD, h]
  rfl
def mG (g : Gph) : Nat := g.E.length + g.L.length + g.R.length
def nG (g : Gph) : Nat := g.L.length + g.R.length + 2
theorem arcP_len (g : Gph) : (arcP g).length = mG g := by simp [arcP, mG]; omega
theorem capP_len (g : Gph) : (capP g).length = mG g := by simp [capP, mG]; omega
theorem h_at (g : Gph) (k : Nat) (h : k < (arcP g).length) : atI (netH g) ((2 * k : Nat) : Int) = ((arcP g)[k]).1 := by
  apply atI_some
  rw [netH_eq]
  exact (pair_at (arcP g) k h).1
theorem t_at (g : Gph) (k : Nat) (h : k < (arcP g).length) : atI (netH g) ((2 * k + 1 : Nat) : Int) = ((arcP g)[k]).2 := by
  apply atI_some
  rw [netH_eq]
  exact (pair_at (arcP g) k h).2
theorem r_at (g : Gph) (k : Nat) (h : k < (capP g).length) : atI (netR g) ((2 * k : Nat) : Int) = (capP g)[k] := by
  apply atI_some
  rw [netR_eq]
  exact (pair_at (g := fun _ => 0) (capP g) k h).1
theorem r0_at (g : Gph) (k : Nat) (h : k < (capP g).length) : atI (netR g) ((2 * k + 1 : Nat) : Int) = 0 := by
  apply atI_some
  rw [netR_eq]
  exact (pair_at (g := fun _ => 0) (capP g) k h).2
def cG (g : Gph) (k : Nat) : Int := (capP g).getD k 0
theorem capP_ok {g : Gph} (hL : ∀ x ∈ g.L, 0 ≤ x ∧ x ≤ 1000) (hR : ∀ x ∈ g.R, 0 ≤ x ∧ x ≤ 1000) : ∀ x ∈ capP g, 0 ≤ x ∧ x ≤ 1000 := by
  intro x hx
  unfold capP at hx
  rw [List.mem_append, List.mem_append] at hx
  rcases hx with (hx | hx) | hx
  · obtain ⟨e, _, rfl⟩ := List.mem_map.1 hx
    omega
  · exact hL x hx
  · exact hR x hx
theorem rinv_start {g : Gph} (hL : ∀ x ∈ g.L, 0 ≤ x ∧ x ≤ 1000) (hR : ∀ x ∈ g.R, 0 ≤ x ∧ x ≤ 1000) : RInv (mG g) (cG g) (netR g) := by
  refine ⟨by rw [netR_len]; rfl, fun k hk => ?_⟩
  have hk' : k < (capP g).length := by rw [capP_len]; exact hk
  rw [r_at g k hk', r0_at g k hk']
  have := capP_ok hL hR _ (List.getElem_mem hk')
  unfold cG
  rw [List.getD_eq_getElem?_getD, List.getElem?_eq_getElem hk']
  simp
  omega
theorem cG_le {g : Gph} (hL : ∀ x ∈ g.L, 0 ≤ x ∧ x ≤ 1000) (hR : ∀ x ∈ g.R, 0 ≤ x ∧ x ≤ 1000) (k : Nat) (hk : k < mG g) : cG g k ≤ 1000 := by
  have hk' : k < (capP g).length := by rw [capP_len]; exact hk
  unfold cG
  rw [List.getD_eq_getElem?_getD, List.getElem?_eq_getElem hk']
  exact (capP_ok hL hR _ (List.getElem_mem hk')).2
theorem arcs_ok {g : Gph} (hE : ∀ e ∈ g.E, 0 ≤ e.1 ∧ e.1 < (g.L.length : Int) ∧ 0 ≤ e.2 ∧ e.2 < (g.R.length : Int)) : ArcsOk (nG g) (netH g) (arcsA (netH g) (nG g)) := by
  have hl := netH_len g
  refine ⟨by simp [arcsA], netH_ok g hE, fun u hu a ha => ?_⟩
  have e : (arcsA (netH g) (nG g)).getD u [] = arcsL (swp (netH g)) u (netH g).length := by
    unfold arcsA
    rw [List.getD_eq_getElem?_getD, List.getElem?_map, List.getElem?_range hu]
    rfl
  rw [e] at ha
  obtain ⟨k, rfl, hk, ht⟩ := (arcsL_mem _ _ _ _).1 ha
  have hm : mate k < (netH g).length := mate_lt hk (by omega)
  refine ⟨by omega, by omega, ?_⟩
  rw [Int.toNat_natCast, atI_get hm, ← swp_at (by omega) hk hm]
  exact ht
/-- every arc stands among the arcs of its tail -/
theorem arcs_all {g : Gph} {k : Nat} (hk : k < (netH g).length) {u : Nat} (hu : u < nG g) (ht : atI (netH g) (mate k : Int) = (u : Int)) : (k : Int) ∈ (arcsA (netH g) (nG g)).getD u [] := by
  have hl := netH_len g
  have hm : mate k < (netH g).length := mate_lt hk (by omega)
  have e : (arcsA (netH g) (nG g)).getD u [] = arcsL (swp (netH g)) u (netH g).length := by
    unfold arcsA
    rw [List.getD_eq_getElem?_getD, List.getElem?_map, List.getElem?_range hu]
    rfl
  rw [e]
  refine (arcsL_mem _ _ _ _).2 ⟨k, rfl, hk, ?_⟩
  rw [swp_at (by omega) hk hm, ← atI_get hm]
  exact ht
/-- a push either finds nothing, or moves one unit -/
theorem pushP_ok {n m : Nat} {H R : List Int} {A : List (List Int)} {c : Nat → Int} {s t : Int} {F : Nat} (ok : ArcsOk n H A) (hH : H.length = 2 * m) (hR : RInv m c R) (hc : ∀ k, k < m → c k ≤ 1000) (hs : 0 ≤ s ∧ s < (n : Int)) (ht : 0 ≤ t ∧ t < (n : Int)) (hF : n ≤ F) :
    (atI (srch H R A s) t = -1 ∧ pushP H R A s t F = some (false, R)) ∨
    (∃ R', pushP H R A s t F = some (true, R') ∧ RInv m c R' ∧ ∀ x, exA H R' x = exA H R x + (if t = x then 1 else 0) - (if s = x then 1 else 0)) := by
  obtain ⟨q, hq, hcl⟩ := srch_ok (R := R) ok hs.1 hs.2
  by_cases h : atI (srch H R A s) t = -1
  · left
    exact ⟨h, by unfold pushP; rw [if_pos h]⟩
  · right
    have hm := (hq.mem t ht.1 ht.2).1 h
    obtain ⟨j, hj, hjt⟩ := List.getElem_of_mem hm
    simp only at hj hjt
    have hjq : q[j]? = some t := by rw [List.getElem?_eq_getElem hj, hjt]
    have hql := nodup_le n q hq.nd hq.qr
    obtain ⟨R', p1, p2, p3⟩ := pushO_ok hH hq hc j t R hjq hR (fun _ _ _ _ _ => Int.le_refl _)
    refine ⟨R', ?_, p2, p3⟩
    unfold pushP
    rw [if_neg h, p1 F (by omega)]
    rfl
theorem ex_bound {m : Nat} {H R : List Int} {c : Nat → Int} (hH : H.length = 2 * m) (hR : RInv m c R) (hc : ∀ k, k < m → c k ≤ 1000) (v : Int) : exA H R v ≤ 1000 * (m : Int) := by
  unfold exA
  rw [hH, show 2 * m / 2 = m by omega]
  have h : ∀ (k : Nat), k ≤ m → sumN (exT H R v) k ≤ 1000 * (k : Int) := by
    intro k
    induction k with
    | zero => intro _; simp [sumN]
    | succ k ih =>
      intro hk
      have h1 := ih (by omega)
      have h2 := hR.c k (by omega)
      have h3 := hc k (by omega)
      have h4 : exT H R v k ≤ 1000 := by unfold exT; split <;> split <;> omega
      unfold sumN
      omega
  exact h m (Nat.le_refl _)
theorem fillO_ok {n m : Nat} {H : List Int} {A : List (List Int)} {c : Nat → Int} {s t : Int} {F : Nat} (ok : ArcsOk n H A) (hH : H.length = 2 * m) (hc : ∀ k, k < m → c k ≤ 1000) (hs : 0 ≤ s ∧ s < (n : Int)) (ht : 0 ≤ t ∧ t < (n : Int)) (hst : s ≠ t) (hF : n ≤ F) :
    ∀ (K : Nat) (R : List Int), RInv m c R → 1000 * (m : Int) - exA H R t < (K : Int) → ∃ Rf, fillO H A s t F K R = some Rf ∧ RInv m c Rf ∧ (∀ x, x ≠ s → x ≠ t → exA H Rf x = exA H R x) ∧ atI (srch H Rf A s) t = -1
  | 0, R, hR, hK => by
    have := ex_bound hH hR hc t
    omega
  | K + 1, R, hR, hK => by
    unfold fillO
    rcases pushP_ok ok hH hR hc hs ht hF with ⟨h1, h2⟩ | ⟨R', h1, h2, h3⟩
    · rw [h2]
      exact ⟨R, rfl, hR, fun _ _ _ => rfl, h1⟩
    · rw [h1]
      have h4 := h3 t
      rw [if_pos rfl, if_neg hst] at h4
      obtain ⟨Rf, p1, p2, p3, p4⟩ := fillO_ok ok hH hc hs ht hst hF K R' h2 (by omega)
      refine ⟨Rf, p1, p2, fun x hx1 hx2 => ?_, p4⟩
      rw [p3 x hx1 hx2, h3 x, if_neg (fun e => hx2 e.symm), if_neg (fun e => hx1 e.symm)]
      omega
end Go.Proofs.Ytpcdbnlljdfogaa
