/- Plain facts for Hall's theorem. -/
import Derived.Test.YtpcdbnlljdfogaaFle
import Derived.Test.YtpcdbnlljdfogaaVio
import Derived.Test.YtpcdbnlljdfogaaVld
set_option linter.unusedSimpArgs false
set_option linter.unusedVariables false
namespace Go.Proofs.Ytpcdbnlljdfogaa
open Go.RowKit

theorem rises_selN (p : Nat → Bool) : ∀ (n : Nat), Rises n (selN p n)
  | 0 => by simp [selN, Rises]
  | n + 1 => by
    rw [selN_succ]
    have ih := rises_selN p n
    split
    · exact rises_add1 ih
    · rw [List.append_nil]
      exact rises_more ih
theorem selN_congr {p q : Nat → Bool} {n : Nat} (h : ∀ i, i < n → p i = q i) : selN p n = selN q n := by
  unfold selN
  congr 1
  apply List.filter_congr
  intro i hi
  exact h i (List.mem_range.1 hi)
theorem selN_two (p : Nat → Bool) : ∀ (n : Nat), (selN (fun i => !p i) n).length + (selN p n).length = n
  | 0 => rfl
  | n + 1 => by
    have ih := selN_two p n
    rw [selN_succ, selN_succ, List.length_append, List.length_append]
    cases hp : p n <;> simp <;> omega
theorem atI_range_sum (l : List Int) : ((List.range l.length).map (fun (i : Nat) => atI l (i : Int))).sum = l.sum := by rw [range_atI]
theorem sum_two {f : Nat → Int} {p : Nat → Bool} : ∀ (l : List Nat), (l.map fun i => if (!p i) = true then f i else 0).sum + (l.map fun i => if p i = true then f i else 0).sum = (l.map f).sum
  | [] => rfl
  | a :: l => by
    have ih := sum_two (f := f) (p := p) l
    simp only [List.map_cons, List.sum_cons]
    cases hp : p a with
    | false =>
      have e1 : (if (!false) = true then f a else (0 : Int)) = f a := rfl
      have e2 : (if false = true then f a else (0 : Int)) = 0 := rfl
      rw [e1, e2]
      omega
    | true =>
      have e1 : (if (!true) = true then f a else (0 : Int)) = 0 := rfl
      have e2 : (if true = true then f a else (0 : Int)) = f a := rfl
      rw [e1, e2]
      omega
theorem sumA_two (l : List Int) (p : Nat → Bool) : sumA l (selN (fun i => !p i) l.length) + sumA l (selN p l.length) = l.sum := by
  rw [sumA_selN, sumA_selN, sum_two, atI_range_sum]
theorem sumN_eq {f g : Nat → Int} : ∀ (n : Nat), (∀ k, k < n → f k ≤ g k) → sumN g n ≤ sumN f n → ∀ k, k < n → f k = g k
  | 0, _, _, k, hk => absurd hk (Nat.not_lt_zero k)
  | n + 1, h, hs, k, hk => by
    unfold sumN at hs
    have h1 := sumN_le n (fun k hk => h k (by omega))
    have h2 := h n (by omega)
    by_cases hkn : k = n
    · subst hkn; omega
    · exact sumN_eq n (fun k hk => h k (by omega)) (by omega) k (by omega)
/-- what the source gives is what the sink gets -/
theorem src_val {g : Gph} {R : List Int} (hc : chk g = 0) (h : Full g R) : sumN (fun i => atI R ((2 * (g.E.length + i) + 1 : Nat) : Int)) g.L.length = exA (netH g) R (snkG g) := by
  obtain ⟨l1, l2, l3, hL, hR, hE, hN⟩ := chk_ok hc
  have h1 := sum_ex (R := R) (netH_m g) (netH_ok g hE) (fun _ => 1)
  rw [sumN_zero (f := fun k => ((1 : Int) - 1) * atI R ((2 * k + 1 : Nat) : Int)) _ (fun k _ => by simp)] at h1
  have h2 := sumN_upd (f := fun x : Nat => if x = g.L.length + g.R.length + 1 then (0 : Int) else exA (netH g) R (x : Int)) (g := fun x : Nat => (1 : Int) * exA (netH g) R (x : Int)) (k := g.L.length + g.R.length + 1) (d := exA (netH g) R (snkG g)) (g.L.length + g.R.length + 2) (by omega) (fun j hj hjk => by rw [if_neg hjk, Int.one_mul]) (by rw [if_pos rfl]; show 1 * exA (netH g) R (snkG g) = _; omega)
  rw [sumN_one (f := fun x : Nat => if x = g.L.length + g.R.length + 1 then (0 : Int) else exA (netH g) R (x : Int)) (k := g.L.length + g.R.length) _ (by omega) (fun j hj hjk => by
    by_cases hjs : j = g.L.length + g.R.length + 1
    · rw [if_pos hjs]
    · rw [if_neg hjs]
      exact h.c _ (by unfold srcG; omega) (by unfold snkG; omega)), if_neg (by omega)] at h2
  have h3 : exA (netH g) R ((g.L.length + g.R.length : Nat) : Int) = - sumN (fun i => atI R ((2 * (g.E.length + i) + 1 : Nat) : Int)) g.L.length := by
    unfold exA
    rw [netH_m, show 2 * mG g / 2 = mG g by omega, show mG g = g.E.length + g.L.length + g.R.length from rfl, sumN_split, sumN_split]
    rw [sumN_zero (f := exT (netH g) R ((g.L.length + g.R.length : Nat) : Int)) g.E.length (fun k hk => by
      obtain ⟨e1, e2, _⟩ := arcE g k hk
      have he := hE _ (show pairE g.E (k : Int) ∈ g.E by unfold pairE; rw [Int.toNat_natCast, List.getD_eq_getElem?_getD, List.getElem?_eq_getElem hk]; exact List.getElem_mem _)
      unfold exT
      rw [e1, e2, if_neg (by omega), if_neg (by omega)]
      rfl)]
    rw [sumN_zero (f := fun j => exT (netH g) R ((g.L.length + g.R.length : Nat) : Int) (g.E.length + g.L.length + j)) g.R.length (fun j hj => by
      obtain ⟨e1, e2, _⟩ := arcRt g j hj
      unfold exT
      rw [e1, e2, if_neg (by unfold snkG; omega), if_neg (by omega)]
      rfl)]
    have h4 : sumN (fun j => exT (netH g) R ((g.L.length + g.R.length : Nat) : Int) (g.E.length + j)) g.L.length = sumN (fun j => 0 - atI R ((2 * (g.E.length + j) + 1 : Nat) : Int)) g.L.length := by
      refine sumN_congr _ (fun i hi => ?_)
      obtain ⟨e1, e2, _⟩ := arcLf g i hi
      unfold exT
      rw [e1, e2, if_neg (by omega), if_pos (show srcG g = ((g.L.length + g.R.length : Nat) : Int) from rfl)]
    rw [h4, sumN_sub, sumN_zero (f := fun _ => (0 : Int)) _ (fun _ _ => rfl)]
    omega
  omega
theorem sumN_atI (l : List Int) : sumN (fun i => atI l (i : Int)) l.length = l.sum := by
  have h : ∀ n, n ≤ l.length → sumN (fun i => atI l (i : Int)) n = (l.take n).sum := by
    intro n
    induction n with
    | zero => intro _; simp [sumN]
    | succ n ih =>
      intro hn
      unfold sumN
      rw [ih (by omega), List.take_add_one, List.getElem?_eq_getElem (by omega), List.sum_append, atI_get (by omega)]
      simp
  rw [h l.length (Nat.le_refl _), List.take_length]
theorem hall_full {g : Gph} {R : List Int} (hc : chk g = 0) (h : Full g R) (hv : exA (netH g) R (snkG g) = g.L.sum) : ∀ i : Nat, i < g.L.length → atI (bysG g R) (i : Int) = -1 := by
  obtain ⟨l1, l2, l3, hL, hR, hE, hN⟩ := chk_ok hc
  have hs := src_val hc h
  rw [hv, ← sumN_atI] at hs
  have hle : ∀ i, i < g.L.length → atI R ((2 * (g.E.length + i) + 1 : Nat) : Int) ≤ atI g.L (i : Int) ∧ atI R ((2 * (g.E.length + i) : Nat) : Int) + atI R ((2 * (g.E.length + i) + 1 : Nat) : Int) = atI g.L (i : Int) := by
    intro i hi
    obtain ⟨e1, e2, e3⟩ := arcLf g i hi
    have := h.i.c (g.E.length + i) (by unfold mG; omega)
    rw [e3] at this
    omega
  have heq := sumN_eq g.L.length (fun k hk => (hle k hk).1) (by rw [hs]; exact Int.le_refl _)
  intro i hi
  refine Decidable.byContradiction fun hb => ?_
  have hsr : 0 ≤ srcG g ∧ srcG g < ((nG g : Nat) : Int) := by unfold srcG nG; omega
  obtain ⟨q, hq, _⟩ := srch_ok (R := R) (arcs_ok hE) hsr.1 hsr.2
  have hm := (hq.mem (i : Int) (by omega) (by unfold nG; omega)).1 hb
  obtain ⟨j, hj, hji⟩ := List.getElem_of_mem hm
  simp only at hj hji
  have h0 := hq.h0
  simp only at h0
  have hj0 : j ≠ 0 := by
    intro e
    subst e
    rw [List.getElem?_eq_getElem hj, hji] at h0
    have : (i : Int) = srcG g := Option.some.inj h0
    unfold srcG at this
    omega
  obtain ⟨v, hv1⟩ : ∃ v, q[1]? = some v := ⟨_, List.getElem?_eq_getElem (show 1 < q.length by omega)⟩
  obtain ⟨i', u, p1, p2, p3, p4, p5, p6, p7⟩ := hq.par 1 v (by omega) hv1
  simp only at p2 p3 p4 p5 p6 p7
  have hi0 : i' = 0 := by omega
  subst hi0
  rw [h0] at p2
  have hu : srcG g = u := Option.some.inj p2
  subst hu
  obtain ⟨a, ha⟩ : ∃ a : Nat, atI (bysG g R) v = (a : Int) := ⟨(atI (bysG g R) v).toNat, by
    have : atI (bysG g R) v = atI (srch (netH g) R (arcsA (netH g) (nG g)) (srcG g)) v := rfl
    omega⟩
  have ha' : atI (srch (netH g) R (arcsA (netH g) (nG g)) (srcG g)) v = (a : Int) := ha
  rw [ha'] at p4 p6 p7
  rw [Int.toNat_natCast] at p7
  rw [netH_m] at p4
  rcases par_cases a with ⟨k, rfl, hmm⟩ | ⟨k, rfl, hmm⟩
  · rw [hmm] at p7
    rcases arc_of g k (by omega) with h1 | ⟨i2, h1, rfl⟩ | ⟨j2, h1, rfl⟩
    · obtain ⟨e1, e2, _⟩ := arcE g k h1
      have he := hE _ (show pairE g.E (k : Int) ∈ g.E by unfold pairE; rw [Int.toNat_natCast, List.getD_eq_getElem?_getD, List.getElem?_eq_getElem h1]; exact List.getElem_mem _)
      rw [e2] at p7
      unfold srcG at p7
      omega
    · have := hle i2 h1
      have := heq i2 h1
      omega
    · obtain ⟨e1, e2, _⟩ := arcRt g j2 h1
      rw [e2] at p7
      unfold srcG at p7
      omega
  · rw [hmm] at p7
    rcases arc_of g k (by omega) with h1 | ⟨i2, h1, rfl⟩ | ⟨j2, h1, rfl⟩
    · obtain ⟨e1, e2, _⟩ := arcE g k h1
      have he := hE _ (show pairE g.E (k : Int) ∈ g.E by unfold pairE; rw [Int.toNat_natCast, List.getD_eq_getElem?_getD, List.getElem?_eq_getElem h1]; exact List.getElem_mem _)
      rw [e1] at p7
      unfold srcG at p7
      omega
    · obtain ⟨e1, e2, _⟩ := arcLf g i2 h1
      rw [e1] at p7
      unfold srcG at p7
      omega
    · obtain ⟨e1, e2, _⟩ := arcRt g j2 h1
      rw [e1] at p7
      unfold srcG snkG at p7
      omega
theorem vioL_eq (g : Gph) (R : List Int) : vioL g R = selN (fun i => !(atI (bysG g R) (i : Int) == -1)) g.L.length := by
  unfold vioL
  apply selN_congr
  intro i hi
  congr 1
  rw [Bool.eq_iff_iff, List.contains_eq_mem, decide_eq_true_eq]
  unfold covL
  rw [mem_selN (by omega) (by omega)]
  simp
theorem sumN_range (f : Nat → Int) : ∀ (n : Nat), sumN f n = ((List.range n).map f).sum
  | 0 => rfl
  | n + 1 => by
    unfold sumN
    rw [sumN_range f n, List.range_succ, List.map_append, List.sum_append]
    simp
theorem roomV_sum (g : Gph) (V : List Int) : ∀ n, roomV g V n = sumN (fun k => min (nV g V k : Int) (atI g.R (k : Int))) n
  | 0 => rfl
  | n + 1 => by
    unfold roomV sumN
    rw [roomV_sum g V n]
theorem hit_sum {V : List Int} {p : Nat → Bool} {n : Nat} : ∀ (es : List (Int × Int)), (∀ e ∈ es, 0 ≤ e.2 ∧ e.2 < (n : Int)) → sumN (fun k => if p k = true then ((es.filter (hitV V (k : Int))).length : Int) else 0) n = ((es.filter fun e => p e.2.toNat && V.contains e.1).length : Int)
  | [], _ => sumN_zero n (fun k _ => by simp)
  | e :: es, h => by
    have ih := hit_sum (V := V) (p := p) es (fun e he => h e (by simp [he]))
    obtain ⟨h1, h2⟩ := h e (by simp)
    have hother : ∀ k : Nat, k ≠ e.2.toNat → hitV V (k : Int) e = false := fun k hk => by
      unfold hitV
      rw [decide_eq_false (by omega), Bool.false_and]
    have hself : hitV V ((e.2.toNat : Nat) : Int) e = V.contains e.1 := by
      unfold hitV
      rw [decide_eq_true (by omega), Bool.true_and]
    rw [sumN_upd (f := fun k => if p k = true then ((es.filter (hitV V (k : Int))).length : Int) else 0) (k := e.2.toNat) (d := if (p e.2.toNat && V.contains e.1) = true then 1 else 0) n (by omega) (fun j hj hje => by rw [List.filter_cons, hother j hje]; rfl) ?_, ih, List.filter_cons]
    · split
      · rw [List.length_cons]; omega
      · omega
    · rw [List.filter_cons, hself]
      cases hp : p e.2.toNat <;> cases hv : V.contains e.1 <;> simp
theorem hall_part {g : Gph} {R M : List Int} (hc : chk g = 0) (hm : isM g.L g.R g.E M = true) (hw : (M.length : Int) = weigh g.L g.R g.E (covL g R) (covR g R)) (hne : (M.length : Int) ≠ g.L.sum) :
    (vioL g R).length ≠ 0 ∧ violB g (vioL g R) = true := by
  obtain ⟨l1, l2, l3, hL, hR, hE, hN⟩ := chk_ok hc
  have hL0 : ∀ x ∈ g.L, 0 ≤ x := fun x hx => (hL x hx).1
  have hR0 : ∀ x ∈ g.R, 0 ≤ x := fun x hx => (hR x hx).1
  have htwo := sumA_two g.L (fun i => atI (bysG g R) (i : Int) == -1)
  rw [← vioL_eq] at htwo
  change sumA g.L (vioL g R) + sumA g.L (covL g R) = _ at htwo
  have hle : (M.length : Int) ≤ g.L.sum := by
    have h1 := weak hE hL0 hR0 hm (rises_selN (fun _ => true) g.L.length) (B := []) (by simp [Rises])
    have h2 : weigh g.L g.R g.E (selN (fun _ => true) g.L.length) [] = g.L.sum := by
      unfold weigh
      have h3 : sumA g.L (selN (fun _ => true) g.L.length) = g.L.sum := by
        rw [sumA_selN]
        simp only [if_true]
        exact atI_range_sum g.L
      have h4 : cntO (selN (fun _ => true) g.L.length) [] g.E = 0 := by
        unfold cntO
        rw [List.length_eq_zero_iff, List.filter_eq_nil_iff]
        intro e he
        obtain ⟨a1, a2, _, _⟩ := hE e he
        unfold outB
        have : e.1 ∈ selN (fun _ => true) g.L.length := (mem_selN a1 a2).2 rfl
        simp [this]
      rw [h3, h4]
      simp [sumA]
    omega
  have hsr := sumA_nonneg hR0 (covR g R)
  unfold weigh at hw
  constructor
  · intro h0
    have : vioL g R = [] := List.eq_nil_of_length_eq_zero h0
    rw [this] at htwo
    have e0 : sumA g.L [] = 0 := rfl
    omega
  · unfold violB
    rw [decide_eq_true_eq]
    have hb : roomV g (vioL g R) g.R.length ≤ sumA g.R (covR g R) + (cntO (covL g R) (covR g R) g.E : Int) := by
      rw [roomV_sum]
      have hq : ∀ k : Nat, k < g.R.length → min (nV g (vioL g R) k : Int) (atI g.R (k : Int)) ≤ (if (atI (bysG g R) ((g.L.length + k : Nat) : Int) != -1) = true then atI g.R (k : Int) else 0) + (if (!(atI (bysG g R) ((g.L.length + k : Nat) : Int) != -1)) = true then (nV g (vioL g R) k : Int) else 0) := by
        intro k _
        cases hbb : (atI (bysG g R) ((g.L.length + k : Nat) : Int) != -1)
        · have := Int.min_le_left (nV g (vioL g R) k : Int) (atI g.R (k : Int))
          simpa using this
        · have := Int.min_le_right (nV g (vioL g R) k : Int) (atI g.R (k : Int))
          simpa using this
      refine Int.le_trans (sumN_le _ hq) ?_
      rw [sumN_add, sumN_range, ← sumA_selN]
      have e1 : sumA g.R (selN (fun k => atI (bysG g R) ((g.L.length + k : Nat) : Int) != -1) g.R.length) = sumA g.R (covR g R) := rfl
      rw [e1]
      have e2 := hit_sum (V := vioL g R) (p := fun k => !(atI (bysG g R) ((g.L.length + k : Nat) : Int) != -1)) (n := g.R.length) g.E (fun e he => (hE e he).2.2)
      have e3 : sumN (fun k => if (!(atI (bysG g R) ((g.L.length + k : Nat) : Int) != -1)) = true then (nV g (vioL g R) k : Int) else 0) g.R.length = (cntO (covL g R) (covR g R) g.E : Int) := by
        refine Eq.trans e2 ?_
        unfold cntO
        congr 2
        apply List.filter_congr
        intro e he
        obtain ⟨a1, a2, a3, a4⟩ := hE e he
        unfold outB
        have m1 : (vioL g R).contains e.1 = !(covL g R).contains e.1 := by
          rw [Bool.eq_iff_iff, List.contains_eq_mem, List.contains_eq_mem, decide_eq_true_eq]
          unfold vioL
          rw [mem_selN a1 a2, Int.toNat_of_nonneg a1]
          simp
        have m2 : (covR g R).contains e.2 = (atI (bysG g R) ((g.L.length + e.2.toNat : Nat) : Int) != -1) := by
          rw [Bool.eq_iff_iff, List.contains_eq_mem, decide_eq_true_eq]
          unfold covR
          rw [mem_selN a3 a4]
        rw [m1, m2, Bool.and_comm]
      rw [e3]
      exact Int.le_refl _
    omega
end Go.Proofs.Ytpcdbnlljdfogaa
