/- Plain facts: the edges that settle keeps are a matching as large as the flow. -/
import Derived.Test.YtpcdbnlljdfogaaFlc
set_option linter.unusedSimpArgs false
set_option linter.unusedVariables false
namespace Go.Proofs.Ytpcdbnlljdfogaa
open Go.RowKit

theorem arcE (g : Gph) (k : Nat) (hk : k < g.E.length) : atI (netH g) ((2 * k : Nat) : Int) = (g.L.length : Int) + (pairE g.E (k : Int)).2 ∧ atI (netH g) ((2 * k + 1 : Nat) : Int) = (pairE g.E (k : Int)).1 ∧ cG g k = 1 := by
  have h := arcs3_at g k (by unfold mG; omega)
  have e : (arcs3 g).getD k default = (((g.L.length : Int) + (pairE g.E (k : Int)).2, (pairE g.E (k : Int)).1), 1) := by
    unfold arcs3 pairE
    rw [List.getD_eq_getElem?_getD, List.append_assoc, List.getElem?_append_left (by simpa using hk), List.getElem?_map, List.getElem?_eq_getElem hk, Int.toNat_natCast, List.getD_eq_getElem?_getD, List.getElem?_eq_getElem hk]
    rfl
  rw [e] at h
  exact h
theorem arcLf (g : Gph) (i : Nat) (hi : i < g.L.length) : atI (netH g) ((2 * (g.E.length + i) : Nat) : Int) = (i : Int) ∧ atI (netH g) ((2 * (g.E.length + i) + 1 : Nat) : Int) = srcG g ∧ cG g (g.E.length + i) = atI g.L (i : Int) := by
  have h := arcs3_at g (g.E.length + i) (by unfold mG; omega)
  have e : (arcs3 g).getD (g.E.length + i) default = (((i : Int), srcG g), atI g.L (i : Int)) := by
    unfold arcs3
    rw [List.getD_eq_getElem?_getD, List.append_assoc, List.getElem?_append_right (by simp), List.length_map, Nat.add_sub_cancel_left, List.getElem?_append_left (by simpa using hi), List.getElem?_map, List.getElem?_range hi]
    rfl
  rw [e] at h
  exact h
theorem arcRt (g : Gph) (j : Nat) (hj : j < g.R.length) : atI (netH g) ((2 * (g.E.length + g.L.length + j) : Nat) : Int) = snkG g ∧ atI (netH g) ((2 * (g.E.length + g.L.length + j) + 1 : Nat) : Int) = ((g.L.length + j : Nat) : Int) ∧ cG g (g.E.length + g.L.length + j) = atI g.R (j : Int) := by
  have h := arcs3_at g (g.E.length + g.L.length + j) (by unfold mG; omega)
  have e : (arcs3 g).getD (g.E.length + g.L.length + j) default = ((snkG g, ((g.L.length + j : Nat) : Int)), atI g.R (j : Int)) := by
    unfold arcs3
    rw [List.getD_eq_getElem?_getD, List.getElem?_append_right (by simp), List.length_append, List.length_map, List.length_map, List.length_range, Nat.add_sub_cancel_left, List.getElem?_map, List.getElem?_range hj]
    rfl
  rw [e] at h
  exact h
def mexP (nl : Int) (es : List (Int × Int)) (x : Int) : Int := (es.map fun e => (if nl + e.2 = x then (1 : Int) else 0) - (if e.1 = x then 1 else 0)).sum
theorem mexP_app (nl : Int) (es : List (Int × Int)) (e : Int × Int) (x : Int) : mexP nl (es ++ [e]) x = mexP nl es x + (if nl + e.2 = x then 1 else 0) - (if e.1 = x then 1 else 0) := by
  unfold mexP
  rw [List.map_append, List.sum_append]
  simp
  omega
/-- some edges are settled -/
structure GI (g : Gph) (B : Int → Int) (i : Nat) (R M : List Int) : Prop where
  r : RInv (mG g) (fun k => if k < i then 0 else cG g k) R
  v : ∀ x, exA (netH g) R x + mexP (g.L.length : Int) (M.map (pairE g.E)) x = B x
  m : Rises i M
theorem ex_fix {H R : List Int} {m : Nat} (hH : H.length = 2 * m) (hR : R.length = 2 * m) {i : Nat} (hi : i < m) (x : Int) :
    exA H (fix0 R i) x = exA H R x - ((if atI H ((2 * i : Nat) : Int) = x then atI R ((2 * i + 1 : Nat) : Int) else 0) - (if atI H ((2 * i + 1 : Nat) : Int) = x then atI R ((2 * i + 1 : Nat) : Int) else 0)) := by
  unfold exA
  rw [hH, show 2 * m / 2 = m by omega]
  have h := sumN_upd (f := exT H R x) (g := exT H (fix0 R i) x) (k := i) (d := - ((if atI H ((2 * i : Nat) : Int) = x then atI R ((2 * i + 1 : Nat) : Int) else 0) - (if atI H ((2 * i + 1 : Nat) : Int) = x then atI R ((2 * i + 1 : Nat) : Int) else 0))) m hi ?_ ?_
  · rw [h]; omega
  · intro j hj hji
    have : atI (fix0 R i) ((2 * j + 1 : Nat) : Int) = atI R ((2 * j + 1 : Nat) : Int) := by
      unfold fix0
      rw [atI_set_ne (by rw [Int.toNat_natCast]; omega), atI_set_ne (by rw [Int.toNat_natCast]; omega)]
    unfold exT
    rw [this]
  · have : atI (fix0 R i) ((2 * i + 1 : Nat) : Int) = 0 := by
      unfold fix0
      rw [atI_set_same (by rw [List.length_set]; omega)]
    unfold exT
    rw [this]
    split <;> split <;> omega
theorem fix_inv {g : Gph} {i : Nat} {R : List Int} (h : RInv (mG g) (fun k => if k < i then 0 else cG g k) R) (hi : i < mG g) : RInv (mG g) (fun k => if k < i + 1 then 0 else cG g k) (fix0 R i) := by
  have hl := h.len
  refine ⟨by unfold fix0; simpa using hl, fun k hk => ?_⟩
  have hc := h.c k hk
  by_cases hki : k = i
  · subst hki
    have e1 : atI (fix0 R k) ((2 * k + 1 : Nat) : Int) = 0 := by unfold fix0; rw [atI_set_same (by rw [List.length_set]; omega)]
    have e0 : atI (fix0 R k) ((2 * k : Nat) : Int) = 0 := by unfold fix0; rw [atI_set_ne (by rw [Int.toNat_natCast]; omega), atI_set_same (by omega)]
    rw [e0, e1, if_pos (by omega)]
    omega
  · have e1 : atI (fix0 R i) ((2 * k + 1 : Nat) : Int) = atI R ((2 * k + 1 : Nat) : Int) := by unfold fix0; rw [atI_set_ne (by rw [Int.toNat_natCast]; omega), atI_set_ne (by rw [Int.toNat_natCast]; omega)]
    have e0 : atI (fix0 R i) ((2 * k : Nat) : Int) = atI R ((2 * k : Nat) : Int) := by unfold fix0; rw [atI_set_ne (by rw [Int.toNat_natCast]; omega), atI_set_ne (by rw [Int.toNat_natCast]; omega)]
    rw [e0, e1]
    by_cases hlt : k < i
    · rw [if_pos hlt] at hc
      rw [if_pos (by omega)]
      exact hc
    · rw [if_neg hlt] at hc
      rw [if_neg (by omega)]
      exact hc
theorem rises_add1 {i : Nat} {M : List Int} (h : Rises i M) : Rises (i + 1) (M ++ [(i : Int)]) := by
  obtain ⟨h1, h2⟩ := h
  refine ⟨fun x hx => ?_, ?_⟩
  · rw [List.mem_append, List.mem_singleton] at hx
    rcases hx with hx | rfl
    · have := h1 x hx; omega
    · omega
  · rw [List.pairwise_append]
    exact ⟨h2, by simp, fun x hx y hy => by simp at hy; subst hy; exact (h1 x hx).2⟩
theorem rises_more {i : Nat} {M : List Int} (h : Rises i M) : Rises (i + 1) M := ⟨fun x hx => by have := h.1 x hx; omega, h.2⟩
theorem settle_ok {g : Gph} (hc : chk g = 0) {B : Int → Int} {F i : Nat} (hF : nG g ≤ F) (hi : i < g.E.length) {R M : List Int} (h : GI g B i R M) :
    ∃ b R', settleP (netH g) R (arcsA (netH g) (nG g)) i F = some (b, R') ∧ GI g B (i + 1) R' (if b = true then M ++ [(i : Int)] else M) := by
  obtain ⟨l1, l2, l3, hL, hR, hE, hN⟩ := chk_ok hc
  obtain ⟨e1, e2, e3⟩ := arcE g i hi
  have him : i < mG g := by unfold mG; omega
  have hci := h.r.c i him
  rw [if_neg (Nat.lt_irrefl i), e3] at hci
  have hF0 := fix_inv h.r him
  have hx0 := ex_fix (netH_m g) h.r.len him
  have hmap : (M ++ [(i : Int)]).map (pairE g.E) = M.map (pairE g.E) ++ [pairE g.E (i : Int)] := by simp
  unfold settleP
  by_cases hu : atI R ((2 * i + 1 : Nat) : Int) > 0
  · rw [if_pos hu]
    have h1 : atI R ((2 * i + 1 : Nat) : Int) = 1 := by omega
    refine ⟨true, _, rfl, hF0, fun x => ?_, ?_⟩
    · rw [if_pos rfl, hmap, mexP_app, hx0 x, ← h.v x, e1, e2, h1]
      omega
    · rw [if_pos rfl]
      exact rises_add1 h.m
  · rw [if_neg hu]
    have h1 : atI R ((2 * i + 1 : Nat) : Int) = 0 := by omega
    have hHl := netH_m g
    have hv0 := netH_ok g hE _ (List.getElem_mem (show 2 * i < (netH g).length by omega))
    have hv1 := netH_ok g hE _ (List.getElem_mem (show 2 * i + 1 < (netH g).length by omega))
    rw [← atI_get (show 2 * i < (netH g).length by omega)] at hv0
    rw [← atI_get (show 2 * i + 1 < (netH g).length by omega)] at hv1
    have hcl : ∀ k, k < mG g → (if k < i + 1 then 0 else cG g k) ≤ 1000 := by
      intro k hk
      split
      · omega
      · exact cG_le hL hR k hk
    rcases pushP_ok (F := F) (arcs_ok hE) hHl hF0 hcl hv0 hv1 hF with ⟨_, p2⟩ | ⟨R', p1, p2, p3⟩
    · refine ⟨false, _, p2, hF0, fun x => ?_, ?_⟩
      · rw [if_neg (by decide), hx0 x, ← h.v x, h1]
        simp
      · rw [if_neg (by decide)]
        exact rises_more h.m
    · refine ⟨true, R', p1, p2, fun x => ?_, ?_⟩
      · rw [if_pos rfl, hmap, mexP_app, p3 x, hx0 x, ← h.v x, h1, e1, e2]
        simp
        omega
      · rw [if_pos rfl]
        exact rises_add1 h.m
theorem greO_ok {g : Gph} (hc : chk g = 0) {B : Int → Int} {F : Nat} (hF : nG g ≤ F) : ∀ (k i : Nat) (R M : List Int), i + k = g.E.length → GI g B i R M → ∃ Mf Re, greO (netH g) (arcsA (netH g) (nG g)) F k i R M = some Mf ∧ GI g B g.E.length Re Mf
  | 0, i, R, M, hk, h => ⟨M, R, rfl, by rw [← show i = g.E.length by omega]; exact h⟩
  | k + 1, i, R, M, hk, h => by
    obtain ⟨b, R', p1, p2⟩ := settle_ok hc hF (by omega) h
    unfold greO
    rw [p1]
    exact greO_ok hc hF k (i + 1) R' _ (by omega) p2
end Go.Proofs.Ytpcdbnlljdfogaa
/- Plain facts: Greatest's edges are a matching with as many edges as the flow's value. -/
namespace Go.Proofs.Ytpcdbnlljdfogaa
open Go.RowKit

theorem mex_left {nl : Int} {x : Int} : ∀ (es : List (Int × Int)), (∀ e ∈ es, 0 ≤ e.2) → x < nl → mexP nl es x = - ((es.countP fun e => decide (e.1 = x) : Nat) : Int)
  | [], _, _ => rfl
  | e :: es, h, hx => by
    have ih := mex_left es (fun e he => h e (by simp [he])) hx
    have h0 := h e (by simp)
    unfold mexP at ih ⊢
    rw [List.map_cons, List.sum_cons, ih, List.countP_cons, if_neg (by omega)]
    by_cases hc : e.1 = x
    · rw [if_pos hc, if_pos (by simpa using hc)]; omega
    · rw [if_neg hc, if_neg (by simpa using hc)]; omega
theorem mex_right {nl : Int} {y : Int} : ∀ (es : List (Int × Int)), (∀ e ∈ es, e.1 < nl) → 0 ≤ y → mexP nl es (nl + y) = ((es.countP fun e => decide (e.2 = y) : Nat) : Int)
  | [], _, _ => rfl
  | e :: es, h, hy => by
    have ih := mex_right es (fun e he => h e (by simp [he])) hy
    have h0 := h e (by simp)
    unfold mexP at ih ⊢
    rw [List.map_cons, List.sum_cons, ih, List.countP_cons, if_neg (show ¬ e.1 = nl + y by omega)]
    by_cases hc : e.2 = y
    · rw [if_pos (by omega), if_pos (by simpa using hc)]; omega
    · rw [if_neg (by omega), if_neg (by simpa using hc)]; omega
theorem mex_snk {nl x : Int} : ∀ (es : List (Int × Int)), (∀ e ∈ es, nl + e.2 ≠ x ∧ e.1 ≠ x) → mexP nl es x = 0
  | [], _ => rfl
  | e :: es, h => by
    have ih := mex_snk es (fun e he => h e (by simp [he]))
    obtain ⟨h1, h2⟩ := h e (by simp)
    unfold mexP at ih ⊢
    rw [List.map_cons, List.sum_cons, ih, if_neg h1, if_neg h2]
    rfl
theorem len_count {n : Nat} : ∀ (es : List (Int × Int)), (∀ e ∈ es, 0 ≤ e.2 ∧ e.2 < (n : Int)) → (es.length : Int) = sumN (fun j => ((es.countP fun e => decide (e.2 = (j : Int)) : Nat) : Int)) n
  | [], _ => (sumN_zero n (fun _ _ => rfl)).symm
  | e :: es, h => by
    have ih := len_count es (fun e he => h e (by simp [he]))
    obtain ⟨h1, h2⟩ := h e (by simp)
    have := sumN_upd (f := fun j => ((es.countP fun e => decide (e.2 = (j : Int)) : Nat) : Int)) (g := fun j => (((e :: es).countP fun e => decide (e.2 = (j : Int)) : Nat) : Int)) (k := e.2.toNat) (d := 1) n (by omega) (fun j hj hje => by
      rw [List.countP_cons, if_neg (by simp; omega)]
      rfl) (by
      rw [List.countP_cons, if_pos (by simp; omega)]
      omega)
    rw [this, ← ih, List.length_cons]
    omega
theorem takes_of : ∀ (es : List (Int × Int)) (l r : List Int), (∀ e ∈ es, 0 ≤ e.1 ∧ e.1 < (l.length : Int) ∧ 0 ≤ e.2 ∧ e.2 < (r.length : Int)) → (∀ x : Int, 0 ≤ x → x < (l.length : Int) → ((es.countP fun e => decide (e.1 = x) : Nat) : Int) ≤ atI l x) → (∀ x : Int, 0 ≤ x → x < (r.length : Int) → ((es.countP fun e => decide (e.2 = x) : Nat) : Int) ≤ atI r x) → takes l r es = true
  | [], _, _, _, _, _ => by unfold takes; rfl
  | e :: es, l, r, h, hl, hr => by
    obtain ⟨h1, h2, h3, h4⟩ := h e (by simp)
    have c1 := hl e.1 h1 h2
    have c2 := hr e.2 h3 h4
    rw [List.countP_cons, if_pos (by simp)] at c1 c2
    unfold takes
    rw [if_neg (by omega)]
    refine takes_of es _ _ (fun e' he' => by rw [List.length_set, List.length_set]; exact h e' (by simp [he'])) (fun x hx0 hx1 => ?_) (fun x hx0 hx1 => ?_)
    · rw [List.length_set] at hx1
      have := hl x hx0 hx1
      rw [List.countP_cons] at this
      rw [atI_set h1 hx0 (by omega)]
      by_cases hx : e.1 = x
      · rw [if_pos hx]
        rw [if_pos (by simpa using hx)] at this
        rw [hx]
        omega
      · rw [if_neg hx]
        rw [if_neg (by simpa using hx)] at this
        omega
    · rw [List.length_set] at hx1
      have := hr x hx0 hx1
      rw [List.countP_cons] at this
      rw [atI_set h3 hx0 (by omega)]
      by_cases hx : e.2 = x
      · rw [if_pos hx]
        rw [if_pos (by simpa using hx)] at this
        rw [hx]
        omega
      · rw [if_neg hx]
        rw [if_neg (by simpa using hx)] at this
        omega
theorem arc_of (g : Gph) (k : Nat) (hk : k < mG g) : k < g.E.length ∨ (∃ i, i < g.L.length ∧ k = g.E.length + i) ∨ (∃ j, j < g.R.length ∧ k = g.E.length + g.L.length + j) := by
  unfold mG at hk
  by_cases h1 : k < g.E.length
  · exact .inl h1
  · by_cases h2 : k < g.E.length + g.L.length
    · exact .inr (.inl ⟨k - g.E.length, by omega, by omega⟩)
    · exact .inr (.inr ⟨k - g.E.length - g.L.length, by omega, by omega⟩)
theorem sumN_split {f : Nat → Int} (a : Nat) : ∀ (b : Nat), sumN f (a + b) = sumN f a + sumN (fun j => f (a + j)) b
  | 0 => by simp [sumN]
  | b + 1 => by
    show sumN f (a + b) + f (a + b) = _
    rw [sumN_split a b]
    show _ = sumN f a + (sumN (fun j => f (a + j)) b + f (a + b))
    omega
theorem pair_in {E : List (Int × Int)} {M : List Int} (h : Rises E.length M) {e : Int × Int} (he : e ∈ M.map (pairE E)) : e ∈ E := by
  obtain ⟨x, hx, rfl⟩ := List.mem_map.1 he
  have := h.1 x hx
  unfold pairE
  rw [List.getD_eq_getElem?_getD, List.getElem?_eq_getElem (by omega)]
  exact List.getElem_mem _
theorem gre_match {g : Gph} (hc : chk g = 0) {B : Int → Int} {R M : List Int} (h : GI g B g.E.length R M) (hB : ∀ x, x ≠ srcG g → x ≠ snkG g → B x = 0) : isM g.L g.R g.E M = true ∧ (M.length : Int) = B (snkG g) := by
  obtain ⟨l1, l2, l3, hL, hR, hE, hN⟩ := chk_ok hc
  have hes : ∀ e ∈ M.map (pairE g.E), 0 ≤ e.1 ∧ e.1 < (g.L.length : Int) ∧ 0 ≤ e.2 ∧ e.2 < (g.R.length : Int) := fun e he => hE e (pair_in h.m he)
  have hf0 : ∀ k, k < g.E.length → atI R ((2 * k + 1 : Nat) : Int) = 0 := by
    intro k hk
    have := h.r.c k (by unfold mG; omega)
    rw [if_pos hk] at this
    omega
  have hm2 : (netH g).length / 2 = mG g := by rw [netH_m]; omega
  have hcl : ∀ i : Nat, i < g.L.length → (((M.map (pairE g.E)).countP fun e => decide (e.1 = (i : Int)) : Nat) : Int) ≤ atI g.L (i : Int) := by
    intro i hi
    obtain ⟨e1, e2, e3⟩ := arcLf g i hi
    have hk : g.E.length + i < mG g := by unfold mG; omega
    have hcc := h.r.c _ hk
    rw [if_neg (by omega), e3] at hcc
    have hv := h.v (i : Int)
    rw [hB _ (by unfold srcG; omega) (by unfold snkG; omega), mex_left _ (fun e he => (hes e he).2.2.1) (by omega)] at hv
    have hx : exA (netH g) R (i : Int) = atI R ((2 * (g.E.length + i) + 1 : Nat) : Int) := by
      unfold exA
      rw [hm2, sumN_one (k := g.E.length + i) _ hk (fun k hkm hki => ?_)]
      · unfold exT
        rw [e1, e2, if_pos rfl, if_neg (by unfold srcG; omega)]
        omega
      · unfold exT
        rcases arc_of g k hkm with h1 | ⟨i', h1, rfl⟩ | ⟨j, h1, rfl⟩
        · rw [hf0 k h1]; simp
        · obtain ⟨q1, q2, _⟩ := arcLf g i' h1
          rw [q1, q2, if_neg (by omega), if_neg (by unfold srcG; omega)]
          rfl
        · obtain ⟨q1, q2, _⟩ := arcRt g j h1
          rw [q1, q2, if_neg (by unfold snkG; omega), if_neg (by omega)]
          rfl
    omega
  have hcr : ∀ j : Nat, j < g.R.length → (((M.map (pairE g.E)).countP fun e => decide (e.2 = (j : Int)) : Nat) : Int) = atI R ((2 * (g.E.length + g.L.length + j) + 1 : Nat) : Int) ∧ atI R ((2 * (g.E.length + g.L.length + j) + 1 : Nat) : Int) ≤ atI g.R (j : Int) := by
    intro j hj
    obtain ⟨e1, e2, e3⟩ := arcRt g j hj
    have hk : g.E.length + g.L.length + j < mG g := by unfold mG; omega
    have hcc := h.r.c _ hk
    rw [if_neg (by omega), e3] at hcc
    have hv := h.v ((g.L.length : Int) + (j : Int))
    rw [hB _ (by unfold srcG; omega) (by unfold snkG; omega), mex_right _ (fun e he => (hes e he).2.1) (by omega)] at hv
    have hx : exA (netH g) R ((g.L.length : Int) + (j : Int)) = - atI R ((2 * (g.E.length + g.L.length + j) + 1 : Nat) : Int) := by
      unfold exA
      rw [hm2, sumN_one (k := g.E.length + g.L.length + j) _ hk (fun k hkm hki => ?_)]
      · unfold exT
        rw [e1, e2, if_neg (by unfold snkG; omega), if_pos (by omega)]
        omega
      · unfold exT
        rcases arc_of g k hkm with h1 | ⟨i', h1, rfl⟩ | ⟨j', h1, rfl⟩
        · rw [hf0 k h1]; simp
        · obtain ⟨q1, q2, _⟩ := arcLf g i' h1
          rw [q1, q2, if_neg (by omega), if_neg (by unfold srcG; omega)]
          rfl
        · obtain ⟨q1, q2, _⟩ := arcRt g j' h1
          rw [q1, q2, if_neg (by unfold snkG; omega), if_neg (by omega)]
          rfl
    omega
  constructor
  · unfold isM
    rw [Bool.and_eq_true, decide_eq_true_eq]
    refine ⟨h.m, takes_of _ _ _ hes (fun x hx0 hx1 => ?_) (fun x hx0 hx1 => ?_)⟩
    · have := hcl x.toNat (by omega)
      rwa [Int.toNat_of_nonneg hx0] at this
    · have := hcr x.toNat (by omega)
      rw [Int.toNat_of_nonneg hx0] at this
      omega
  · have hv := h.v (snkG g)
    rw [mex_snk _ (fun e he => by obtain ⟨a, b, c, d⟩ := hes e he; unfold snkG; omega), Int.add_zero] at hv
    rw [← hv]
    have hlen := len_count (n := g.R.length) (M.map (pairE g.E)) (fun e he => (hes e he).2.2)
    rw [List.length_map] at hlen
    rw [hlen]
    unfold exA
    rw [hm2, show mG g = g.E.length + g.L.length + g.R.length from rfl, sumN_split]
    rw [sumN_zero (f := exT (netH g) R (snkG g)) (g.E.length + g.L.length) (fun k hk => ?_)]
    · rw [Int.zero_add]
      refine sumN_congr _ (fun j hj => ?_)
      rw [(hcr j hj).1]
      obtain ⟨q1, q2, _⟩ := arcRt g j hj
      unfold exT
      rw [q1, q2, if_pos rfl, if_neg (by unfold snkG; omega)]
      omega
    · unfold exT
      by_cases h1 : k < g.E.length
      · rw [hf0 k h1]; simp
      · obtain ⟨i', hi'⟩ : ∃ i', k = g.E.length + i' := ⟨k - g.E.length, by omega⟩
        subst hi'
        obtain ⟨q1, q2, _⟩ := arcLf g i' (by omega)
        rw [q1, q2, if_neg (by unfold snkG; omega), if_neg (by unfold srcG snkG; omega)]
        rfl
/-- KOENIG: Greatest's edges are a matching as large as the weight of Cover's cover -/
theorem konig {g : Gph} (hc : chk g = 0) (F K : Nat) (hF : nG g ≤ F) (hK : 1000 * mG g < K) : ∃ Rf M, fillG g F K = some Rf ∧ greG g F K = some M ∧ Full g Rf ∧ isM g.L g.R g.E M = true ∧ (M.length : Int) = weigh g.L g.R g.E (covL g Rf) (covR g Rf) := by
  obtain ⟨Rf, p1, p2⟩ := fillG_ok hc F K hF hK
  have h0 : GI g (fun x => exA (netH g) Rf x) 0 Rf [] := by
    refine ⟨⟨p2.i.len, fun k hk => ?_⟩, fun x => by simp [mexP], ⟨by simp, by simp⟩⟩
    rw [if_neg (Nat.not_lt_zero k)]
    exact p2.i.c k hk
  obtain ⟨M, Re, q1, q2⟩ := greO_ok hc hF g.E.length 0 Rf [] (by omega) h0
  obtain ⟨m1, m2⟩ := gre_match hc q2 p2.c
  refine ⟨Rf, M, p1, ?_, p2, m1, ?_⟩
  · unfold greG
    rw [p1]
    exact q1
  · rw [m2, cut_weight hc p2]
end Go.Proofs.Ytpcdbnlljdfogaa
