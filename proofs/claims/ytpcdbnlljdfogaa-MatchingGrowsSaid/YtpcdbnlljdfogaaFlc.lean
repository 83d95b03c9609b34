/- Plain facts: the flow that filled finds; the cover that the search leaves has its value as weight. -/
import Derived.Test.YtpcdbnlljdfogaaFla
import Derived.Test.YtpcdbnlljdfogaaCov
set_option linter.unusedSimpArgs false
set_option linter.unusedVariables false
namespace Go.Proofs.Ytpcdbnlljdfogaa
open Go.RowKit

def srcG (g : Gph) : Int := ((g.L.length + g.R.length : Nat) : Int)
def snkG (g : Gph) : Int := ((g.L.length + g.R.length + 1 : Nat) : Int)
/-- a greatest flow of a graph -/
structure Full (g : Gph) (R : List Int) : Prop where
  i : RInv (mG g) (cG g) R
  c : ∀ x, x ≠ srcG g → x ≠ snkG g → exA (netH g) R x = 0
  e : atI (bysG g R) (snkG g) = -1
theorem netH_m (g : Gph) : (netH g).length = 2 * mG g := by rw [netH_len]; rfl
theorem fillG_ok {g : Gph} (hc : chk g = 0) (F K : Nat) (hF : nG g ≤ F) (hK : 1000 * mG g < K) : ∃ Rf, fillG g F K = some Rf ∧ Full g Rf := by
  obtain ⟨l1, l2, l3, hL, hR, hE, hN⟩ := chk_ok hc
  have hz : ∀ x, exA (netH g) (netR g) x = 0 := by
    intro x
    unfold exA
    rw [netH_m, show 2 * mG g / 2 = mG g by omega]
    refine sumN_zero _ (fun k hk => ?_)
    unfold exT
    rw [r0_at g k (by rw [capP_len]; exact hk)]
    simp
  obtain ⟨Rf, p1, p2, p3, p4⟩ := fillO_ok (F := F) (t := snkG g) (s := srcG g) (arcs_ok hE) (netH_m g) (fun k hk => cG_le hL hR k hk) (by unfold srcG nG; omega) (by unfold snkG nG; omega) (by unfold srcG snkG; omega) hF K (netR g) (rinv_start hL hR) (by rw [hz]; omega)
  exact ⟨Rf, p1, p2, fun x h1 h2 => by rw [p3 x h1 h2]; exact hz x, p4⟩
/-- where an arc with room leads from what is reached is reached -/
theorem full_closed {g : Gph} {R : List Int} (hE : ∀ e ∈ g.E, 0 ≤ e.1 ∧ e.1 < (g.L.length : Int) ∧ 0 ≤ e.2 ∧ e.2 < (g.R.length : Int)) {a : Nat} (ha : a < 2 * mG g) (h1 : atI (bysG g R) (atI (netH g) (mate a : Int)) ≠ -1) (h2 : atI R (a : Int) > 0) : atI (bysG g R) (atI (netH g) (a : Int)) ≠ -1 := by
  have ok := arcs_ok hE
  have hs : 0 ≤ srcG g ∧ srcG g < ((nG g : Nat) : Int) := by unfold srcG nG; omega
  obtain ⟨q, hq, hcl⟩ := srch_ok (R := R) ok hs.1 hs.2
  have hl := netH_m g
  have hm : mate a < (netH g).length := by rw [hl]; exact mate_lt ha (by omega)
  have hv := ok.h _ (List.getElem_mem hm)
  rw [← atI_get hm] at hv
  obtain ⟨u, hu⟩ : ∃ u : Nat, atI (netH g) (mate a : Int) = (u : Int) := ⟨(atI (netH g) (mate a : Int)).toNat, by omega⟩
  rw [hu] at h1 hv
  have hum := (hq.mem _ hv.1 hv.2).1 h1
  obtain ⟨j, hj, hju⟩ := List.getElem_of_mem hum
  refine hcl j (u : Int) (by rw [List.getElem?_eq_getElem hj, hju]) (a : Int) ?_ h2
  rw [Int.toNat_natCast]
  exact arcs_all (by omega) (by omega) hu
theorem full_src {g : Gph} {R : List Int} (hE : ∀ e ∈ g.E, 0 ≤ e.1 ∧ e.1 < (g.L.length : Int) ∧ 0 ≤ e.2 ∧ e.2 < (g.R.length : Int)) : atI (bysG g R) (srcG g) = -2 := by
  have hs : 0 ≤ srcG g ∧ srcG g < ((nG g : Nat) : Int) := by unfold srcG nG; omega
  obtain ⟨q, hq, _⟩ := srch_ok (R := R) (arcs_ok hE) hs.1 hs.2
  exact hq.s2
/-- sums over lists -/
theorem sumN_list {α : Type} {F : α → Int} {d : α} : ∀ (l : List α), sumN (fun k => F (l.getD k d)) l.length = (l.map F).sum := by
  intro l
  have h : ∀ (n : Nat), n ≤ l.length → sumN (fun k => F (l.getD k d)) n = ((l.take n).map F).sum := by
    intro n
    induction n with
    | zero => intro _; simp [sumN]
    | succ n ih =>
      intro hn
      unfold sumN
      rw [ih (by omega), List.take_add_one, List.getElem?_eq_getElem (by omega), List.map_append, List.sum_append, List.getD_eq_getElem?_getD, List.getElem?_eq_getElem (by omega)]
      simp
  rw [h l.length (Nat.le_refl _), List.take_length]
theorem sum_filter {α : Type} {p : α → Bool} {f : α → Int} : ∀ (l : List α), ((l.filter p).map f).sum = (l.map fun x => if p x = true then f x else 0).sum
  | [] => rfl
  | a :: l => by
    rw [List.filter_cons]
    split
    · rename_i h
      rw [List.map_cons, List.map_cons, List.sum_cons, List.sum_cons, sum_filter l, if_pos h]
    · rename_i h
      rw [List.map_cons, List.sum_cons, sum_filter l, if_neg h]
      omega
theorem cnt_filter {α : Type} {p : α → Bool} : ∀ (l : List α), ((l.filter p).length : Int) = (l.map fun x => if p x = true then (1 : Int) else 0).sum
  | [] => rfl
  | a :: l => by
    rw [List.filter_cons]
    split
    · rename_i h
      rw [List.map_cons, List.sum_cons, List.length_cons, if_pos h, ← cnt_filter l]
      omega
    · rename_i h
      rw [List.map_cons, List.sum_cons, if_neg h, ← cnt_filter l]
      omega
/-- sums over vertices of what arcs carry -/
theorem sum_ex {H R : List Int} {m n : Nat} (hH : H.length = 2 * m) (hn : ∀ x ∈ H, 0 ≤ x ∧ x < (n : Int)) (z : Int → Int) :
    sumN (fun x => z (x : Int) * exA H R (x : Int)) n = sumN (fun k => (z (atI H ((2 * k : Nat) : Int)) - z (atI H ((2 * k + 1 : Nat) : Int))) * atI R ((2 * k + 1 : Nat) : Int)) m := by
  have h1 : ∀ x : Nat, x < n → z (x : Int) * exA H R (x : Int) = sumN (fun k => z (x : Int) * exT H R (x : Int) k) m := by
    intro x _
    unfold exA
    rw [hH, show 2 * m / 2 = m by omega]
    generalize exT H R (x : Int) = f
    have : ∀ n : Nat, z (x : Int) * sumN f n = sumN (fun k => z (x : Int) * f k) n := by
      intro n
      induction n with
      | zero => simp [sumN]
      | succ n ih => unfold sumN; rw [Int.mul_add, ih]
    exact this m
  rw [sumN_congr n h1, sumN_comm]
  refine sumN_congr m (fun k hk => ?_)
  have hin : ∀ (b : Nat), b < 2 * m → sumN (fun x => z (x : Int) * (if atI H (b : Int) = (x : Int) then atI R ((2 * k + 1 : Nat) : Int) else 0)) n = z (atI H (b : Int)) * atI R ((2 * k + 1 : Nat) : Int) := by
    intro b hb
    have hv := hn _ (List.getElem_mem (show b < H.length by omega))
    rw [← atI_get (show b < H.length by omega)] at hv
    obtain ⟨u, hu⟩ : ∃ u : Nat, atI H (b : Int) = (u : Int) := ⟨(atI H (b : Int)).toNat, by omega⟩
    rw [hu] at hv ⊢
    rw [sumN_one (k := u) n (by omega) (fun j hj hju => by rw [if_neg (by omega), Int.mul_zero]), if_pos rfl]
  have h2 : ∀ x : Nat, x < n → z (x : Int) * exT H R (x : Int) k = z (x : Int) * (if atI H ((2 * k : Nat) : Int) = (x : Int) then atI R ((2 * k + 1 : Nat) : Int) else 0) - z (x : Int) * (if atI H ((2 * k + 1 : Nat) : Int) = (x : Int) then atI R ((2 * k + 1 : Nat) : Int) else 0) := by
    intro x _
    unfold exT
    rw [Int.mul_sub]
  rw [sumN_congr n h2, sumN_sub, hin (2 * k) (by omega), hin (2 * k + 1) (by omega), Int.sub_mul]
end Go.Proofs.Ytpcdbnlljdfogaa
/- Plain facts: the cover's weight is the flow's value. -/
namespace Go.Proofs.Ytpcdbnlljdfogaa
open Go.RowKit

def arcs3 (g : Gph) : List ((Int × Int) × Int) := (g.E.map fun e => (((g.L.length : Int) + e.2, e.1), (1 : Int))) ++ ((List.range g.L.length).map fun (i : Nat) => (((i : Int), srcG g), atI g.L (i : Int))) ++ ((List.range g.R.length).map fun (i : Nat) => ((snkG g, ((g.L.length + i : Nat) : Int)), atI g.R (i : Int)))
theorem range_atI (l : List Int) : (List.range l.length).map (fun (i : Nat) => atI l (i : Int)) = l := by
  apply List.ext_getElem
  · simp
  · intro i h1 h2
    rw [List.getElem_map, List.getElem_range, atI_get h2]
theorem arcs3_p (g : Gph) : (arcs3 g).map (·.1) = arcP g := by
  unfold arcs3 arcP srcG snkG
  rw [List.map_append, List.map_append, List.map_map, List.map_map, List.map_map]
  rfl
theorem arcs3_c (g : Gph) : (arcs3 g).map (·.2) = capP g := by
  unfold arcs3 capP
  rw [List.map_append, List.map_append, List.map_map, List.map_map, List.map_map]
  have h1 := range_atI g.L
  have h2 := range_atI g.R
  congr 1
  · congr 1
theorem arcs3_len (g : Gph) : (arcs3 g).length = mG g := by rw [← arcP_len, ← arcs3_p, List.length_map]
theorem arcs3_at (g : Gph) (k : Nat) (hk : k < mG g) : atI (netH g) ((2 * k : Nat) : Int) = ((arcs3 g).getD k default).1.1 ∧ atI (netH g) ((2 * k + 1 : Nat) : Int) = ((arcs3 g).getD k default).1.2 ∧ cG g k = ((arcs3 g).getD k default).2 := by
  have h3 : k < (arcs3 g).length := by rw [arcs3_len]; exact hk
  have hp : k < (arcP g).length := by rw [arcP_len]; exact hk
  have e1 : (arcP g)[k]'hp = ((arcs3 g)[k]'h3).1 := by
    have : (arcP g)[k]? = ((arcs3 g).map (·.1))[k]? := by rw [arcs3_p]
    rw [List.getElem?_map, List.getElem?_eq_getElem hp, List.getElem?_eq_getElem h3] at this
    exact Option.some.inj this
  have e2 : cG g k = ((arcs3 g)[k]'h3).2 := by
    unfold cG
    rw [← arcs3_c, List.getD_eq_getElem?_getD, List.getElem?_map, List.getElem?_eq_getElem h3]
    rfl
  rw [List.getD_eq_getElem?_getD, List.getElem?_eq_getElem h3, Option.getD_some, h_at g k hp, t_at g k hp, e1]
  exact ⟨rfl, rfl, e2⟩
theorem mem_selN {p : Nat → Bool} {n : Nat} {x : Int} (h0 : 0 ≤ x) (h1 : x < (n : Int)) : x ∈ selN p n ↔ p x.toNat = true := by
  unfold selN
  rw [List.mem_map]
  constructor
  · rintro ⟨i, hi, rfl⟩
    rw [List.mem_filter] at hi
    simpa using hi.2
  · intro h
    exact ⟨x.toNat, List.mem_filter.2 ⟨List.mem_range.2 (by omega), h⟩, by omega⟩
theorem sumA_selN (l : List Int) (p : Nat → Bool) (n : Nat) : sumA l (selN p n) = ((List.range n).map fun (i : Nat) => if p i = true then atI l (i : Int) else 0).sum := by
  unfold sumA selN
  rw [List.map_map]
  exact sum_filter (f := fun (i : Nat) => atI l (i : Int)) (List.range n)
def cutF (b : List Int) (q : (Int × Int) × Int) : Int := if atI b q.1.1 = -1 ∧ atI b q.1.2 ≠ -1 then q.2 else 0
theorem cut_weight {g : Gph} {R : List Int} (hc : chk g = 0) (h : Full g R) : weigh g.L g.R g.E (covL g R) (covR g R) = exA (netH g) R (snkG g) := by
  obtain ⟨l1, l2, l3, hL, hR, hE, hN⟩ := chk_ok hc
  have hsrc := full_src (R := R) hE
  have hsnk := h.e
  have hS := sum_ex (R := R) (netH_m g) (netH_ok g hE) (fun x => if atI (bysG g R) x = -1 then 1 else 0)
  rw [sumN_one (k := g.L.length + g.R.length + 1) _ (by omega) (fun j hj hjk => by
    by_cases hjs : (j : Int) = srcG g
    · rw [hjs, hsrc]
      simp
    · rw [h.c (j : Int) hjs (by unfold snkG; omega), Int.mul_zero])] at hS
  have hk1 : ((g.L.length + g.R.length + 1 : Nat) : Int) = snkG g := rfl
  rw [hk1] at hS
  rw [if_pos hsnk, Int.one_mul] at hS
  rw [hS]
  have hT : ∀ k, k < mG g → ((if atI (bysG g R) (atI (netH g) ((2 * k : Nat) : Int)) = -1 then (1 : Int) else 0) - (if atI (bysG g R) (atI (netH g) ((2 * k + 1 : Nat) : Int)) = -1 then 1 else 0)) * atI R ((2 * k + 1 : Nat) : Int) =
      (cutF (bysG g R)) ((arcs3 g).getD k default) := by
    intro k hk
    obtain ⟨e1, e2, e3⟩ := arcs3_at g k hk
    have hi := h.i.c k hk
    have c1 := full_closed (R := R) hE (a := 2 * k) (by omega)
    have c2 := full_closed (R := R) hE (a := 2 * k + 1) (by omega)
    rw [mate_even] at c1
    rw [mate_odd] at c2
    unfold cutF
    rw [← e1, ← e2, ← e3]
    by_cases p1 : atI (bysG g R) (atI (netH g) ((2 * k : Nat) : Int)) = -1
    · by_cases p2 : atI (bysG g R) (atI (netH g) ((2 * k + 1 : Nat) : Int)) = -1
      · rw [if_pos p1, if_pos p2, if_neg (fun hh => hh.2 p2)]
        simp
      · rw [if_pos p1, if_neg p2, if_pos ⟨p1, p2⟩]
        have : ¬ atI R ((2 * k : Nat) : Int) > 0 := fun hh => c1 p2 hh p1
        omega
    · by_cases p2 : atI (bysG g R) (atI (netH g) ((2 * k + 1 : Nat) : Int)) = -1
      · rw [if_neg p1, if_pos p2, if_neg (fun hh => p1 hh.1)]
        have : ¬ atI R ((2 * k + 1 : Nat) : Int) > 0 := fun hh => c2 p1 hh p2
        omega
      · rw [if_neg p1, if_neg p2, if_neg (fun hh => p1 hh.1)]
        simp
  rw [sumN_congr _ hT, ← arcs3_len, sumN_list]
  unfold arcs3 weigh
  rw [List.map_append, List.map_append, List.sum_append, List.sum_append, List.map_map, List.map_map, List.map_map]
  have s1 : (cntO (covL g R) (covR g R) g.E : Int) = (g.E.map ((cutF (bysG g R)) ∘ fun e => (((g.L.length : Int) + e.2, e.1), (1 : Int)))).sum := by
    unfold cntO
    rw [cnt_filter]
    congr 1
    apply List.map_congr_left
    intro e he
    obtain ⟨a1, a2, a3, a4⟩ := hE e he
    have m1 : e.1 ∈ covL g R ↔ atI (bysG g R) e.1 = -1 := by
      unfold covL
      rw [mem_selN a1 a2, Int.toNat_of_nonneg a1]
      simp
    have m2 : e.2 ∈ covR g R ↔ atI (bysG g R) ((g.L.length : Int) + e.2) ≠ -1 := by
      unfold covR
      rw [mem_selN a3 a4, Int.natCast_add, Int.toNat_of_nonneg a3]
      simp
    have : (outB (covL g R) (covR g R) e = true) ↔ (atI (bysG g R) ((g.L.length : Int) + e.2) = -1 ∧ atI (bysG g R) e.1 ≠ -1) := by
      unfold outB
      rw [Bool.and_eq_true]
      simp only [Bool.not_eq_true', List.contains_eq_mem, decide_eq_false_iff_not]
      rw [m1, m2]
      constructor
      · rintro ⟨x, y⟩; exact ⟨Decidable.byContradiction (fun hh => y hh), x⟩
      · rintro ⟨x, y⟩; exact ⟨y, fun hh => hh x⟩
    simp only [Function.comp, cutF]
    by_cases ho : outB (covL g R) (covR g R) e = true
    · rw [if_pos ho, if_pos (this.1 ho)]
    · rw [if_neg ho, if_neg (fun hh => ho (this.2 hh))]
  have s2 : sumA g.L (covL g R) = ((List.range g.L.length).map ((cutF (bysG g R)) ∘ fun (i : Nat) => (((i : Int), srcG g), atI g.L (i : Int)))).sum := by
    unfold covL
    rw [sumA_selN]
    congr 1
    apply List.map_congr_left
    intro i hi
    simp only [Function.comp, cutF]
    rw [hsrc]
    by_cases hb : atI (bysG g R) (i : Int) = -1
    · rw [if_pos (by simpa using hb), if_pos ⟨hb, by decide⟩]
    · rw [if_neg (by simpa using hb), if_neg (fun hh => hb hh.1)]
  have s3 : sumA g.R (covR g R) = ((List.range g.R.length).map ((cutF (bysG g R)) ∘ fun (i : Nat) => ((snkG g, ((g.L.length + i : Nat) : Int)), atI g.R (i : Int)))).sum := by
    unfold covR
    rw [sumA_selN]
    congr 1
    apply List.map_congr_left
    intro i hi
    simp only [Function.comp, cutF]
    rw [hsnk]
    by_cases hb : atI (bysG g R) ((g.L.length + i : Nat) : Int) = -1
    · rw [if_neg (by simpa using hb), if_neg (fun hh => hh.2 hb)]
    · rw [if_pos (by simpa using hb), if_pos ⟨rfl, hb⟩]
  rw [s1, s2, s3]
  omega
end Go.Proofs.Ytpcdbnlljdfogaa
