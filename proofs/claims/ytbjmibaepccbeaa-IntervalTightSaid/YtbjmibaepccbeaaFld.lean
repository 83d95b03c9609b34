/- What Add, Sub, Mul, Div and Cmp compute, as bounded rational numbers: plain facts for the laws of fields and of order. -/
import Derived.Test.YtbjmibaepccbeaaNumL
import Derived.Test.YtbjmibaepccbeaaMathB
import Derived.Test.YtbjmibaepccbeaaRat
set_option linter.unusedSimpArgs false
set_option linter.unusedVariables false
namespace Go.Proofs.Ytbjmibaepccbeaa
open Go.RowKit

theorem vld_good {n d : Int} (h : vldI n d = true) : Fr.Good n d := by
  obtain ⟨h1, h2, h3, h4, h5⟩ := vldI_out h
  refine ⟨h1, h2, h3, h4, ?_⟩
  have h6 : ((n.natAbs.gcd d.natAbs : Nat) : Int) = 1 := h5
  omega
theorem good_vld {n d : Int} (h : Fr.Good n d) : vldI n d = true := by
  obtain ⟨h1, h2, h3, h4, h5⟩ := h
  unfold vldI gcdI
  rw [h5]
  simp only [decide_eq_true_eq]
  exact ⟨h1, h2, h3, h4, rfl⟩
theorem cross_ne {an ad bn bd : Int} (av : vldI an ad = true) (bv : vldI bn bd = true) (h : ¬ (an = bn ∧ ad = bd)) : an * bd ≠ bn * ad := by
  intro e
  have l1 := Fr.lt_cross (a := (an, ad)) (b := (bn, bd)) (vld_good av) (vld_good bv)
  have l2 := Fr.lt_cross (a := (bn, bd)) (b := (an, ad)) (vld_good bv) (vld_good av)
  simp only at l1 l2
  have n1 : ¬ Fr.toR an ad < Fr.toR bn bd := fun h' => by have := l1.1 h'; omega
  have n2 : ¬ Fr.toR bn bd < Fr.toR an ad := fun h' => by have := l2.1 h'; omega
  exact h (Fr.toR_inj (vld_good av) (vld_good bv) (Rat.le_antisymm (Rat.not_lt.1 n2) (Rat.not_lt.1 n1)))
theorem sum_q {an ad bn bd : Int} (av : vldI an ad = true) (bv : vldI bn bd = true) : sumS an ad bn bd = Fr.addQ (an, ad) (bn, bd) := by
  rw [sumS_bnd _ _ _ _ av bv]
  exact Fr.add_ofR (vldI_out av).1 (vldI_out bv).1
theorem add_q {an ad bn bd : Int} (av : vldI an ad = true) (bv : vldI bn bd = true) : addS an ad bn bd = Fr.addQ (an, ad) (bn, bd) := by
  unfold addS
  rw [av, bv, if_pos (show (true && true) = true from rfl), sum_q av bv]
theorem mul_q {an ad bn bd : Int} (av : vldI an ad = true) (bv : vldI bn bd = true) : mulS an ad bn bd = Fr.mulQ (an, ad) (bn, bd) := by
  unfold mulS
  rw [av, bv, if_pos (show (true && true) = true from rfl), mulR_bnd _ _ _ _ av bv]
  exact Fr.mul_ofR (vldI_out av).1 (vldI_out bv).1
theorem neg_vld {n d : Int} (h : vldI n d = true) : vldI (-n) d = true := good_vld (Fr.good_neg (vld_good h))
theorem negS_yes {n d : Int} (h : vldI n d = true) : negS n d = (-n, d) := by unfold negS; rw [if_pos h]
theorem negS_no {n d : Int} (h : vldI n d = false) : negS n d = (0, 0) := by unfold negS; rw [h, if_neg (by simp)]
theorem sub_q {an ad bn bd : Int} (av : vldI an ad = true) (bv : vldI bn bd = true) : subS an ad bn bd = Fr.subQ (an, ad) (bn, bd) := by
  unfold subS
  rw [negS_yes bv, add_q av (neg_vld bv)]
  show Fr.ofR (Fr.toR an ad + Fr.toR (-bn) bd) = Fr.ofR (Fr.toR an ad - Fr.toR bn bd)
  rw [Fr.neg_toR, Rat.sub_eq_add_neg]
theorem inv_good {n d : Int} (h : vldI n d = true) (h0 : n ≠ 0) : vldI (if n < 0 then -d else d) (absI n) = true ∧ Fr.toR (if n < 0 then -d else d) (absI n) * Fr.toR n d = 1 := by
  obtain ⟨g1, g2⟩ := Fr.good_inv (vld_good h) h0
  exact ⟨good_vld g1, g2⟩
theorem div_q {an ad bn bd : Int} (av : vldI an ad = true) (bv : vldI bn bd = true) (h0 : bn ≠ 0) : divS an ad bn bd = Fr.divQ (an, ad) (bn, bd) := by
  obtain ⟨g1, g2⟩ := inv_good bv h0
  have hn := Fr.toR_ne (a := (bn, bd)) (vld_good bv) h0
  unfold divS
  rw [av, bv, if_pos ⟨rfl, h0⟩, mul_q av g1]
  show Fr.ofR (Fr.toR an ad * Fr.toR (if bn < 0 then -bd else bd) (absI bn)) = Fr.ofR (Fr.toR an ad / Fr.toR bn bd)
  have e : Fr.toR (if bn < 0 then -bd else bd) (absI bn) = (Fr.toR bn bd)⁻¹ := by
    have h1 : Fr.toR (if bn < 0 then -bd else bd) (absI bn) * Fr.toR bn bd * (Fr.toR bn bd)⁻¹ = 1 * (Fr.toR bn bd)⁻¹ := by rw [g2]
    rw [Rat.mul_assoc, Rat.mul_inv_cancel _ hn, Rat.mul_one, Rat.one_mul] at h1
    exact h1
  rw [e, Rat.div_def]
theorem cmp_q {an ad bn bd : Int} (av : vldI an ad = true) (bv : vldI bn bd = true) : cmpS an ad bn bd = Fr.cmpQ (an, ad) (bn, bd) := by
  unfold cmpS cmpV ordI Fr.cmpQ
  rw [if_pos av, if_pos bv]
  have l1 := Fr.lt_cross (a := (an, ad)) (b := (bn, bd)) (vld_good av) (vld_good bv)
  simp only at l1
  by_cases h : an = bn ∧ ad = bd
  · obtain ⟨rfl, rfl⟩ := h
    rw [if_neg (by omega), if_pos rfl, if_neg Rat.lt_irrefl, if_pos rfl]
  · have hne := cross_ne av bv h
    have hr : Fr.toR an ad ≠ Fr.toR bn bd := fun e => h (Fr.toR_inj (vld_good av) (vld_good bv) e)
    by_cases hl : an * bd < bn * ad
    · rw [if_pos hl, if_pos (l1.2 hl)]
    · rw [if_neg hl, if_neg hne, if_neg (fun h' => hl (l1.1 h')), if_neg hr]

theorem ofR_wf (r : Rat) : Wf64 ((Fr.ofR r).1, (Fr.ofR r).2.1) := by
  rcases Fr.ofR_err (r := r) with h | h
  · obtain ⟨⟨g1, g2, g3, g4, _⟩, _⟩ := Fr.ofR_ok (r := r) rfl h
    refine ⟨?_, ?_, ?_, ?_⟩ <;> simp only <;> omega
  · rw [h]; unfold Wf64; decide
theorem zz_wf : Wf64 ((0 : Int), (0 : Int)) := by unfold Wf64; decide
theorem add_wf (an ad bn bd : Int) : Wf64 ((addS an ad bn bd).1, (addS an ad bn bd).2.1) := by
  cases av : vldI an ad <;> cases bv : vldI bn bd
  case true.true => rw [add_q av bv]; exact ofR_wf _
  all_goals (unfold addS; rw [av, bv]; exact zz_wf)
theorem mul_wf (an ad bn bd : Int) : Wf64 ((mulS an ad bn bd).1, (mulS an ad bn bd).2.1) := by
  cases av : vldI an ad <;> cases bv : vldI bn bd
  case true.true => rw [mul_q av bv]; exact ofR_wf _
  all_goals (unfold mulS; rw [av, bv]; exact zz_wf)
theorem sub_wf (an ad bn bd : Int) : Wf64 ((subS an ad bn bd).1, (subS an ad bn bd).2.1) := add_wf _ _ _ _

-- the laws of fields
section
variable {an ad bn bd cn cd : Int}
theorem add_comm' (an ad bn bd : Int) : addS an ad bn bd = addS bn bd an ad := by
  cases av : vldI an ad <;> cases bv : vldI bn bd
  case true.true => rw [add_q av bv, add_q bv av, Fr.addQ_comm]
  all_goals (unfold addS; rw [av, bv]; rfl)
theorem mul_comm' (an ad bn bd : Int) : mulS an ad bn bd = mulS bn bd an ad := by
  cases av : vldI an ad <;> cases bv : vldI bn bd
  case true.true => rw [mul_q av bv, mul_q bv av, Fr.mulQ_comm]
  all_goals (unfold mulS; rw [av, bv]; rfl)
theorem add_ok (av : vldI an ad = true) (bv : vldI bn bd = true) (h : (addS an ad bn bd).2.2 = 0) : vldI (addS an ad bn bd).1 (addS an ad bn bd).2.1 = true := by
  rw [add_q av bv] at h ⊢
  exact good_vld (Fr.addQ_ok h).1
theorem mul_ok (av : vldI an ad = true) (bv : vldI bn bd = true) (h : (mulS an ad bn bd).2.2 = 0) : vldI (mulS an ad bn bd).1 (mulS an ad bn bd).2.1 = true := by
  rw [mul_q av bv] at h ⊢
  exact good_vld (Fr.mulQ_ok h).1
theorem add_assoc' (av : vldI an ad = true) (bv : vldI bn bd = true) (cv : vldI cn cd = true) (h1 : (addS an ad bn bd).2.2 = 0) (h3 : (addS bn bd cn cd).2.2 = 0) :
    addS (addS an ad bn bd).1 (addS an ad bn bd).2.1 cn cd = addS an ad (addS bn bd cn cd).1 (addS bn bd cn cd).2.1 := by
  rw [add_q (add_ok av bv h1) cv, add_q av (add_ok bv cv h3)]
  rw [add_q av bv] at h1 ⊢
  rw [add_q bv cv] at h3 ⊢
  exact Fr.add_assocQ h1 h3
theorem sub_back' (av : vldI an ad = true) (bv : vldI bn bd = true) (h1 : (addS an ad bn bd).2.2 = 0) : subS (addS an ad bn bd).1 (addS an ad bn bd).2.1 bn bd = (an, ad, 0) := by
  rw [sub_q (add_ok av bv h1) bv]
  rw [add_q av bv] at h1 ⊢
  exact Fr.sub_backQ (a := (an, ad)) (vld_good av) h1
theorem div_back' (av : vldI an ad = true) (bv : vldI bn bd = true) (h4 : (mulS an ad bn bd).2.2 = 0) (h0 : bn ≠ 0) : divS (mulS an ad bn bd).1 (mulS an ad bn bd).2.1 bn bd = (an, ad, 0) := by
  rw [div_q (mul_ok av bv h4) bv h0]
  rw [mul_q av bv] at h4 ⊢
  exact Fr.div_backQ (a := (an, ad)) (b := (bn, bd)) (vld_good av) (vld_good bv) h0 h4
theorem distrib' (av : vldI an ad = true) (bv : vldI bn bd = true) (cv : vldI cn cd = true) (h3 : (addS bn bd cn cd).2.2 = 0) (h4 : (mulS an ad bn bd).2.2 = 0) (h6 : (mulS an ad cn cd).2.2 = 0) :
    addS (mulS an ad bn bd).1 (mulS an ad bn bd).2.1 (mulS an ad cn cd).1 (mulS an ad cn cd).2.1 = mulS an ad (addS bn bd cn cd).1 (addS bn bd cn cd).2.1 := by
  rw [add_q (mul_ok av bv h4) (mul_ok av cv h6), mul_q av (add_ok bv cv h3)]
  rw [mul_q av bv] at h4 ⊢
  rw [mul_q av cv] at h6 ⊢
  rw [add_q bv cv] at h3 ⊢
  exact Fr.distribQ h3 h4 h6
-- the laws of order
theorem cmp_range' (an ad bn bd : Int) : -1 ≤ cmpS an ad bn bd ∧ cmpS an ad bn bd ≤ 1 := by
  unfold cmpS cmpV ordI
  split <;> (try split) <;> (try split) <;> (try split) <;> omega
theorem cmp_swap' (an ad bn bd : Int) : cmpS bn bd an ad = 0 - cmpS an ad bn bd := by
  cases av : vldI an ad <;> cases bv : vldI bn bd
  case true.true => rw [cmp_q av bv, cmp_q bv av, Fr.cmpQ_swap]
  all_goals (unfold cmpS; rw [av, bv]; rfl)
theorem cmp_trans' (an ad bn bd cn cd : Int) (h1 : cmpS an ad bn bd ≤ 0) (h2 : cmpS bn bd cn cd ≤ 0) : cmpS an ad cn cd ≤ 0 ∧ (cmpS an ad cn cd = 0 → cmpS an ad bn bd = 0 ∧ cmpS bn bd cn cd = 0) := by
  cases av : vldI an ad <;> cases bv : vldI bn bd <;> cases cv : vldI cn cd
  case true.true.true =>
    rw [cmp_q av bv] at h1 ⊢
    rw [cmp_q bv cv] at h2 ⊢
    rw [cmp_q av cv]
    exact Fr.cmpQ_trans h1 h2
  all_goals (unfold cmpS at h1 h2 ⊢; rw [av, bv] at h1; rw [bv, cv] at h2; simp [av, bv, cv] at h1 h2 ⊢)
theorem cmp_zero' (av : vldI an ad = true) (bv : vldI bn bd = true) : cmpS an ad bn bd = 0 ↔ an = bn ∧ ad = bd := by
  rw [cmp_q av bv, Fr.cmpQ_zero]
  constructor
  · intro h; exact Fr.toR_inj (vld_good av) (vld_good bv) h
  · rintro ⟨rfl, rfl⟩; rfl
theorem cmp_neg' (av : vldI an ad = true) (bv : vldI bn bd = true) : cmpS (-an) ad (-bn) bd = 0 - cmpS an ad bn bd := by
  rw [cmp_q (neg_vld av) (neg_vld bv), cmp_q av bv]
  exact Fr.cmpQ_neg _ _ _ _ (Fr.neg_toR _ _) (Fr.neg_toR _ _)
theorem cmp_sub' (av : vldI an ad = true) (bv : vldI bn bd = true) (h : (subS an ad bn bd).2.2 = 0) : cmpS (subS an ad bn bd).1 (subS an ad bn bd).2.1 0 1 = cmpS an ad bn bd := by
  have z : vldI 0 1 = true := by decide
  rw [sub_q av bv] at h ⊢
  have g := Fr.ofR_ok (r := Fr.toR an ad - Fr.toR bn bd) (t := Fr.subQ (an, ad) (bn, bd)) rfl h
  rw [cmp_q (good_vld g.1) z, cmp_q av bv]
  exact Fr.cmpQ_sub _ _ _ _ g.2 (by show Fr.toR 0 1 = 0; rfl)
theorem cmp_add' (av : vldI an ad = true) (bv : vldI bn bd = true) (h1 : (addS an ad cn cd).2.2 = 0) (h2 : (addS bn bd cn cd).2.2 = 0) :
    cmpS (addS an ad cn cd).1 (addS an ad cn cd).2.1 (addS bn bd cn cd).1 (addS bn bd cn cd).2.1 = cmpS an ad bn bd := by
  cases cv : vldI cn cd with
  | false => exfalso; unfold addS at h1; rw [av, cv] at h1; simp at h1
  | true =>
    have v1 := add_ok av cv h1
    have v2 := add_ok bv cv h2
    rw [cmp_q v1 v2, cmp_q av bv]
    rw [add_q av cv] at h1 ⊢
    rw [add_q bv cv] at h2 ⊢
    exact Fr.cmpQ_add _ _ (cn, cd) _ _ (Fr.addQ_ok h1).2 (Fr.addQ_ok h2).2
theorem cmp_inv (an ad bn bd : Int) (h : ¬ (vldI an ad = true ∧ vldI bn bd = true)) : (vldI an ad = decide (cmpS an ad bn bd > 0) ∨ cmpS an ad bn bd = 0) ∧ (vldI bn bd = decide (cmpS an ad bn bd < 0) ∨ cmpS an ad bn bd = 0) := by
  cases av : vldI an ad <;> cases bv : vldI bn bd
  case true.true => exact absurd ⟨av, bv⟩ h
  all_goals (unfold cmpS; rw [av, bv]; simp)
end
end Go.Proofs.Ytbjmibaepccbeaa
