/- What Mul and Add compute is the bounded product and the bounded sum: plain arithmetic. -/
import Derived.Test.YtbjmibaepccbeaaNumI
set_option linter.unusedSimpArgs false
set_option linter.unusedVariables false
namespace Go.Proofs.Ytbjmibaepccbeaa
open Go.RowKit

/-- a number is its magnitude with its sign -/
theorem sg_abs (n : Int) : sg (decide (n < 0)) (absI n) = n := by
  unfold sg absI; by_cases h : n < 0 <;> simp [h] <;> omega
theorem sg_mul (p q : Bool) (x y : Int) : sg (p != q) (x * y) = sg p x * sg q y := by
  cases p <;> cases q <;> simp [sg, Int.neg_mul, Int.mul_neg]
theorem sg_div (p : Bool) (x g : Int) (h : g ∣ x) : sg p (x / g) = sg p x / g := by
  cases p
  · rfl
  · simp only [sg, if_true]; rw [Int.neg_ediv_of_dvd h]
theorem sg_natAbs (p : Bool) (x : Int) : (sg p x).natAbs = x.natAbs := by
  cases p <;> simp [sg]

/-- Mul's own way gives the bounded product -/
theorem mulR_bnd (an ad bn bd : Int) (av : vldI an ad = true) (bv : vldI bn bd = true) : mulR an ad bn bd = Fr.bnd (an * bn) (ad * bd).natAbs := by
  obtain ⟨a1, a2, a3, a4, a5⟩ := vldI_out av
  obtain ⟨b1, b2, b3, b4, b5⟩ := vldI_out bv
  obtain ⟨da, rfl⟩ := Int.eq_ofNat_of_zero_le (show 0 ≤ ad by omega)
  obtain ⟨db, rfl⟩ := Int.eq_ofNat_of_zero_le (show 0 ≤ bd by omega)
  have ca : an.natAbs.Coprime da := by have h : ((an.natAbs.gcd da : Nat) : Int) = 1 := a5; show an.natAbs.gcd da = 1; omega
  have cb : bn.natAbs.Coprime db := by have h : ((bn.natAbs.gcd db : Nat) : Int) = 1 := b5; show bn.natAbs.gcd db = 1; omega
  have h := Fr.mul_core an bn da db _ _ ca cb (by omega) (by omega) rfl rfl
  rw [show ((da : Int) * db).natAbs = da * db from by rw [Int.natAbs_mul]; rfl, h]
  unfold mulR nrm
  have e1 : gcdI (absI an) db = (an.natAbs.gcd db : Nat) := rfl
  have e2 : gcdI (absI bn) da = (bn.natAbs.gcd da : Nat) := rfl
  rw [e1, e2]
  have d1 : ((an.natAbs.gcd db : Nat) : Int) ∣ absI an := Int.natCast_dvd_natCast.2 (Nat.gcd_dvd_left _ _)
  have d2 : ((bn.natAbs.gcd da : Nat) : Int) ∣ absI bn := Int.natCast_dvd_natCast.2 (Nat.gcd_dvd_left _ _)
  have s1 : sg (decide (an < 0)) (absI an / (an.natAbs.gcd db : Nat)) = an / (an.natAbs.gcd db : Nat) := by rw [sg_div _ _ _ d1, sg_abs]
  have s2 : sg (decide (bn < 0)) (absI bn / (bn.natAbs.gcd da : Nat)) = bn / (bn.natAbs.gcd da : Nat) := by rw [sg_div _ _ _ d2, sg_abs]
  rw [sg_mul, s1, s2]
  have n1 : (an / ((an.natAbs.gcd db : Nat) : Int)).natAbs = an.natAbs / an.natAbs.gcd db := Fr.int_div_gcd_natAbs _ _ (Nat.gcd_dvd_left _ _)
  have n2 : (bn / ((bn.natAbs.gcd da : Nat) : Int)).natAbs = bn.natAbs / bn.natAbs.gcd da := Fr.int_div_gcd_natAbs _ _ (Nat.gcd_dvd_left _ _)
  rw [n1, n2]
  have c1 : absI an / ((an.natAbs.gcd db : Nat) : Int) * (absI bn / ((bn.natAbs.gcd da : Nat) : Int)) = ((an.natAbs / an.natAbs.gcd db * (bn.natAbs / bn.natAbs.gcd da) : Nat) : Int) := by
    unfold absI; simp
  have c2 : (da : Int) / ((bn.natAbs.gcd da : Nat) : Int) * ((db : Int) / ((an.natAbs.gcd db : Nat) : Int)) = ((da / bn.natAbs.gcd da * (db / an.natAbs.gcd db) : Nat) : Int) := by simp
  rw [c1, c2]
  have cond : (((an.natAbs / an.natAbs.gcd db * (bn.natAbs / bn.natAbs.gcd da) : Nat) : Int) ≤ 1000000000000000000 ∧ ((da / bn.natAbs.gcd da * (db / an.natAbs.gcd db) : Nat) : Int) ≤ 1000000000000000000) =
      (an.natAbs / an.natAbs.gcd db * (bn.natAbs / bn.natAbs.gcd da) ≤ Fr.lim ∧ da / bn.natAbs.gcd da * (db / an.natAbs.gcd db) ≤ Fr.lim) := by
    unfold Fr.lim; simp only [eq_iff_iff]; omega
  simp only [cond]

/-- the sum with signs is the sum -/
theorem ssN_val (na nb : Bool) (A B : Int) : sg (ssN na A nb B).1 (ssN na A nb B).2 = sg na A + sg nb B := by
  unfold ssN sg
  by_cases h : A < B <;> cases na <;> cases nb <;> simp [h] <;> omega
theorem ssN_nonneg (na nb : Bool) {A B : Int} (ha : 0 ≤ A) (hb : 0 ≤ B) : 0 ≤ (ssN na A nb B).2 := by
  unfold ssN; split
  · simp; omega
  · split <;> simp <;> omega

/-- Add's own way gives the bounded sum -/
theorem sumS_bnd (an ad bn bd : Int) (av : vldI an ad = true) (bv : vldI bn bd = true) : sumS an ad bn bd = Fr.bnd (an * bd + bn * ad) (ad * bd).natAbs := by
  obtain ⟨a1, a2, a3, a4, a5⟩ := vldI_out av
  obtain ⟨b1, b2, b3, b4, b5⟩ := vldI_out bv
  obtain ⟨da, rfl⟩ := Int.eq_ofNat_of_zero_le (show 0 ≤ ad by omega)
  obtain ⟨db, rfl⟩ := Int.eq_ofNat_of_zero_le (show 0 ≤ bd by omega)
  have ca : an.natAbs.Coprime da := by have h : ((an.natAbs.gcd da : Nat) : Int) = 1 := a5; show an.natAbs.gcd da = 1; omega
  have cb : bn.natAbs.Coprime db := by have h : ((bn.natAbs.gcd db : Nat) : Int) = 1 := b5; show bn.natAbs.gcd db = 1; omega
  have d0 : 0 < da.gcd db := Nat.gcd_pos_of_pos_left _ (by omega)
  obtain ⟨a', ha'⟩ : da.gcd db ∣ da := Nat.gcd_dvd_left _ _
  obtain ⟨b', hb'⟩ : da.gcd db ∣ db := Nat.gcd_dvd_right _ _
  have hg : gcdI (da : Int) db = ((da.gcd db : Nat) : Int) := rfl
  generalize hd : da.gcd db = d at *
  have qa : (da : Int) / (d : Int) = (a' : Int) := by rw [ha', Int.natCast_mul, Int.mul_ediv_cancel_left _ (by omega)]
  have qb : (db : Int) / (d : Int) = (b' : Int) := by rw [hb', Int.natCast_mul, Int.mul_ediv_cancel_left _ (by omega)]
  have hab : a'.Coprime b' := by
    have : d = d * a'.gcd b' := by rw [← Nat.gcd_mul_left, ← ha', ← hb', hd]
    exact Nat.eq_of_mul_eq_mul_left d0 (by rw [← this]; simp)
  have S1 : sg (sumR an da bn db).1 (sumR an da bn db).2 = an * b' + bn * a' := by
    unfold sumR
    rw [ssN_val, hg, qa, qb]
    have e1 : sg (decide (an < 0)) (absI an * (b' : Int)) = an * b' := by
      have := sg_mul (decide (an < 0)) false (absI an) b'
      rw [sg_abs] at this
      simpa [sg] using this
    have e2 : sg (decide (bn < 0)) (absI bn * (a' : Int)) = bn * a' := by
      have := sg_mul (decide (bn < 0)) false (absI bn) a'
      rw [sg_abs] at this
      simpa [sg] using this
    rw [e1, e2]
  have S2 : 0 ≤ (sumR an da bn db).2 := by
    unfold sumR
    rw [hg, qa, qb]
    exact ssN_nonneg _ _ (Int.mul_nonneg (by unfold absI; omega) (by omega)) (Int.mul_nonneg (by unfold absI; omega) (by omega))
  unfold sumS sumC
  rw [hg, qa]
  generalize (sumR an da bn db).1 = sb at *
  generalize (sumR an da bn db).2 = S at *
  obtain ⟨s, rfl⟩ := Int.eq_ofNat_of_zero_le S2
  have nab : (an * b' + bn * a').natAbs = s := by rw [← S1, sg_natAbs]; rfl
  have hc : gcdI ((s : Int) % (d : Int)) d = ((s.gcd d : Nat) : Int) := by
    unfold gcdI
    rw [← Int.natCast_emod]
    simp only [Int.natAbs_natCast]
    rw [← Nat.gcd_rec d s, Nat.gcd_comm]
  rw [hc]
  have h := Fr.add_core an bn a' b' d (by rw [Nat.mul_comm a' d, ← ha']; exact ca) (by rw [Nat.mul_comm b' d, ← hb']; exact cb) hab d0 _ rfl
  rw [nab] at h
  have D : ((da : Int) * db).natAbs = (a' * d) * (b' * d) := by rw [Int.natAbs_mul, Int.natAbs_natCast, Int.natAbs_natCast, Nat.mul_comm a' d, Nat.mul_comm b' d, ← ha', ← hb']
  have N : an * (db : Int) + bn * (da : Int) = an * ((b' * d : Nat) : Int) + bn * ((a' * d : Nat) : Int) := by rw [Nat.mul_comm b' d, Nat.mul_comm a' d, ← ha', ← hb']
  rw [D, N, h]
  unfold nrm
  have e3 : sg sb ((s : Int) / ((s.gcd d : Nat) : Int)) = (an * b' + bn * a') / ((s.gcd d : Nat) : Int) := by
    rw [sg_div _ _ _ (Int.natCast_dvd_natCast.2 (Nat.gcd_dvd_left _ _)), S1]
  rw [e3]
  have e4 : (a' : Int) * ((db : Int) / ((s.gcd d : Nat) : Int)) = ((a' * (b' * d / s.gcd d) : Nat) : Int) := by rw [Nat.mul_comm b' d, ← hb']; simp
  rw [e4]
  have cond : ((s : Int) / ((s.gcd d : Nat) : Int) ≤ 1000000000000000000 ∧ ((a' * (b' * d / s.gcd d) : Nat) : Int) ≤ 1000000000000000000) = (s / s.gcd d ≤ Fr.lim ∧ a' * (b' * d / s.gcd d) ≤ Fr.lim) := by
    unfold Fr.lim; rw [← Int.natCast_ediv]; simp only [eq_iff_iff]; omega
  simp only [cond]
end Go.Proofs.Ytbjmibaepccbeaa
