/- Plain facts on fractions in normalized form: no program in sight. -/
set_option linter.unusedSimpArgs false
set_option linter.unusedVariables false
namespace Go.Proofs.Ytbjmibaepccbeaa
namespace Fr
def lim : Nat := 1000000000000000000
def bnd (n : Int) (d : Nat) : Int × Int × Int :=
  if n.natAbs / n.natAbs.gcd d ≤ lim ∧ d / n.natAbs.gcd d ≤ lim then (n / (n.natAbs.gcd d : Int), ((d / n.natAbs.gcd d : Nat) : Int), 0) else (0, 0, 5)

theorem int_div_gcd_natAbs (n : Int) (g : Nat) (h : g ∣ n.natAbs) : (n / (g : Int)).natAbs = n.natAbs / g := by
  have h1 : (g : Int) ∣ n := Int.ofNat_dvd_left.2 h
  obtain ⟨k, rfl⟩ := h1
  by_cases hg : g = 0
  · subst hg; simp
  · rw [Int.mul_ediv_cancel_left _ (by omega), Int.natAbs_mul, Int.natAbs_natCast, Nat.mul_div_cancel_left _ (by omega)]

theorem bnd_coprime (n : Int) (d : Nat) (h : n.natAbs.gcd d = 1) :
    bnd n d = if n.natAbs ≤ lim ∧ d ≤ lim then (n, (d : Int), 0) else (0, 0, 5) := by
  unfold bnd; rw [h]; simp

theorem bnd_mul (k : Nat) (hk : 0 < k) (n : Int) (d : Nat) : bnd ((k : Int) * n) (k * d) = bnd n d := by
  unfold bnd
  have e1 : ((k : Int) * n).natAbs = k * n.natAbs := by rw [Int.natAbs_mul, Int.natAbs_natCast]
  rw [e1, Nat.gcd_mul_left, Nat.mul_div_mul_left _ _ hk, Nat.mul_div_mul_left _ _ hk, Int.natCast_mul, Int.mul_ediv_mul_of_pos _ _ (by omega)]

theorem cop_lin (x y : Int) (a b : Nat) (h1 : x.natAbs.Coprime a) (h2 : b.Coprime a) : (x * b + y * a).natAbs.Coprime a := by
  rw [Nat.Coprime]
  have hk1 := Nat.gcd_dvd_left (x * b + y * a).natAbs a
  have hk2 := Nat.gcd_dvd_right (x * b + y * a).natAbs a
  generalize (x * b + y * a).natAbs.gcd a = k at *
  have k1 : (k : Int) ∣ x * b + y * a := Int.ofNat_dvd_left.2 hk1
  have k2 : (k : Int) ∣ y * a := Int.dvd_trans (Int.natCast_dvd_natCast.2 hk2) (Int.dvd_mul_left _ _)
  have k3 : (k : Int) ∣ x * b := by
    have := Int.dvd_sub k1 k2
    rwa [Int.add_sub_cancel] at this
  have k4 : k ∣ x.natAbs * b := by
    have := Int.ofNat_dvd_left.1 k3
    rwa [Int.natAbs_mul, Int.natAbs_natCast] at this
  have k5 : (x.natAbs * b).Coprime a := Nat.Coprime.mul_left h1 h2
  exact Nat.Coprime.eq_one_of_dvd (Nat.Coprime.coprime_dvd_left (Nat.dvd_refl k) (Nat.Coprime.coprime_dvd_right hk2 (Nat.Coprime.coprime_dvd_left k4 k5))) (Nat.dvd_refl k)

theorem add_core (na nb : Int) (a' b' d : Nat) (ha : na.natAbs.Coprime (a' * d)) (hb : nb.natAbs.Coprime (b' * d)) (hab : a'.Coprime b') (hd : 0 < d)
    (c : Nat) (hc : c = (na * b' + nb * a').natAbs.gcd d) :
    bnd (na * (b' * d : Nat) + nb * (a' * d : Nat)) ((a' * d) * (b' * d)) =
      if (na * b' + nb * a').natAbs / c ≤ lim ∧ a' * (b' * d / c) ≤ lim then ((na * b' + nb * a') / (c : Int), ((a' * (b' * d / c) : Nat) : Int), 0) else (0, 0, 5) := by
  have e1 : na * (b' * d : Nat) + nb * (a' * d : Nat) = (d : Int) * (na * b' + nb * a') := by
    rw [Int.natCast_mul, Int.natCast_mul, Int.mul_add]
    congr 1 <;> ac_rfl
  have e2 : (a' * d) * (b' * d) = d * (a' * (b' * d)) := by
    rw [Nat.mul_comm a' d, Nat.mul_assoc]
  rw [e1, e2, bnd_mul d hd]
  have c1 : (na * b' + nb * a').natAbs.Coprime a' := cop_lin na nb a' b' (Nat.Coprime.coprime_mul_right_right ha) hab.symm
  have c2 : (na * b' + nb * a').natAbs.Coprime b' := by
    rw [Int.add_comm]
    exact cop_lin nb na b' a' (Nat.Coprime.coprime_mul_right_right hb) hab
  generalize na * b' + nb * a' = N at *
  have g1 : N.natAbs.gcd (a' * (b' * d)) = c := by
    rw [Nat.Coprime.gcd_mul_left_cancel_right _ c1.symm, Nat.Coprime.gcd_mul_left_cancel_right _ c2.symm, hc]
  have g2 : c ∣ b' * d := Nat.dvd_trans (hc ▸ Nat.gcd_dvd_right _ _) (Nat.dvd_mul_left _ _)
  unfold bnd
  rw [g1, Nat.mul_div_assoc _ g2]

theorem mul_core (na nb : Int) (da db f s : Nat) (ha : na.natAbs.Coprime da) (hb : nb.natAbs.Coprime db) (da0 : 0 < da) (db0 : 0 < db)
    (hf : f = na.natAbs.gcd db) (hs : s = nb.natAbs.gcd da) :
    bnd (na * nb) (da * db) =
      if (na / f).natAbs * (nb / s).natAbs ≤ lim ∧ (da / s) * (db / f) ≤ lim then ((na / (f : Int)) * (nb / (s : Int)), ((da / s * (db / f) : Nat) : Int), 0) else (0, 0, 5) := by
  have f0 : 0 < f := hf ▸ Nat.gcd_pos_of_pos_right _ db0
  have s0 : 0 < s := hs ▸ Nat.gcd_pos_of_pos_right _ da0
  obtain ⟨x, hx⟩ : (f : Int) ∣ na := Int.ofNat_dvd_left.2 (hf ▸ Nat.gcd_dvd_left _ _)
  obtain ⟨y, hy⟩ : (s : Int) ∣ nb := Int.ofNat_dvd_left.2 (hs ▸ Nat.gcd_dvd_left _ _)
  obtain ⟨u, hu⟩ : f ∣ db := hf ▸ Nat.gcd_dvd_right _ _
  obtain ⟨v, hv⟩ : s ∣ da := hs ▸ Nat.gcd_dvd_right _ _
  have hxa : na.natAbs = f * x.natAbs := by rw [hx, Int.natAbs_mul, Int.natAbs_natCast]
  have hyb : nb.natAbs = s * y.natAbs := by rw [hy, Int.natAbs_mul, Int.natAbs_natCast]
  have cxu : x.natAbs.Coprime u := by
    have : f = f * x.natAbs.gcd u := by rw [← Nat.gcd_mul_left, ← hxa, ← hu, hf]
    exact Nat.eq_of_mul_eq_mul_left f0 (by rw [← this]; simp)
  have cyv : y.natAbs.Coprime v := by
    have : s = s * y.natAbs.gcd v := by rw [← Nat.gcd_mul_left, ← hyb, ← hv, hs]
    exact Nat.eq_of_mul_eq_mul_left s0 (by rw [← this]; simp)
  have cxv : x.natAbs.Coprime v := Nat.Coprime.coprime_dvd_left (hxa ▸ Nat.dvd_mul_left _ _) (Nat.Coprime.coprime_dvd_right (hv ▸ Nat.dvd_mul_left _ _) ha)
  have cyu : y.natAbs.Coprime u := Nat.Coprime.coprime_dvd_left (hyb ▸ Nat.dvd_mul_left _ _) (Nat.Coprime.coprime_dvd_right (hu ▸ Nat.dvd_mul_left _ _) hb)
  have q1 : na / (f : Int) = x := by rw [hx, Int.mul_ediv_cancel_left _ (by omega)]
  have q2 : nb / (s : Int) = y := by rw [hy, Int.mul_ediv_cancel_left _ (by omega)]
  have q3 : db / f = u := by rw [hu, Nat.mul_div_cancel_left _ f0]
  have q4 : da / s = v := by rw [hv, Nat.mul_div_cancel_left _ s0]
  rw [q1, q2, q3, q4]
  have e1 : na * nb = ((f * s : Nat) : Int) * (x * y) := by
    rw [hx, hy, Int.natCast_mul]; ac_rfl
  have e2 : da * db = (f * s) * (v * u) := by rw [hu, hv]; ac_rfl
  rw [e1, e2, bnd_mul _ (Nat.mul_pos f0 s0)]
  have cc : (x * y).natAbs.gcd (v * u) = 1 := by
    rw [Int.natAbs_mul]
    exact Nat.Coprime.mul_left (Nat.Coprime.mul_right cxv cxu) (Nat.Coprime.mul_right cyv cyu)
  rw [bnd_coprime _ _ cc, Int.natAbs_mul]
end Fr
end Go.Proofs.Ytbjmibaepccbeaa
