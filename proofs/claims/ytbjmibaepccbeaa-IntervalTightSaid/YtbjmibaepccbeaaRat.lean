/- Fractions in normalized form within bounds as rational numbers: plain arithmetic. -/
import Derived.Test.YtbjmibaepccbeaaMath
set_option linter.unusedSimpArgs false
set_option linter.unusedVariables false
namespace Go.Proofs.Ytbjmibaepccbeaa
namespace Fr

/-- the bounded fraction of a rational number -/
def ofR (r : Rat) : Int × Int × Int := if r.num.natAbs ≤ lim ∧ r.den ≤ lim then (r.num, (r.den : Int), 0) else (0, 0, 5)
theorem bnd_rat (n : Int) (d : Nat) (hd : 0 < d) : bnd n d = ofR (mkRat n d) := by
  have hg : 0 < n.natAbs.gcd d := Nat.gcd_pos_of_pos_right _ hd
  have e : mkRat n d = Rat.normalize n d (by omega) := Rat.mkRat_def n d ▸ by rw [dif_neg (by omega)]
  unfold bnd ofR
  rw [e]
  simp only [Rat.normalize_eq]
  rw [int_div_gcd_natAbs _ _ (Nat.gcd_dvd_left _ _)]
/-- the rational number of a fraction -/
def toR (n d : Int) : Rat := mkRat n d.natAbs
/-- a fraction in normalized form within the bounds -/
def Good (n d : Int) : Prop := 1 ≤ d ∧ d ≤ 1000000000000000000 ∧ -1000000000000000000 ≤ n ∧ n ≤ 1000000000000000000 ∧ n.natAbs.gcd d.natAbs = 1
theorem toR_eq {n d : Int} (h : Good n d) : (toR n d).num = n ∧ (toR n d).den = d.natAbs := by
  obtain ⟨h1, h2, h3, h4, h5⟩ := h
  unfold toR
  rw [Rat.mkRat_def, dif_neg (by omega)]
  simp only [Rat.normalize_eq, h5]
  simp
theorem ofR_toR {n d : Int} (h : Good n d) : ofR (toR n d) = (n, d, 0) := by
  obtain ⟨e1, e2⟩ := toR_eq h
  obtain ⟨h1, h2, h3, h4, h5⟩ := h
  unfold ofR lim
  rw [e1, e2, if_pos (by omega), show ((d.natAbs : Nat) : Int) = d from by omega]
theorem toR_inj {n d n' d' : Int} (h : Good n d) (h' : Good n' d') (e : toR n d = toR n' d') : n = n' ∧ d = d' := by
  have a := ofR_toR h
  rw [e, ofR_toR h'] at a
  simp at a
  exact ⟨a.1.symm, a.2.symm⟩
theorem ofR_ok {r : Rat} {t : Int × Int × Int} (h : ofR r = t) (h0 : t.2.2 = 0) : Good t.1 t.2.1 ∧ toR t.1 t.2.1 = r := by
  unfold ofR at h
  split at h
  · subst h
    rename_i hb
    unfold lim at hb
    have hd := r.den_pos
    refine ⟨⟨by show (1 : Int) ≤ r.den; omega, by show (r.den : Int) ≤ _; omega, by show _ ≤ r.num; omega, by show r.num ≤ _; omega, by simpa using r.reduced⟩, ?_⟩
    unfold toR
    simp [Rat.mkRat_self]
  · subst h
    simp at h0
theorem ofR_err {r : Rat} : (ofR r).2.2 = 0 ∨ ofR r = (0, 0, 5) := by
  unfold ofR; split <;> simp
theorem add_ofR {an ad bn bd : Int} (ha : 1 ≤ ad) (hb : 1 ≤ bd) : bnd (an * bd + bn * ad) (ad * bd).natAbs = ofR (toR an ad + toR bn bd) := by
  rw [bnd_rat _ _ (by have : 0 < ad * bd := Int.mul_pos (by omega) (by omega); omega)]
  unfold toR
  rw [Rat.mkRat_add_mkRat _ _ (by omega) (by omega), Int.natAbs_mul, show ((bd.natAbs : Nat) : Int) = bd from by omega, show ((ad.natAbs : Nat) : Int) = ad from by omega]
theorem mul_ofR {an ad bn bd : Int} (ha : 1 ≤ ad) (hb : 1 ≤ bd) : bnd (an * bn) (ad * bd).natAbs = ofR (toR an ad * toR bn bd) := by
  rw [bnd_rat _ _ (by have : 0 < ad * bd := Int.mul_pos (by omega) (by omega); omega)]
  unfold toR
  rw [Rat.mkRat_mul_mkRat, Int.natAbs_mul]
theorem neg_toR (n d : Int) : toR (-n) d = -toR n d := by
  unfold toR; rw [Rat.neg_mkRat]
theorem good_neg {n d : Int} (h : Good n d) : Good (-n) d := by
  obtain ⟨h1, h2, h3, h4, h5⟩ := h
  exact ⟨h1, h2, by omega, by omega, by rwa [Int.natAbs_neg]⟩
/-- the inverse of a fraction -/
theorem good_inv {n d : Int} (h : Good n d) (h0 : n ≠ 0) : Good (if n < 0 then -d else d) (n.natAbs : Int) ∧ toR (if n < 0 then -d else d) (n.natAbs : Int) * toR n d = 1 := by
  obtain ⟨h1, h2, h3, h4, h5⟩ := h
  refine ⟨⟨by omega, by omega, by split <;> omega, by split <;> omega, ?_⟩, ?_⟩
  · rw [Int.natAbs_natCast, Nat.gcd_comm]
    split
    · rwa [Int.natAbs_neg]
    · exact h5
  · unfold toR
    rw [Rat.mkRat_mul_mkRat, Int.natAbs_natCast]
    have e : (if n < 0 then -d else d) * n = ((n.natAbs * d.natAbs : Nat) : Int) := by
      rw [Int.natCast_mul]
      split
      · rw [show ((n.natAbs : Nat) : Int) = -n from by omega, show ((d.natAbs : Nat) : Int) = d from by omega, Int.neg_mul, Int.neg_mul, Int.mul_comm]
      · rw [show ((n.natAbs : Nat) : Int) = n from by omega, show ((d.natAbs : Nat) : Int) = d from by omega, Int.mul_comm]
    rw [e]
    have hp : n.natAbs * d.natAbs ≠ 0 := Nat.mul_ne_zero (by omega) (by omega)
    have h := Rat.mkRat_mul_left (n := 1) (d := 1) hp
    rw [show (mkRat 1 1 : Rat) = 1 from rfl] at h
    simpa using h

/-- Add, Sub, Mul, Div of fractions, as bounded rational numbers -/
def addQ (a b : Int × Int) : Int × Int × Int := ofR (toR a.1 a.2 + toR b.1 b.2)
def subQ (a b : Int × Int) : Int × Int × Int := ofR (toR a.1 a.2 - toR b.1 b.2)
def mulQ (a b : Int × Int) : Int × Int × Int := ofR (toR a.1 a.2 * toR b.1 b.2)
def divQ (a b : Int × Int) : Int × Int × Int := ofR (toR a.1 a.2 / toR b.1 b.2)
def fr (t : Int × Int × Int) : Int × Int := (t.1, t.2.1)
def G (a : Int × Int) : Prop := Good a.1 a.2
theorem addQ_comm (a b : Int × Int) : addQ a b = addQ b a := by unfold addQ; rw [Rat.add_comm]
theorem mulQ_comm (a b : Int × Int) : mulQ a b = mulQ b a := by unfold mulQ; rw [Rat.mul_comm]
theorem addQ_ok {a b : Int × Int} (h : (addQ a b).2.2 = 0) : G (fr (addQ a b)) ∧ toR (fr (addQ a b)).1 (fr (addQ a b)).2 = toR a.1 a.2 + toR b.1 b.2 := ofR_ok rfl h
theorem mulQ_ok {a b : Int × Int} (h : (mulQ a b).2.2 = 0) : G (fr (mulQ a b)) ∧ toR (fr (mulQ a b)).1 (fr (mulQ a b)).2 = toR a.1 a.2 * toR b.1 b.2 := ofR_ok rfl h
theorem add_assocQ {a b c : Int × Int} (h1 : (addQ a b).2.2 = 0) (h2 : (addQ b c).2.2 = 0) : addQ (fr (addQ a b)) c = addQ a (fr (addQ b c)) := by
  have e1 := (addQ_ok h1).2
  have e2 := (addQ_ok h2).2
  show ofR (toR (fr (addQ a b)).1 (fr (addQ a b)).2 + toR c.1 c.2) = ofR (toR a.1 a.2 + toR (fr (addQ b c)).1 (fr (addQ b c)).2)
  rw [e1, e2, Rat.add_assoc]
theorem sub_backQ {a b : Int × Int} (ha : G a) (h1 : (addQ a b).2.2 = 0) : subQ (fr (addQ a b)) b = (a.1, a.2, 0) := by
  have e1 := (addQ_ok h1).2
  show ofR (toR (fr (addQ a b)).1 (fr (addQ a b)).2 - toR b.1 b.2) = _
  rw [e1, Rat.sub_eq_add_neg, Rat.add_assoc, Rat.add_neg_cancel, Rat.add_zero]
  exact ofR_toR ha
theorem toR_ne {a : Int × Int} (ha : G a) (h : a.1 ≠ 0) : toR a.1 a.2 ≠ 0 := by
  intro e
  have := (toR_eq ha).1
  rw [e] at this
  exact h this.symm
theorem div_backQ {a b : Int × Int} (ha : G a) (hb : G b) (h0 : b.1 ≠ 0) (h1 : (mulQ a b).2.2 = 0) : divQ (fr (mulQ a b)) b = (a.1, a.2, 0) := by
  have e1 := (mulQ_ok h1).2
  have hn := toR_ne hb h0
  show ofR (toR (fr (mulQ a b)).1 (fr (mulQ a b)).2 / toR b.1 b.2) = _
  rw [e1, Rat.div_def, Rat.mul_assoc, Rat.mul_inv_cancel _ hn, Rat.mul_one]
  exact ofR_toR ha
theorem distribQ {a b c : Int × Int} (h3 : (addQ b c).2.2 = 0) (h4 : (mulQ a b).2.2 = 0) (h6 : (mulQ a c).2.2 = 0) :
    addQ (fr (mulQ a b)) (fr (mulQ a c)) = mulQ a (fr (addQ b c)) := by
  have e3 := (addQ_ok h3).2
  have e4 := (mulQ_ok h4).2
  have e6 := (mulQ_ok h6).2
  show ofR (toR (fr (mulQ a b)).1 (fr (mulQ a b)).2 + toR (fr (mulQ a c)).1 (fr (mulQ a c)).2) = ofR (toR a.1 a.2 * toR (fr (addQ b c)).1 (fr (addQ b c)).2)
  rw [e3, e4, e6, Rat.mul_add]

/-- the order of two fractions -/
def cmpQ (a b : Int × Int) : Int := if toR a.1 a.2 < toR b.1 b.2 then -1 else if toR a.1 a.2 = toR b.1 b.2 then 0 else 1
theorem lt_cross {a b : Int × Int} (ha : G a) (hb : G b) : toR a.1 a.2 < toR b.1 b.2 ↔ a.1 * b.2 < b.1 * a.2 := by
  obtain ⟨e1, e2⟩ := toR_eq ha
  obtain ⟨e3, e4⟩ := toR_eq hb
  rw [Rat.lt_iff, e1, e2, e3, e4, show ((b.2.natAbs : Nat) : Int) = b.2 from by have := hb.1; omega, show ((a.2.natAbs : Nat) : Int) = a.2 from by have := ha.1; omega]
theorem eq_cross {a b : Int × Int} (ha : G a) (hb : G b) : toR a.1 a.2 = toR b.1 b.2 ↔ a = b := by
  constructor
  · intro h
    have := toR_inj ha hb h
    exact Prod.ext this.1 this.2
  · rintro rfl; rfl
theorem cmpQ_range (a b : Int × Int) : -1 ≤ cmpQ a b ∧ cmpQ a b ≤ 1 := by
  unfold cmpQ; split
  · omega
  · split <;> omega
theorem cmpQ_swap (a b : Int × Int) : cmpQ b a = 0 - cmpQ a b := by
  unfold cmpQ
  by_cases h1 : toR a.1 a.2 < toR b.1 b.2
  · rw [if_pos h1, if_neg (Rat.not_lt.2 (Rat.le_of_lt h1)), if_neg (fun e => Rat.ne_of_lt h1 e.symm)]; rfl
  · by_cases h2 : toR a.1 a.2 = toR b.1 b.2
    · rw [if_neg h1, if_pos h2, if_neg (by rw [h2]; exact Rat.lt_irrefl), if_pos h2.symm]; rfl
    · have h3 : toR b.1 b.2 < toR a.1 a.2 := Rat.lt_of_le_of_ne (Rat.not_lt.1 h1) (fun e => h2 e.symm)
      rw [if_neg h1, if_neg h2, if_pos h3]; rfl
theorem cmpQ_le {a b : Int × Int} : cmpQ a b ≤ 0 ↔ toR a.1 a.2 ≤ toR b.1 b.2 := by
  unfold cmpQ
  by_cases h1 : toR a.1 a.2 < toR b.1 b.2
  · rw [if_pos h1]; exact ⟨fun _ => Rat.le_of_lt h1, fun _ => by decide⟩
  · by_cases h2 : toR a.1 a.2 = toR b.1 b.2
    · rw [if_neg h1, if_pos h2]; exact ⟨fun _ => by rw [h2]; exact Rat.le_refl, fun _ => by decide⟩
    · rw [if_neg h1, if_neg h2]
      exact ⟨fun h => by omega, fun h => absurd (Rat.lt_of_le_of_ne h h2) h1⟩
theorem cmpQ_zero {a b : Int × Int} : cmpQ a b = 0 ↔ toR a.1 a.2 = toR b.1 b.2 := by
  unfold cmpQ
  by_cases h1 : toR a.1 a.2 < toR b.1 b.2
  · rw [if_pos h1]; exact ⟨fun h => by omega, fun h => absurd h (Rat.ne_of_lt h1)⟩
  · by_cases h2 : toR a.1 a.2 = toR b.1 b.2
    · rw [if_neg h1, if_pos h2]; exact ⟨fun _ => h2, fun _ => rfl⟩
    · rw [if_neg h1, if_neg h2]; exact ⟨fun h => by omega, fun h => absurd h h2⟩
theorem cmpQ_trans {a b c : Int × Int} (h1 : cmpQ a b ≤ 0) (h2 : cmpQ b c ≤ 0) : cmpQ a c ≤ 0 ∧ (cmpQ a c = 0 → cmpQ a b = 0 ∧ cmpQ b c = 0) := by
  have l1 := cmpQ_le.1 h1
  have l2 := cmpQ_le.1 h2
  refine ⟨cmpQ_le.2 (Rat.le_trans l1 l2), fun h => ?_⟩
  have e := cmpQ_zero.1 h
  exact ⟨cmpQ_zero.2 (Rat.le_antisymm l1 (e ▸ l2)), cmpQ_zero.2 (Rat.le_antisymm l2 (e ▸ l1))⟩
theorem cmpQ_add (a b c : Int × Int) (x y : Int × Int) (hx : toR x.1 x.2 = toR a.1 a.2 + toR c.1 c.2) (hy : toR y.1 y.2 = toR b.1 b.2 + toR c.1 c.2) : cmpQ x y = cmpQ a b := by
  unfold cmpQ
  rw [hx, hy]
  have h1 : (toR a.1 a.2 + toR c.1 c.2 < toR b.1 b.2 + toR c.1 c.2) = (toR a.1 a.2 < toR b.1 b.2) := by
    simp only [eq_iff_iff]; grind
  have h2 : (toR a.1 a.2 + toR c.1 c.2 = toR b.1 b.2 + toR c.1 c.2) = (toR a.1 a.2 = toR b.1 b.2) := by
    simp only [eq_iff_iff]; grind
  simp only [h1, h2]
theorem cmpQ_neg (a b x y : Int × Int) (hx : toR x.1 x.2 = -toR a.1 a.2) (hy : toR y.1 y.2 = -toR b.1 b.2) : cmpQ x y = 0 - cmpQ a b := by
  rw [← cmpQ_swap]
  unfold cmpQ
  rw [hx, hy]
  have h1 : (-toR a.1 a.2 < -toR b.1 b.2) = (toR b.1 b.2 < toR a.1 a.2) := by simp only [eq_iff_iff]; grind
  have h2 : (-toR a.1 a.2 = -toR b.1 b.2) = (toR b.1 b.2 = toR a.1 a.2) := by simp only [eq_iff_iff]; grind
  simp only [h1, h2]
theorem cmpQ_sub (a b x y : Int × Int) (hx : toR x.1 x.2 = toR a.1 a.2 - toR b.1 b.2) (hy : toR y.1 y.2 = 0) : cmpQ x y = cmpQ a b := by
  unfold cmpQ
  rw [hx, hy]
  have h1 : (toR a.1 a.2 - toR b.1 b.2 < 0) = (toR a.1 a.2 < toR b.1 b.2) := by simp only [eq_iff_iff]; grind
  have h2 : (toR a.1 a.2 - toR b.1 b.2 = 0) = (toR a.1 a.2 = toR b.1 b.2) := by simp only [eq_iff_iff]; grind
  simp only [h1, h2]
end Fr
end Go.Proofs.Ytbjmibaepccbeaa
