/- Plain facts of intervals: what their operations compute; soundness, tightness, inclusion. -/
import Derived.Test.YtbjmibaepccbeaaFld
set_option linter.unusedSimpArgs false
set_option linter.unusedVariables false
namespace Go.Proofs.Ytbjmibaepccbeaa
namespace Iv
abbrev F := Int × Int
abbrev V := F × F
abbrev R := F × Int
def zF : F := (0, 0)
def zV : V := (zF, zF)
def okF (f : F) : Bool := vldI f.1 f.2
def cmF (a b : F) : Int := cmpS a.1 a.2 b.1 b.2
def q (f : F) : Rat := Fr.toR f.1 f.2
def les (a b : F) : F := if 0 < cmF a b then b else a
def gre (a b : F) : F := if cmF a b < 0 then b else a
def okV (v : V) : Bool := okF v.1 && okF v.2 && decide (cmF v.1 v.2 ≤ 0)
def insV (a b : V) : Bool := okV a && okV b && decide (cmF b.1 a.1 ≤ 0) && decide (cmF a.2 b.2 ≤ 0)
def conV (a : V) (f : F) : Bool := okV a && okF f && decide (cmF a.1 f ≤ 0) && decide (cmF f a.2 ≤ 0)

theorem cm_q {a b : F} (ha : okF a = true) (hb : okF b = true) : cmF a b = Fr.cmpQ a b := cmp_q ha hb
theorem cm_le {a b : F} (ha : okF a = true) (hb : okF b = true) : cmF a b ≤ 0 ↔ q a ≤ q b := by rw [cm_q ha hb]; exact Fr.cmpQ_le
theorem cm_zero {a b : F} (ha : okF a = true) (hb : okF b = true) : cmF a b = 0 ↔ a = b := by
  rw [show cmF a b = cmpS a.1 a.2 b.1 b.2 from rfl, cmp_zero' ha hb]
  exact ⟨fun h => Prod.ext h.1 h.2, fun h => by rw [h]; exact ⟨rfl, rfl⟩⟩
theorem cm_swap (a b : F) : cmF b a = 0 - cmF a b := cmp_swap' _ _ _ _
theorem cm_self (a : F) : cmF a a = 0 := by have := cm_swap a a; omega
theorem q_inj {a b : F} (ha : okF a = true) (hb : okF b = true) (h : q a = q b) : a = b :=
  (cm_zero ha hb).1 (by rw [cm_q ha hb]; exact Fr.cmpQ_zero.2 h)
theorem les_self (a : F) : les a a = a := by unfold les; split <;> rfl
theorem gre_self (a : F) : gre a a = a := by unfold gre; split <;> rfl
theorem les_mem (a b : F) : les a b = a ∨ les a b = b := by unfold les; split <;> simp
theorem gre_mem (a b : F) : gre a b = a ∨ gre a b = b := by unfold gre; split <;> simp
theorem les_ok {a b : F} (ha : okF a = true) (hb : okF b = true) : okF (les a b) = true := by rcases les_mem a b with h | h <;> rw [h] <;> assumption
theorem gre_ok {a b : F} (ha : okF a = true) (hb : okF b = true) : okF (gre a b) = true := by rcases gre_mem a b with h | h <;> rw [h] <;> assumption
theorem les_le {a b : F} (ha : okF a = true) (hb : okF b = true) : q (les a b) ≤ q a ∧ q (les a b) ≤ q b := by
  unfold les
  split
  · rename_i h
    have := cm_swap a b
    exact ⟨(cm_le hb ha).1 (by omega), Rat.le_refl⟩
  · rename_i h
    exact ⟨Rat.le_refl, (cm_le ha hb).1 (by omega)⟩
theorem le_gre {a b : F} (ha : okF a = true) (hb : okF b = true) : q a ≤ q (gre a b) ∧ q b ≤ q (gre a b) := by
  unfold gre
  split
  · rename_i h
    exact ⟨(cm_le ha hb).1 (by omega), Rat.le_refl⟩
  · rename_i h
    have := cm_swap a b
    exact ⟨Rat.le_refl, (cm_le hb ha).1 (by omega)⟩
/-- the lesser one is below both; the greater one above both -/
theorem les_of {a b : F} (ha : okF a = true) (hb : okF b = true) (h : q a ≤ q b) : les a b = a := by
  unfold les
  rw [if_neg]
  have := (cm_le ha hb).2 h
  omega
theorem gre_of {a b : F} (ha : okF a = true) (hb : okF b = true) (h : q a ≤ q b) : gre a b = b := by
  rcases Classical.em (cmF a b < 0) with h1 | h1
  · unfold gre; rw [if_pos h1]
  · have h2 := (cm_le ha hb).2 h
    have h3 := (cm_zero ha hb).1 (by omega)
    rw [h3]
    exact gre_self b
structure Ok (v : V) : Prop where
  l : okF v.1 = true
  h : okF v.2 = true
  le : q v.1 ≤ q v.2
theorem okV_iff {v : V} : okV v = true ↔ Ok v := by
  unfold okV
  rw [Bool.and_eq_true, Bool.and_eq_true, decide_eq_true_eq]
  exact ⟨fun ⟨⟨h1, h2⟩, h3⟩ => ⟨h1, h2, (cm_le h1 h2).1 h3⟩, fun h => ⟨⟨h.l, h.h⟩, (cm_le h.l h.h).2 h.le⟩⟩
theorem insV_iff {a b : V} : insV a b = true ↔ Ok a ∧ Ok b ∧ q b.1 ≤ q a.1 ∧ q a.2 ≤ q b.2 := by
  unfold insV
  rw [Bool.and_eq_true, Bool.and_eq_true, Bool.and_eq_true, decide_eq_true_eq, decide_eq_true_eq, okV_iff, okV_iff]
  exact ⟨fun ⟨⟨⟨h1, h2⟩, h3⟩, h4⟩ => ⟨h1, h2, (cm_le h2.l h1.l).1 h3, (cm_le h1.h h2.h).1 h4⟩, fun ⟨h1, h2, h3, h4⟩ => ⟨⟨⟨h1, h2⟩, (cm_le h2.l h1.l).2 h3⟩, (cm_le h1.h h2.h).2 h4⟩⟩
theorem conV_iff {a : V} {f : F} : conV a f = true ↔ Ok a ∧ okF f = true ∧ q a.1 ≤ q f ∧ q f ≤ q a.2 := by
  unfold conV
  rw [Bool.and_eq_true, Bool.and_eq_true, Bool.and_eq_true, decide_eq_true_eq, decide_eq_true_eq, okV_iff]
  exact ⟨fun ⟨⟨⟨h1, h2⟩, h3⟩, h4⟩ => ⟨h1, h2, (cm_le h1.l h2).1 h3, (cm_le h2 h1.h).1 h4⟩, fun ⟨h1, h2, h3, h4⟩ => ⟨⟨⟨h1, h2⟩, (cm_le h1.l h2).2 h3⟩, (cm_le h2 h1.h).2 h4⟩⟩
theorem con_ins (a : V) (f : F) : insV (f, f) a = conV a f := by
  rw [Bool.eq_iff_iff, insV_iff, conV_iff]
  exact ⟨fun ⟨h1, h2, h3, h4⟩ => ⟨h2, h1.l, h3, h4⟩, fun ⟨h1, h2, h3, h4⟩ => ⟨⟨h2, h2, Rat.le_refl⟩, h1, h3, h4⟩⟩

-- the results of operations
def tri (t : Int × Int × Int) : R := ((t.1, t.2.1), t.2.2)
def opR (op : Nat) (a b : F) : R :=
  match op with
  | 0 => tri (addS a.1 a.2 b.1 b.2)
  | 1 => tri (subS a.1 a.2 b.1 b.2)
  | 2 => tri (mulS a.1 a.2 b.1 b.2)
  | 3 => (les a b, 0)
  | 4 => (gre a b, 0)
  | _ => tri (divS a.1 a.2 b.1 b.2)
/-- what a result of rational numbers is: in the range or not -/
theorem tri_ok {r : Rat} {t : Int × Int × Int} (e : t = Fr.ofR r) (h : (tri t).2 = 0) : okF (tri t).1 = true ∧ q (tri t).1 = r := by
  obtain ⟨h1, h2⟩ := Fr.ofR_ok e.symm h
  exact ⟨good_vld h1, h2⟩
theorem tri_err {r : Rat} {t : Int × Int × Int} (e : t = Fr.ofR r) : (tri t).2 = 0 ∨ tri t = (zF, 5) := by
  rcases Fr.ofR_err (r := r) with h | h
  · left; rw [e]; exact h
  · right; rw [e, h]; rfl
/-- the operations on rational numbers -/
def qop (op : Nat) (x y : Rat) : Rat :=
  match op with
  | 0 => x + y
  | 1 => x - y
  | 2 => x * y
  | 3 => if x ≤ y then x else y
  | 4 => if x ≤ y then y else x
  | _ => x / y
def fit (op : Nat) (b : F) : Prop := 5 ≤ op → b.1 ≠ 0
theorem les_q {a b : F} (ha : okF a = true) (hb : okF b = true) : q (les a b) = if q a ≤ q b then q a else q b := by
  split
  · rename_i h; rw [les_of ha hb h]
  · rename_i h
    have := les_le ha hb
    rcases les_mem a b with e | e
    · rw [e] at this ⊢; exact absurd this.2 h
    · rw [e]
theorem gre_q {a b : F} (ha : okF a = true) (hb : okF b = true) : q (gre a b) = if q a ≤ q b then q b else q a := by
  split
  · rename_i h; rw [gre_of ha hb h]
  · rename_i h
    have := le_gre ha hb
    rcases gre_mem a b with e | e
    · rw [e]
    · rw [e] at this; exact absurd this.1 h
theorem opR_ok {op : Nat} {a b : F} (ha : okF a = true) (hb : okF b = true) (hf : fit op b) (h : (opR op a b).2 = 0) : okF (opR op a b).1 = true ∧ q (opR op a b).1 = qop op (q a) (q b) := by
  match op, hf, h with
  | 0, _, h => exact tri_ok (add_q ha hb) h
  | 1, _, h => exact tri_ok (sub_q ha hb) h
  | 2, _, h => exact tri_ok (mul_q ha hb) h
  | 3, _, h => exact ⟨les_ok ha hb, les_q ha hb⟩
  | 4, _, h => exact ⟨gre_ok ha hb, gre_q ha hb⟩
  | n + 5, hf, h => exact tri_ok (div_q ha hb (hf (by omega))) h
theorem opR_err {op : Nat} {a b : F} (ha : okF a = true) (hb : okF b = true) (hf : fit op b) : (opR op a b).2 = 0 ∨ opR op a b = (zF, 5) := by
  match op, hf with
  | 0, _ => exact tri_err (add_q ha hb)
  | 1, _ => exact tri_err (sub_q ha hb)
  | 2, _ => exact tri_err (mul_q ha hb)
  | 3, _ => exact Or.inl rfl
  | 4, _ => exact Or.inl rfl
  | n + 5, hf => exact tri_err (div_q ha hb (hf (by omega)))

-- the span of results
def ext (v : V) (f : F) : V := (les v.1 f, gre v.2 f)
def foldV : List F → V
  | [] => zV
  | r :: t => (r :: t).foldl ext (r, r)
structure Span (v : V) (L : List F) : Prop where
  lo : v.1 ∈ L
  hi : v.2 ∈ L
  all : ∀ r ∈ L, q v.1 ≤ q r ∧ q r ≤ q v.2
theorem ext_span {v : V} {A : List F} {f : F} (hA : ∀ r ∈ A, okF r = true) (hf : okF f = true) (h : Span v A) : Span (ext v f) (A ++ [f]) := by
  have l := les_le (hA _ h.lo) hf
  have g := le_gre (hA _ h.hi) hf
  refine ⟨?_, ?_, fun r hr => ?_⟩
  · show les v.1 f ∈ _
    rcases les_mem v.1 f with e | e <;> rw [e]
    · exact List.mem_append.2 (Or.inl h.lo)
    · simp
  · show gre v.2 f ∈ _
    rcases gre_mem v.2 f with e | e <;> rw [e]
    · exact List.mem_append.2 (Or.inl h.hi)
    · simp
  · rcases List.mem_append.1 hr with hr | hr
    · exact ⟨Rat.le_trans l.1 (h.all r hr).1, Rat.le_trans (h.all r hr).2 g.1⟩
    · rw [List.mem_singleton] at hr
      subst hr
      exact ⟨l.2, g.2⟩
theorem fold_span' : ∀ (B A : List F) (v : V), (∀ r ∈ A, okF r = true) → (∀ r ∈ B, okF r = true) → Span v A → Span (B.foldl ext v) (A ++ B)
  | [], A, v, _, _, h => by simpa using h
  | f :: B, A, v, hA, hB, h => by
    have := fold_span' B (A ++ [f]) (ext v f) (fun r hr => by
      rcases List.mem_append.1 hr with hr | hr
      · exact hA r hr
      · rw [List.mem_singleton] at hr; subst hr; exact hB _ (by simp)) (fun r hr => hB r (by simp [hr])) (ext_span hA (hB f (by simp)) h)
    simpa using this
theorem fold_span {L : List F} (hL : ∀ r ∈ L, okF r = true) (hne : L ≠ []) : Span (foldV L) L := by
  match L, hL, hne with
  | r :: t, hL, _ =>
    have h := fold_span' (r :: t) [r] (r, r) (fun x hx => by rw [List.mem_singleton] at hx; subst hx; exact hL _ (by simp)) hL ⟨by simp, by simp, fun x hx => by rw [List.mem_singleton] at hx; subst hx; exact ⟨Rat.le_refl, Rat.le_refl⟩⟩
    refine ⟨?_, ?_, fun x hx => h.all x (by simp at hx ⊢; exact hx)⟩
    · have := h.lo; show (foldV (r :: t)).1 ∈ _; change (List.foldl ext (r, r) (r :: t)).1 ∈ _ at this; simp at this ⊢; exact this
    · have := h.hi; show (foldV (r :: t)).2 ∈ _; change (List.foldl ext (r, r) (r :: t)).2 ∈ _ at this; simp at this ⊢; exact this
theorem span_ok {v : V} {L : List F} (hL : ∀ r ∈ L, okF r = true) (h : Span v L) : Ok v := ⟨hL _ h.lo, hL _ h.hi, (h.all _ h.hi).1⟩
theorem span_uniq {v w : V} {L L' : List F} (hL : ∀ r ∈ L, okF r = true) (h : Span v L) (h' : Span w L') (e : ∀ r, r ∈ L ↔ r ∈ L') : v = w := by
  have hL' : ∀ r ∈ L', okF r = true := fun r hr => hL r ((e r).2 hr)
  refine Prod.ext (q_inj (hL _ h.lo) (hL' _ h'.lo) (Rat.le_antisymm ?_ ?_)) (q_inj (hL _ h.hi) (hL' _ h'.hi) (Rat.le_antisymm ?_ ?_))
  · exact (h.all _ ((e _).2 h'.lo)).1
  · exact (h'.all _ ((e _).1 h.lo)).1
  · exact (h'.all _ ((e _).1 h.hi)).2
  · exact (h.all _ ((e _).2 h'.hi)).2
theorem fold_eq {L L' : List F} (hL : ∀ r ∈ L, okF r = true) (hne : L ≠ []) (e : ∀ r, r ∈ L ↔ r ∈ L') : foldV L = foldV L' := by
  have hne' : L' ≠ [] := by
    intro h
    match L, hne with
    | r :: t, _ => have := (e r).1 (by simp); rw [h] at this; simp at this
  exact span_uniq hL (fold_span hL hne) (fold_span (fun r hr => hL r ((e r).2 hr)) hne') e
theorem fold_two {x y : F} (hx : okF x = true) (hy : okF y = true) (h : q x ≤ q y) : foldV [x, y] = (x, y) := by
  show (les (les x x) y, gre (gre x x) y) = _
  rw [les_self, gre_self, les_of hx hy h, gre_of hx hy h]
/-- the first error -/
def errs : List R → Int
  | [] => 0
  | r :: t => if r.2 = 0 then errs t else r.2
theorem errs_zero : ∀ {L : List R}, errs L = 0 ↔ ∀ r ∈ L, r.2 = 0
  | [] => by simp [errs]
  | r :: t => by
    unfold errs
    have ih := @errs_zero t
    by_cases h : r.2 = 0
    · rw [if_pos h, ih]; simp [h]
    · rw [if_neg h]; simp [h]
theorem errs_five : ∀ {L : List R}, (∀ r ∈ L, r.2 = 0 ∨ r.2 = 5) → errs L = 0 ∨ errs L = 5
  | [], _ => Or.inl rfl
  | r :: t, h => by
    unfold errs
    split
    · exact errs_five (fun x hx => h x (by simp [hx]))
    · rename_i h0
      rcases h r (by simp) with h1 | h1
      · exact absurd h1 h0
      · exact Or.inr h1
def spanV (rs : List R) : V × Int := if errs rs = 0 then (foldV (rs.map Prod.fst), 0) else (zV, errs rs)
/-- the pairs of ends that are named -/
def ends (op : Nat) (a b : V) : List (F × F) :=
  match op with
  | 0 | 3 | 4 => [(a.1, b.1), (a.2, b.2)]
  | 1 => [(a.1, b.2), (a.2, b.1)]
  | _ => [(a.1, b.1), (a.1, b.2), (a.2, b.1), (a.2, b.2)]
def res (op : Nat) (a b : V) : List R := (ends op a b).map fun p => opR op p.1 p.2
/-- the extension of an operation, by the pairs of ends -/
def ofV (op : Nat) (a b : V) : V × Int :=
  if (!okV a || !okV b || (op == 5 && b.1.1 == 0)) = true then (zV, 1) else if errs (res op a b) = 0 then (foldV ((res op a b).map Prod.fst), 0) else (zV, 5)
/-- what the program computes -/
def doV (op : Nat) (a b : V) : V × Int :=
  if (okV a && okV b) = true then
    match op with
    | 3 => ((les a.1 b.1, les a.2 b.2), 0)
    | 4 => ((gre a.1 b.1, gre a.2 b.2), 0)
    | n => spanV (res n a b)
  else (zV, 1)
theorem ends_mem {op : Nat} {a b : V} {p : F × F} (h : p ∈ ends op a b) : (p.1 = a.1 ∨ p.1 = a.2) ∧ (p.2 = b.1 ∨ p.2 = b.2) := by
  unfold ends at h
  split at h <;> simp only [List.mem_cons, List.not_mem_nil, or_false] at h <;> (repeat' rcases h with rfl | h) <;> (try subst h) <;> simp
theorem ends_ok {op : Nat} {a b : V} (ha : Ok a) (hb : Ok b) {p : F × F} (h : p ∈ ends op a b) : okF p.1 = true ∧ okF p.2 = true := by
  obtain ⟨h1, h2⟩ := ends_mem h
  constructor
  · rcases h1 with e | e
    · rw [e]; exact ha.l
    · rw [e]; exact ha.h
  · rcases h2 with e | e
    · rw [e]; exact hb.l
    · rw [e]; exact hb.h
theorem ends_in {op : Nat} {a b : V} (ha : Ok a) (hb : Ok b) {p : F × F} (h : p ∈ ends op a b) : (q a.1 ≤ q p.1 ∧ q p.1 ≤ q a.2) ∧ (q b.1 ≤ q p.2 ∧ q p.2 ≤ q b.2) := by
  obtain ⟨h1, h2⟩ := ends_mem h
  constructor
  · rcases h1 with e | e
    · rw [e]; exact ⟨Rat.le_refl, ha.le⟩
    · rw [e]; exact ⟨ha.le, Rat.le_refl⟩
  · rcases h2 with e | e
    · rw [e]; exact ⟨Rat.le_refl, hb.le⟩
    · rw [e]; exact ⟨hb.le, Rat.le_refl⟩
theorem ends_ne (op : Nat) (a b : V) : ends op a b ≠ [] := by unfold ends; split <;> simp
/-- a divisor other than 0: whatever end is taken -/
def fitV (op : Nat) (b : V) : Prop := 5 ≤ op → b.1.1 ≠ 0 ∧ b.2.1 ≠ 0
theorem fit_mem {op : Nat} {a b : V} (hf : fitV op b) {p : F × F} (h : p ∈ ends op a b) : fit op p.2 := by
  intro h5
  obtain ⟨_, h2⟩ := ends_mem h
  rcases h2 with e | e
  · rw [e]; exact (hf h5).1
  · rw [e]; exact (hf h5).2
theorem res_five {op : Nat} {a b : V} (ha : Ok a) (hb : Ok b) (hf : fitV op b) : errs (res op a b) = 0 ∨ errs (res op a b) = 5 := by
  refine errs_five fun r hr => ?_
  obtain ⟨p, hp, rfl⟩ := List.mem_map.1 hr
  obtain ⟨h1, h2⟩ := ends_ok ha hb hp
  rcases opR_err h1 h2 (fit_mem hf hp) with h | h
  · exact Or.inl h
  · exact Or.inr (by rw [h])
theorem qmin_mono {x y x' y' : Rat} (h1 : x ≤ x') (h2 : y ≤ y') : (if x ≤ y then x else y) ≤ (if x' ≤ y' then x' else y') := by
  split <;> split <;> grind
theorem qmax_mono {x y x' y' : Rat} (h1 : x ≤ x') (h2 : y ≤ y') : (if x ≤ y then y else x) ≤ (if x' ≤ y' then y' else x') := by
  split <;> split <;> grind
theorem do_of {op : Nat} (h5 : op < 5) (a b : V) : doV op a b = ofV op a b := by
  unfold doV ofV
  cases ha : okV a
  · simp
  · cases hb : okV b
    · simp
    · have ka := okV_iff.1 ha
      have kb := okV_iff.1 hb
      have e5 : (op == 5) = false := by simp; omega
      have e1 : (!true || !true || (op == 5 && b.1.1 == 0)) = false := by rw [e5]; rfl
      rw [e1, if_pos (show (true && true) = true from rfl), if_neg (by simp)]
      have hsp : spanV (res op a b) = if errs (res op a b) = 0 then (foldV ((res op a b).map Prod.fst), 0) else (zV, 5) := by
        unfold spanV
        by_cases h0 : errs (res op a b) = 0
        · rw [if_pos h0, if_pos h0]
        · rw [if_neg h0, if_neg h0]
          rcases res_five ka kb (op := op) (fun h => by omega) with h | h
          · exact absurd h h0
          · rw [h]
      match op, h5, hsp with
      | 0, _, hsp => exact hsp
      | 1, _, hsp => exact hsp
      | 2, _, hsp => exact hsp
      | 3, _, _ =>
        rw [if_pos (show errs (res 3 a b) = 0 from rfl)]
        refine Prod.ext ?_ rfl
        refine (fold_two (les_ok ka.l kb.l) (les_ok ka.h kb.h) ?_).symm
        rw [les_q ka.l kb.l, les_q ka.h kb.h]
        exact qmin_mono ka.le kb.le
      | 4, _, _ =>
        rw [if_pos (show errs (res 4 a b) = 0 from rfl)]
        refine Prod.ext ?_ rfl
        refine (fold_two (gre_ok ka.l kb.l) (gre_ok ka.h kb.h) ?_).symm
        rw [gre_q ka.l kb.l, gre_q ka.h kb.h]
        exact qmax_mono ka.le kb.le
/-- where the extension has no error: it is the span of the results of the ends -/
theorem of_ok {op : Nat} {a b : V} (h : (ofV op a b).2 = 0) : Ok a ∧ Ok b ∧ (op = 5 → b.1.1 ≠ 0) ∧ (∀ p ∈ ends op a b, (opR op p.1 p.2).2 = 0) ∧ (ofV op a b).1 = foldV ((res op a b).map Prod.fst) := by
  unfold ofV at h ⊢
  split at h
  · exact absurd h (by decide)
  · rename_i h0
    rw [if_neg h0]
    split at h
    · rename_i h1
      rw [if_pos h1]
      rw [Bool.not_eq_true, Bool.or_eq_false_iff, Bool.or_eq_false_iff] at h0
      obtain ⟨⟨h2, h3⟩, h4⟩ := h0
      refine ⟨okV_iff.1 (by simpa using h2), okV_iff.1 (by simpa using h3), fun h5 => ?_, fun p hp => errs_zero.1 h1 _ (List.mem_map.2 ⟨p, hp, rfl⟩), rfl⟩
      subst h5
      simpa using h4
    · exact absurd h (by decide)
theorem of_span {op : Nat} {a b : V} (hf : fitV op b) (h : (ofV op a b).2 = 0) : (∀ r ∈ (res op a b).map Prod.fst, okF r = true) ∧ Span (ofV op a b).1 ((res op a b).map Prod.fst) := by
  obtain ⟨ha, hb, _, hz, he⟩ := of_ok h
  have hall : ∀ r ∈ (res op a b).map Prod.fst, okF r = true := by
    intro r hr
    obtain ⟨x, hx, rfl⟩ := List.mem_map.1 hr
    obtain ⟨p, hp, rfl⟩ := List.mem_map.1 hx
    obtain ⟨h1, h2⟩ := ends_ok ha hb hp
    exact (opR_ok h1 h2 (fit_mem hf hp) (hz p hp)).1
  refine ⟨hall, ?_⟩
  rw [he]
  exact fold_span hall (by unfold res; simp [ends_ne])
theorem res_mem {op : Nat} {a b : V} {r : F} (h : r ∈ (res op a b).map Prod.fst) : ∃ p ∈ ends op a b, r = (opR op p.1 p.2).1 := by
  obtain ⟨x, hx, rfl⟩ := List.mem_map.1 h
  obtain ⟨p, hp, rfl⟩ := List.mem_map.1 hx
  exact ⟨p, hp, rfl⟩
/-- between the results of two pairs of ends -/
def Brk (op : Nat) (a b : V) (x y : Rat) : Prop := (∃ p ∈ ends op a b, qop op (q p.1) (q p.2) ≤ qop op x y) ∧ ∃ p ∈ ends op a b, qop op x y ≤ qop op (q p.1) (q p.2)
theorem mul_side {l h x : Rat} (y : Rat) (h1 : l ≤ x) (h2 : x ≤ h) : (l * y ≤ x * y ∧ x * y ≤ h * y) ∨ (h * y ≤ x * y ∧ x * y ≤ l * y) := by
  have d1 : 0 ≤ x - l := by grind
  have d2 : 0 ≤ h - x := by grind
  rcases Rat.le_total (a := 0) (b := y) with hy | hy
  · left
    have e1 := Rat.mul_nonneg d1 hy
    have e2 := Rat.mul_nonneg d2 hy
    constructor <;> grind
  · right
    have hy' : 0 ≤ -y := by grind
    have e1 := Rat.mul_nonneg d1 hy'
    have e2 := Rat.mul_nonneg d2 hy'
    constructor <;> grind
theorem brk {op : Nat} (h5 : op < 5) {a b : V} {x y : Rat} (hx : q a.1 ≤ x ∧ x ≤ q a.2) (hy : q b.1 ≤ y ∧ y ≤ q b.2) : Brk op a b x y := by
  match op, h5 with
  | 0, _ => exact ⟨⟨_, List.mem_cons_self .., by show q a.1 + q b.1 ≤ x + y; grind⟩, ⟨(a.2, b.2), by simp [ends], by show x + y ≤ q a.2 + q b.2; grind⟩⟩
  | 1, _ => exact ⟨⟨_, List.mem_cons_self .., by show q a.1 - q b.2 ≤ x - y; grind⟩, ⟨(a.2, b.1), by simp [ends], by show x - y ≤ q a.2 - q b.1; grind⟩⟩
  | 3, _ => exact ⟨⟨_, List.mem_cons_self .., qmin_mono hx.1 hy.1⟩, ⟨(a.2, b.2), by simp [ends], qmin_mono hx.2 hy.2⟩⟩
  | 4, _ => exact ⟨⟨_, List.mem_cons_self .., qmax_mono hx.1 hy.1⟩, ⟨(a.2, b.2), by simp [ends], qmax_mono hx.2 hy.2⟩⟩
  | 2, _ =>
    have key : ∀ z : Rat, (z * q b.1 ≤ z * y ∧ z * y ≤ z * q b.2) ∨ (z * q b.2 ≤ z * y ∧ z * y ≤ z * q b.1) := fun z => by
      have := mul_side z hy.1 hy.2
      rw [Rat.mul_comm z, Rat.mul_comm z, Rat.mul_comm z]
      exact this
    have k1 := key (q a.1)
    have k2 := key (q a.2)
    have k3 := mul_side y hx.1 hx.2
    have m1 : (a.1, b.1) ∈ ends 2 a b := by simp [ends]
    have m2 : (a.1, b.2) ∈ ends 2 a b := by simp [ends]
    have m3 : (a.2, b.1) ∈ ends 2 a b := by simp [ends]
    have m4 : (a.2, b.2) ∈ ends 2 a b := by simp [ends]
    constructor
    · rcases k3 with ⟨k3, _⟩ | ⟨k3, _⟩
      · rcases k1 with ⟨k1, _⟩ | ⟨k1, _⟩
        · exact ⟨_, m1, Rat.le_trans k1 k3⟩
        · exact ⟨_, m2, Rat.le_trans k1 k3⟩
      · rcases k2 with ⟨k2, _⟩ | ⟨k2, _⟩
        · exact ⟨_, m3, Rat.le_trans k2 k3⟩
        · exact ⟨_, m4, Rat.le_trans k2 k3⟩
    · rcases k3 with ⟨_, k3⟩ | ⟨_, k3⟩
      · rcases k2 with ⟨_, k2⟩ | ⟨_, k2⟩
        · exact ⟨_, m4, Rat.le_trans k3 k2⟩
        · exact ⟨_, m3, Rat.le_trans k3 k2⟩
      · rcases k1 with ⟨_, k1⟩ | ⟨_, k1⟩
        · exact ⟨_, m2, Rat.le_trans k3 k1⟩
        · exact ⟨_, m1, Rat.le_trans k3 k1⟩
theorem brk_div {a : V} {x : Rat} {g : F} (hx : q a.1 ≤ x ∧ x ≤ q a.2) : Brk 5 a (g, g) x (q g) := by
  have k := mul_side (q g)⁻¹ hx.1 hx.2
  have m1 : (a.1, g) ∈ ends 5 a (g, g) := by simp [ends]
  have m2 : (a.2, g) ∈ ends 5 a (g, g) := by simp [ends]
  have e : ∀ z : Rat, qop 5 z (q g) = z * (q g)⁻¹ := fun z => Rat.div_def _ _
  rcases k with ⟨k1, k2⟩ | ⟨k1, k2⟩
  · exact ⟨⟨_, m1, by rw [e, e]; exact k1⟩, ⟨_, m2, by rw [e, e]; exact k2⟩⟩
  · exact ⟨⟨_, m2, by rw [e, e]; exact k1⟩, ⟨_, m1, by rw [e, e]; exact k2⟩⟩
/-- a result between is in the extension -/
theorem sound_of {op : Nat} {a b : V} (hf : fitV op b) (h : (ofV op a b).2 = 0) {f g : F} (hfo : okF f = true) (hg : okF g = true) (hfg : fit op g) (hb : Brk op a b (q f) (q g)) (h0 : (opR op f g).2 = 0) : conV (ofV op a b).1 (opR op f g).1 = true := by
  obtain ⟨ha, hbb, _, hz, _⟩ := of_ok h
  obtain ⟨hall, hs⟩ := of_span hf h
  obtain ⟨r1, r2⟩ := opR_ok hfo hg hfg h0
  rw [conV_iff]
  refine ⟨span_ok hall hs, r1, ?_, ?_⟩
  · obtain ⟨p, hp, hle⟩ := hb.1
    obtain ⟨k1, k2⟩ := ends_ok ha hbb hp
    obtain ⟨_, e⟩ := opR_ok k1 k2 (fit_mem hf hp) (hz p hp)
    rw [r2]
    refine Rat.le_trans (hs.all _ (List.mem_map.2 ⟨_, List.mem_map.2 ⟨p, hp, rfl⟩, rfl⟩)).1 ?_
    rw [e]; exact hle
  · obtain ⟨p, hp, hle⟩ := hb.2
    obtain ⟨k1, k2⟩ := ends_ok ha hbb hp
    obtain ⟨_, e⟩ := opR_ok k1 k2 (fit_mem hf hp) (hz p hp)
    rw [r2]
    refine Rat.le_trans ?_ (hs.all _ (List.mem_map.2 ⟨_, List.mem_map.2 ⟨p, hp, rfl⟩, rfl⟩)).2
    rw [e]; exact hle
theorem fitV_lt {op : Nat} (h : op < 5) (b : V) : fitV op b := fun h' => by omega
theorem fit_lt {op : Nat} (h : op < 5) (b : F) : fit op b := fun h' => by omega
/-- the five operations are sound -/
theorem do_sound {op : Nat} (h5 : op < 5) {a b : V} {f g : F} (hf : conV a f = true) (hg : conV b g = true) (h : (doV op a b).2 = 0) (h0 : (opR op f g).2 = 0) : conV (doV op a b).1 (opR op f g).1 = true := by
  rw [do_of h5] at h ⊢
  obtain ⟨_, f1, f2, f3⟩ := conV_iff.1 hf
  obtain ⟨_, g1, g2, g3⟩ := conV_iff.1 hg
  exact sound_of (fitV_lt h5 b) h f1 g1 (fit_lt h5 g) (brk h5 ⟨f2, f3⟩ ⟨g2, g3⟩) h0
/-- both ends are results for ends -/
theorem do_tight {op : Nat} (h5 : op < 5) {a b : V} (h : (doV op a b).2 = 0) : (∃ p ∈ ends op a b, (opR op p.1 p.2).2 = 0 ∧ (opR op p.1 p.2).1 = (doV op a b).1.1) ∧ ∃ p ∈ ends op a b, (opR op p.1 p.2).2 = 0 ∧ (opR op p.1 p.2).1 = (doV op a b).1.2 := by
  rw [do_of h5] at h ⊢
  obtain ⟨_, _, _, hz, _⟩ := of_ok h
  obtain ⟨_, hs⟩ := of_span (fitV_lt h5 b) h
  obtain ⟨p, hp, e⟩ := res_mem hs.lo
  obtain ⟨p', hp', e'⟩ := res_mem hs.hi
  exact ⟨⟨p, hp, hz p hp, e.symm⟩, ⟨p', hp', hz p' hp', e'.symm⟩⟩
/-- if the operands grow, the result grows -/
theorem do_grows {op : Nat} (h5 : op < 5) {a b c d : V} (hac : insV a c = true) (hbd : insV b d = true) (h : (doV op a b).2 = 0) (h' : (doV op c d).2 = 0) : insV (doV op a b).1 (doV op c d).1 = true := by
  obtain ⟨ka, kc, c1, c2⟩ := insV_iff.1 hac
  obtain ⟨kb, kd, d1, d2⟩ := insV_iff.1 hbd
  have con : ∀ p ∈ ends op a b, conV c p.1 = true ∧ conV d p.2 = true := fun p hp => by
    obtain ⟨h1, h2⟩ := ends_ok ka kb hp
    obtain ⟨⟨e1, e2⟩, ⟨e3, e4⟩⟩ := ends_in ka kb hp
    exact ⟨conV_iff.2 ⟨kc, h1, Rat.le_trans c1 e1, Rat.le_trans e2 c2⟩, conV_iff.2 ⟨kd, h2, Rat.le_trans d1 e3, Rat.le_trans e4 d2⟩⟩
  have hok : Ok (doV op a b).1 := by
    rw [do_of h5] at h ⊢
    obtain ⟨hall, hs⟩ := of_span (fitV_lt h5 b) h
    exact span_ok hall hs
  obtain ⟨⟨p, hp, z, e⟩, ⟨p', hp', z', e'⟩⟩ := do_tight h5 h
  have s1 := do_sound h5 (con p hp).1 (con p hp).2 h' z
  have s2 := do_sound h5 (con p' hp').1 (con p' hp').2 h' z'
  rw [e] at s1
  rw [e'] at s2
  obtain ⟨k1, _, k2, _⟩ := conV_iff.1 s1
  obtain ⟨_, _, _, k3⟩ := conV_iff.1 s2
  exact insV_iff.2 ⟨hok, k1, k2, k3⟩
end Iv
end Go.Proofs.Ytbjmibaepccbeaa
