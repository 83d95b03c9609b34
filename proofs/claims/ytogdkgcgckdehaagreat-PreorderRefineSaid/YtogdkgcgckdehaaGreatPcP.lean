/- Plain facts: how many pairs of a list, the earlier one first, a test selects. -/
import Derived.Test.YtogdkgcgckdehaaGreatCmpP
set_option linter.unusedSimpArgs false
set_option linter.unusedVariables false
namespace Go.Proofs.YtogdkgcgckdehaaGreat

/-- pairs of a list, the earlier one first, that a test selects -/
def pcN {α : Type} (f : α → α → Bool) : List α → Nat
  | [] => 0
  | x :: t => t.countP (f x) + pcN f t
theorem pc_append {α : Type} (f : α → α → Bool) : ∀ (A B : List α), pcN f (A ++ B) = pcN f A + pcN f B + (B.map fun y => A.countP fun x => f x y).sum
  | [], B => by
    simp only [List.nil_append, pcN, List.countP_nil]
    have : (B.map fun _ => 0).sum = 0 := by
      induction B with
      | nil => rfl
      | cons b B ih => simp only [List.map_cons, List.sum_cons, ih]
    omega
  | a :: A, B => by
    have ih := pc_append f A B
    have e : (B.map fun y => (a :: A).countP fun x => f x y).sum = (B.map fun y => A.countP fun x => f x y).sum + B.countP (f a) := by
      clear ih
      induction B with
      | nil => rfl
      | cons b B ih =>
        simp only [List.map_cons, List.sum_cons, List.countP_cons] at ih ⊢
        omega
    rw [List.cons_append, pcN, pcN, List.countP_append, ih, e]
    omega
theorem pc_snoc {α : Type} (f : α → α → Bool) (A : List α) (x : α) : pcN f (A ++ [x]) = pcN f A + A.countP fun y => f y x := by
  rw [pc_append]
  simp [pcN]
theorem pc_map {α β : Type} (f : β → β → Bool) (g : α → β) : ∀ (L : List α), pcN f (L.map g) = pcN (fun x y => f (g x) (g y)) L
  | [] => rfl
  | x :: t => by
    rw [List.map_cons, pcN, pcN, pc_map f g t, List.countP_map]
    rfl
theorem pc_perm {α : Type} {f : α → α → Bool} (hf : ∀ x y, f x y = f y x) {A B : List α} (h : A.Perm B) : pcN f A = pcN f B := by
  induction h with
  | nil => rfl
  | cons x h ih => rw [pcN, pcN, ih, h.countP_eq]
  | swap x y l =>
    simp only [pcN, List.countP_cons]
    rw [hf y x]
    omega
  | trans _ _ h1 h2 => exact h1.trans h2
theorem pc_mono {α : Type} {f g : α → α → Bool} : ∀ {L : List α}, (∀ x ∈ L, ∀ y ∈ L, f x y = true → g x y = true) → pcN f L ≤ pcN g L
  | [], _ => Nat.le_refl _
  | x :: t, h => by
    have h1 : t.countP (f x) ≤ t.countP (g x) := List.countP_mono_left fun y hy => h x (by simp) y (by simp [hy])
    have h2 := @pc_mono α f g t fun a ha b hb => h a (by simp [ha]) b (by simp [hb])
    rw [pcN, pcN]
    omega
theorem pc_congr {α : Type} {f g : α → α → Bool} {L : List α} (h : ∀ x ∈ L, ∀ y ∈ L, f x y = g x y) : pcN f L = pcN g L :=
  Nat.le_antisymm (pc_mono fun x hx y hy e => by rw [← h x hx y hy]; exact e) (pc_mono fun x hx y hy e => by rw [h x hx y hy]; exact e)
/-- where the earlier ones stand before the later ones -/
theorem pc_pair {α : Type} {f g : α → α → Bool} : ∀ {L : List α}, L.Pairwise (fun x y => f x y = g x y) → pcN f L = pcN g L
  | [], _ => rfl
  | x :: t, h => by
    obtain ⟨h1, h2⟩ := List.pairwise_cons.1 h
    rw [pcN, pcN, pc_pair h2]
    congr 1
    exact List.countP_congr fun y hy => by rw [h1 y hy]
theorem countP_add {α : Type} (p q : α → Bool) : ∀ (L : List α), L.countP p + L.countP q = L.countP (fun x => p x || q x) + L.countP (fun x => p x && q x)
  | [] => rfl
  | x :: t => by
    have := countP_add p q t
    simp only [List.countP_cons]
    cases p x <;> cases q x <;> simp <;> omega
theorem pc_add {α : Type} (f g : α → α → Bool) : ∀ (L : List α), pcN f L + pcN g L = pcN (fun x y => f x y || g x y) L + pcN (fun x y => f x y && g x y) L
  | [] => rfl
  | x :: t => by
    have h1 := pc_add f g t
    have h2 := countP_add (f x) (g x) t
    simp only [pcN]
    omega
theorem pc_le {α : Type} {f g h : α → α → Bool} {L : List α} (hh : ∀ x ∈ L, ∀ y ∈ L, f x y = true → g x y = true ∨ h x y = true) : pcN f L ≤ pcN g L + pcN h L := by
  rw [pc_add]
  have : pcN f L ≤ pcN (fun x y => g x y || h x y) L := pc_mono fun x hx y hy e => by
    rcases hh x hx y hy e with h1 | h1 <;> simp [h1]
  omega
/-- how many pairs a length has -/
theorem pc_bound {α : Type} (f : α → α → Bool) : ∀ (L : List α), pcN f L ≤ L.length * L.length
  | [] => Nat.le_refl _
  | x :: t => by
    have h1 := pc_bound f t
    have h2 : t.countP (f x) ≤ t.length := List.countP_le_length
    rw [pcN, List.length_cons, Nat.add_mul, Nat.mul_add]
    omega

/-- what two rankings say of two of their indices: opposite orders -/
def oppP (p q : Int × Int) : Bool := (decide (p.1 < q.1) && decide (q.2 < p.2)) || (decide (q.1 < p.1) && decide (p.2 < q.2))
/-- tied in one of them -/
def halfP (p q : Int × Int) : Bool := (decide (p.1 = q.1)) != (decide (p.2 = q.2))
theorem opp_comm (p q : Int × Int) : oppP p q = oppP q p := by
  unfold oppP
  rw [Bool.or_comm]
/-- less, by the first number, then by the second -/
def cmpP (p q : Int × Int) : Int := if p.1 < q.1 then -1 else if q.1 < p.1 then 1 else if p.2 < q.2 then -1 else if q.2 < p.2 then 1 else 0
theorem tot_cmpP : Tot cmpP := by
  refine ⟨fun a b => ?_, fun a b => ?_, fun a b c => ?_⟩
  all_goals
    unfold cmpP
    (repeat' split) <;> omega
/-- in a sorted list of pairs the second numbers descend just where the orders are opposite -/
theorem opp_sorted {L : List (Int × Int)} (h : L.Pairwise fun p q => ¬ cmpP q p < 0) : pcN (fun x y : Int => decide (y < x)) (L.map Prod.snd) = pcN oppP L := by
  rw [pc_map]
  refine pc_pair (h.imp fun {p q} hpq => ?_)
  unfold oppP
  unfold cmpP at hpq
  rw [Bool.eq_iff_iff]
  simp only [Bool.or_eq_true, Bool.and_eq_true, decide_eq_true_eq]
  constructor
  · intro h2
    left
    refine ⟨?_, h2⟩
    (repeat' split at hpq) <;> omega
  · rintro (⟨_, h2⟩ | ⟨h1, _⟩)
    · exact h2
    · rw [if_pos h1] at hpq; omega
/-- the pairs tied in one of two rankings -/
theorem half_ties {a b : List Int} (h : a.length = b.length) :
    pcN halfP (a.zip b) + 2 * pcN (fun p q : Int × Int => decide (p = q)) (a.zip b) = pcN (fun x y : Int => decide (x = y)) a + pcN (fun x y : Int => decide (x = y)) b := by
  have e1 : pcN (fun x y : Int => decide (x = y)) a = pcN (fun p q : Int × Int => decide (p.1 = q.1)) (a.zip b) := by
    have : a = (a.zip b).map Prod.fst := (List.map_fst_zip (by omega)).symm
    rw [this, pc_map, ← this]
  have e2 : pcN (fun x y : Int => decide (x = y)) b = pcN (fun p q : Int × Int => decide (p.2 = q.2)) (a.zip b) := by
    have : b = (a.zip b).map Prod.snd := (List.map_snd_zip (by omega)).symm
    rw [this, pc_map, ← this]
  rw [e1, e2, pc_add (fun p q : Int × Int => decide (p.1 = q.1)) (fun p q : Int × Int => decide (p.2 = q.2))]
  generalize a.zip b = L
  have e3 : pcN (fun p q : Int × Int => decide (p = q)) L = pcN (fun p q : Int × Int => decide (p.1 = q.1) && decide (p.2 = q.2)) L := pc_congr fun p _ q _ => by
    rw [Bool.eq_iff_iff]
    simp only [Bool.and_eq_true, decide_eq_true_eq, Prod.ext_iff]
  rw [e3]
  have e4 := pc_add halfP (fun p q : Int × Int => decide (p.1 = q.1) && decide (p.2 = q.2)) L
  have e5 : pcN (fun p q : Int × Int => halfP p q && (decide (p.1 = q.1) && decide (p.2 = q.2))) L = 0 := by
    have : ∀ L : List (Int × Int), pcN (fun _ _ : Int × Int => false) L = 0 := by
      intro L
      induction L with
      | nil => rfl
      | cons x t ih => rw [pcN, ih]; simp
    rw [← this L]
    exact pc_congr fun p _ q _ => by
      unfold halfP
      cases decide (p.1 = q.1) <;> cases decide (p.2 = q.2) <;> rfl
  have e6 : pcN (fun p q : Int × Int => halfP p q || (decide (p.1 = q.1) && decide (p.2 = q.2))) L = pcN (fun p q : Int × Int => decide (p.1 = q.1) || decide (p.2 = q.2)) L := pc_congr fun p _ q _ => by
    unfold halfP
    cases decide (p.1 = q.1) <;> cases decide (p.2 = q.2) <;> rfl
  rw [e6, e5] at e4
  omega
end Go.Proofs.YtogdkgcgckdehaaGreat
