/- Plain facts of comparisons: total ones, one behind the other, of lists. -/
import Derived.Lib.Bytealg
import Derived.Lib.Small
set_option linter.unusedSimpArgs false
set_option linter.unusedVariables false
namespace Go.Proofs.YtflpehpjemlphaaDoor

/-- a comparison: -1, 0 or 1, turned by exchange, transitive -/
structure Tot {α : Type} (c : α → α → Int) : Prop where
  three : ∀ x y, c x y = -1 ∨ c x y = 0 ∨ c x y = 1
  turn : ∀ x y, c x y = - c y x
  trans : ∀ x y z, c x y ≤ 0 → c y z ≤ 0 → c x z ≤ 0
theorem Tot.refl {α : Type} {c : α → α → Int} (h : Tot c) (x : α) : c x x = 0 := by
  have := h.turn x x; omega
theorem Tot.lt_le {α : Type} {c : α → α → Int} (h : Tot c) {x y z : α} (h1 : c x y < 0) (h2 : c y z ≤ 0) : c x z < 0 := by
  have a := h.turn x z; have b := h.turn x y
  by_cases hz : c x z < 0
  · exact hz
  · have := h.trans y z x h2 (by omega); omega
theorem Tot.le_lt {α : Type} {c : α → α → Int} (h : Tot c) {x y z : α} (h1 : c x y ≤ 0) (h2 : c y z < 0) : c x z < 0 := by
  have a := h.turn x z; have b := h.turn y z
  by_cases hz : c x z < 0
  · exact hz
  · have := h.trans z x y (by omega) h1; omega
theorem Tot.eq_eq {α : Type} {c : α → α → Int} (h : Tot c) {x y z : α} (h1 : c x y = 0) (h2 : c y z = 0) : c x z = 0 := by
  have a := h.turn x z; have b := h.turn y z; have d := h.turn x y
  have := h.trans x y z (by omega) (by omega)
  have := h.trans z y x (by omega) (by omega)
  omega
/-- the first, and the second where it is 0 -/
def thenC {α : Type} (c d : α → α → Int) (x y : α) : Int := if c x y = 0 then d x y else c x y
theorem Tot.then {α : Type} {c d : α → α → Int} (hc : Tot c) (hd : Tot d) : Tot (thenC c d) where
  three x y := by unfold thenC; split; exact hd.three x y; exact hc.three x y
  turn x y := by
    unfold thenC
    have a := hc.turn x y
    have b := hd.turn x y
    split <;> split <;> omega
  trans x y z := by
    unfold thenC
    intro h1 h2
    have a := hc.trans x y z
    have b := hd.trans x y z
    have e := @Tot.eq_eq _ c hc x y z
    have f := @Tot.lt_le _ c hc x y z
    have g := @Tot.le_lt _ c hc x y z
    split at h1 <;> split at h2 <;> split <;> omega
/-- by a measure of both -/
def onC {α β : Type} (f : α → β) (c : β → β → Int) (x y : α) : Int := c (f x) (f y)
theorem Tot.on {α β : Type} {c : β → β → Int} (h : Tot c) (f : α → β) : Tot (onC f c) :=
  ⟨fun x y => h.three _ _, fun x y => h.turn _ _, fun x y z => h.trans _ _ _⟩
theorem tot_int : Tot Lib.compareInt := by
  refine ⟨fun x y => ?_, fun x y => ?_, fun x y z => ?_⟩ <;> unfold Lib.compareInt <;> (repeat' split) <;> omega
/-- lists: by their first elements that differ; a list that is used up first is less -/
def lexC {α : Type} (c : α → α → Int) : List α → List α → Int
  | [], [] => 0
  | [], _ :: _ => -1
  | _ :: _, [] => 1
  | a :: as, b :: bs => if c a b = 0 then lexC c as bs else c a b
theorem Tot.lex {α : Type} {c : α → α → Int} (h : Tot c) : Tot (lexC c) := by
  refine ⟨fun x => ?_, fun x => ?_, fun x => ?_⟩
  · induction x with
    | nil => intro y; cases y <;> simp [lexC]
    | cons a as ih =>
      intro y
      cases y with
      | nil => simp [lexC]
      | cons b bs =>
        unfold lexC
        split
        · exact ih bs
        · exact h.three a b
  · induction x with
    | nil => intro y; cases y <;> simp [lexC]
    | cons a as ih =>
      intro y
      cases y with
      | nil => simp [lexC]
      | cons b bs =>
        unfold lexC
        have := h.turn a b
        have := ih bs
        split <;> split <;> omega
  · induction x with
    | nil => intro y z; cases y <;> cases z <;> simp [lexC]
    | cons a as ih =>
      intro y z
      cases y with
      | nil => intro h1; simp [lexC] at h1
      | cons b bs =>
        cases z with
        | nil => intro h1 h2; simp [lexC] at h2
        | cons d ds =>
          unfold lexC
          intro h1 h2
          have i := ih bs ds
          have e := @Tot.eq_eq _ c h a b d
          have f := @Tot.lt_le _ c h a b d
          have g := @Tot.le_lt _ c h a b d
          split at h1 <;> split at h2 <;> split <;> omega
def cmp8 (a b : UInt8) : Int := if a < b then -1 else if b < a then 1 else 0
theorem cmp8_eq (a b : UInt8) : cmp8 a b = onC (fun x : UInt8 => (x.toNat : Int)) Lib.compareInt a b := by
  unfold cmp8 onC Lib.compareInt
  simp only [UInt8.lt_iff_toNat_lt]
  (repeat' split) <;> omega
theorem tot_cmp8 : Tot cmp8 := by
  have : cmp8 = onC (fun x : UInt8 => (x.toNat : Int)) Lib.compareInt := funext fun a => funext fun b => cmp8_eq a b
  rw [this]
  exact tot_int.on _
theorem bytes_lex : Lib.compareBytes = lexC cmp8 := by
  funext x
  induction x with
  | nil => funext y; cases y <;> rfl
  | cons a as ih =>
    funext y
    cases y with
    | nil => rfl
    | cons b bs =>
      unfold Lib.compareBytes lexC
      rw [ih]
      generalize lexC cmp8 as bs = z
      unfold cmp8
      by_cases h1 : a < b
      · simp [h1]
      · by_cases h2 : b < a
        · simp [h1, h2]
        · simp [h1, h2]
theorem tot_bytes : Tot Lib.compareBytes := by rw [bytes_lex]; exact tot_cmp8.lex
theorem cmp8_zero {a b : UInt8} : cmp8 a b = 0 ↔ a = b := by
  rw [cmp8_eq]
  unfold onC Lib.compareInt
  constructor
  · intro h
    apply UInt8.toNat.inj
    by_cases h1 : (a.toNat : Int) < (b.toNat : Int)
    · rw [if_pos h1] at h; omega
    · rw [if_neg h1] at h
      by_cases h2 : (a.toNat : Int) > (b.toNat : Int)
      · rw [if_pos h2] at h; omega
      · omega
  · rintro rfl
    simp
theorem lex_zero {α : Type} {c : α → α → Int} (h : ∀ x y, c x y = 0 ↔ x = y) : ∀ (x y : List α), lexC c x y = 0 ↔ x = y
  | [], [] => by simp [lexC]
  | [], _ :: _ => by simp [lexC]
  | _ :: _, [] => by simp [lexC]
  | a :: as, b :: bs => by
    unfold lexC
    rw [List.cons.injEq, ← h a b, ← lex_zero h as bs]
    split <;> simp_all
theorem bytes_zero {a b : List UInt8} : Lib.compareBytes a b = 0 ↔ a = b := by
  rw [bytes_lex]; exact lex_zero (fun x y => cmp8_zero) a b
/-- a beginning is never greater than the whole -/
theorem lex_pre {α : Type} {c : α → α → Int} (h : ∀ x, c x x = 0) : ∀ (x y : List α), lexC c x (x ++ y) ≤ 0
  | [], [] => by simp [lexC]
  | [], _ :: _ => by simp [lexC]
  | a :: as, y => by
    rw [List.cons_append]
    unfold lexC
    rw [if_pos (h a)]
    exact lex_pre h as y
theorem bytes_pre (x y : List UInt8) : Lib.compareBytes x (x ++ y) ≤ 0 := by
  rw [bytes_lex]; exact lex_pre (fun x => cmp8_zero.2 rfl) x y
end Go.Proofs.YtflpehpjemlphaaDoor
