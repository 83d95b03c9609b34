/- Plain facts of the natural order of strings. -/
import Derived.Test.YtflpehpjemlphaaDoorCmpP
set_option linter.unusedSimpArgs false
set_option linter.unusedVariables false
namespace Go.Proofs.YtflpehpjemlphaaDoor

def dig (c : UInt8) : Bool := decide (48 ≤ c.toNat ∧ c.toNat ≤ 57)
/-- the number at the beginning, without leading zeros -/
def numOf (l : List UInt8) : List UInt8 := (l.takeWhile dig).dropWhile (· == 48)
/-- the first piece's kind: -1 at the end, 48 of a number, else the byte -/
def kindOf : List UInt8 → Int
  | [] => -1
  | c :: _ => if dig c = true then 48 else (c.toNat : Int)
/-- what is left behind the first piece -/
def restOf : List UInt8 → List UInt8
  | [] => []
  | c :: t => if dig c = true then (c :: t).dropWhile dig else t
abbrev Tok := Int × List UInt8
def tokOf (l : List UInt8) : Tok := (kindOf l, numOf l)
theorem numOf_none {c : UInt8} {t : List UInt8} (h : dig c = false) : numOf (c :: t) = [] := by
  simp [numOf, List.takeWhile_cons, h]
theorem rest_lt {l : List UInt8} (h : l ≠ []) : (restOf l).length < l.length := by
  cases l with
  | nil => exact absurd rfl h
  | cons c t =>
    show (if dig c = true then (c :: t).dropWhile dig else t).length < (c :: t).length
    by_cases hc : dig c = true
    · rw [if_pos hc, List.dropWhile_cons_of_pos hc]
      have := (List.dropWhile_sublist dig (l := t)).length_le
      simp only [List.length_cons]; omega
    · rw [if_neg hc]; simp
/-- order of pieces -/
def tokC : Tok → Tok → Int := thenC (onC Prod.fst Lib.compareInt) (thenC (onC (fun t : Tok => (t.2.length : Int)) Lib.compareInt) (onC Prod.snd Lib.compareBytes))
theorem tok_lt {a b : Tok} (h : a.1 < b.1) : tokC a b = -1 := by
  show thenC _ _ _ _ = -1
  have e : onC Prod.fst Lib.compareInt a b = -1 := by unfold onC Lib.compareInt; rw [if_pos h]
  unfold thenC
  rw [e, if_neg (by decide)]
theorem tok_gt {a b : Tok} (h : b.1 < a.1) : tokC a b = 1 := by
  show thenC _ _ _ _ = 1
  have e : onC Prod.fst Lib.compareInt a b = 1 := by unfold onC Lib.compareInt; rw [if_neg (by omega), if_pos h]
  unfold thenC
  rw [e, if_neg (by decide)]
theorem kind_ge {a : List UInt8} (h : a ≠ []) : 0 ≤ kindOf a := by
  cases a with
  | nil => exact absurd rfl h
  | cons c t => simp only [kindOf]; split <;> omega
theorem tot_tok : Tot tokC := (tot_int.on _).then ((tot_int.on _).then (tot_bytes.on _))
/-- the first pieces that differ -/
def natF : Nat → List UInt8 → List UInt8 → Int
  | 0, _, _ => 0
  | f + 1, a, b => if tokC (tokOf a) (tokOf b) = 0 then (if kindOf a = -1 then 0 else natF f (restOf a) (restOf b)) else tokC (tokOf a) (tokOf b)
def natS (a b : List UInt8) : Int := if natF (a.length + 1) a b = 0 then Lib.compareBytes a b else natF (a.length + 1) a b
/-- all pieces -/
def toksF : Nat → List UInt8 → List Tok
  | 0, _ => []
  | f + 1, l => if l = [] then [] else tokOf l :: toksF f (restOf l)
def toks (l : List UInt8) : List Tok := toksF l.length l
theorem toksF_more : ∀ (d e : Nat) (q : List UInt8), q.length ≤ d → d ≤ e → toksF d q = toksF e q := by
  intro d
  induction d with
  | zero => intro e q h1 _; have : q = [] := List.eq_nil_of_length_eq_zero (by omega); subst this; cases e <;> simp [toksF]
  | succ d ihd =>
    intro e q h1 h2
    cases e with
    | zero => omega
    | succ e =>
      by_cases hq : q = []
      · subst hq; simp [toksF]
      · have := rest_lt hq
        rw [toksF, toksF, if_neg hq, if_neg hq, ihd e _ (by omega) (by omega)]
theorem toksF_eq (f : Nat) (l : List UInt8) (h : l.length ≤ f) : toksF f l = toks l := (toksF_more _ _ _ (Nat.le_refl _) h).symm
theorem toks_nil : toks [] = [] := rfl
theorem toks_cons {l : List UInt8} (h : l ≠ []) : toks l = tokOf l :: toks (restOf l) := by
  have h1 := rest_lt h
  obtain ⟨n, hn⟩ : ∃ n, l.length = n + 1 := ⟨l.length - 1, by have := List.length_pos_iff.2 h; omega⟩
  rw [toks, hn, toksF, if_neg h, toksF_eq _ _ (by omega)]
theorem kind_nil {l : List UInt8} : kindOf l = -1 ↔ l = [] := by
  cases l with
  | nil => simp [kindOf]
  | cons c t =>
    simp only [kindOf, reduceCtorEq, iff_false]
    split <;> omega
theorem natF_lex (f : Nat) : ∀ (a b : List UInt8), a.length < f → natF f a b = lexC tokC (toks a) (toks b) := by
  induction f with
  | zero => intro a b h; omega
  | succ f ih =>
    intro a b h
    unfold natF
    by_cases ha : a = []
    · subst ha
      rw [if_pos (kind_nil.2 rfl)]
      by_cases hb : b = []
      · subst hb; rw [tot_tok.refl]; rfl
      · rw [toks_nil, toks_cons hb]
        have e : tokC (tokOf []) (tokOf b) = -1 := tok_lt (by
          have := kind_ge hb
          show (-1 : Int) < kindOf b
          omega)
        rw [e]; rfl
    · have hk : kindOf a ≠ -1 := fun h => ha (kind_nil.1 h)
      rw [if_neg hk, toks_cons ha]
      by_cases hb : b = []
      · subst hb
        have e : tokC (tokOf a) (tokOf []) = 1 := tok_gt (by
          have := kind_ge ha
          show (-1 : Int) < kindOf a
          omega)
        rw [e, toks_nil]; rfl
      · rw [toks_cons hb, lexC]
        have := rest_lt ha
        rw [ih _ _ (by omega)]
def natC : List UInt8 → List UInt8 → Int := thenC (onC toks (lexC tokC)) Lib.compareBytes
theorem natS_eq (a b : List UInt8) : natS a b = natC a b := by
  unfold natS natC thenC onC
  rw [natF_lex _ _ _ (by omega)]
theorem tot_nat : Tot natC := (tot_tok.lex.on _).then tot_bytes
theorem nat_zero {a b : List UInt8} : natC a b = 0 ↔ a = b := by
  constructor
  · intro h
    unfold natC thenC at h
    split at h
    · exact bytes_zero.1 h
    · contradiction
  · rintro rfl; exact tot_nat.refl a
end Go.Proofs.YtflpehpjemlphaaDoor
