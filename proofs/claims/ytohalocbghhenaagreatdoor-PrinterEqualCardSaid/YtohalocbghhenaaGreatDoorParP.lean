/- Entries of a source, as Lean functions of its tokens. A list of entries is a tree: an entry, its kids, the entries behind it. -/
import Derived.Test.YtohalocbghhenaaGreatDoorLexJ
set_option linter.unusedSimpArgs false
set_option linter.unusedVariables false
namespace Go.Proofs.YtohalocbghhenaaGreatDoor
open Go.RowKit

inductive Cls where
  | nil
  | cons (w : ByteArray) (xs : List Tk) (b : Bool) (kids : Cls) (at' : Int) (rest : Cls)
  deriving DecidableEq, Inhabited
namespace Cls
def len : Cls → Nat
  | nil => 0
  | cons _ _ _ _ _ r => r.len + 1
def app : Cls → Cls → Cls
  | nil, m => m
  | cons w xs b k a r, m => cons w xs b k a (r.app m)
def count : Cls → Nat
  | nil => 0
  | cons _ _ _ k _ r => k.count + r.count + 1
def depth : Cls → Nat
  | nil => 0
  | cons _ _ b k _ r => max (if b then k.depth + 1 else 0) r.depth
def drop : Cls → Nat → Cls
  | c, 0 => c
  | nil, _ + 1 => nil
  | cons _ _ _ _ _ r, i + 1 => r.drop i
def take : Cls → Nat → Cls
  | _, 0 => nil
  | nil, _ + 1 => nil
  | cons w xs b k a r, i + 1 => cons w xs b k a (r.take i)
/-- without the offsets -/
def zero : Cls → Cls
  | nil => nil
  | cons w xs b k _ r => cons w (xs.map zeroA) b k.zero 0 r.zero
end Cls
def sgn (t : Tk) (c : UInt8) : Bool := t.k == 4 && decide (t.t = bs [c])
def atmB (t : Tk) : Bool := t.k != 5 && !sgn t 59 && !sgn t 123 && !sgn t 125
def formed : Cls → Bool
  | .nil => true
  | .cons w xs b k _ r => validT ⟨1, w, 0, 0⟩ && xs.all (fun t => validT t && atmB t) && (b || k.len == 0) && formed k && formed r
def checkS (l : Cls) : Int := if formed l then (if 8 < l.depth then 6 else 0) else 2
def toksC : Cls → List Tk
  | .nil => []
  | .cons w xs b k _ r => ⟨1, w, 0, 0⟩ :: (xs ++ ((if b then ⟨4, bs [123], 0, 0⟩ :: (toksC k ++ [⟨4, bs [125], 0, 0⟩]) else [⟨4, bs [59], 0, 0⟩]) ++ toksC r))
def endsB (o : Nat) (t : Tk) : Bool := if o = 0 then t.k == 5 else sgn t 125
/-- the entries with which tokens begin within so many open blocks, up to what ends them; what stands behind that; the fault -/
def parL : Nat → Nat → List Tk → Cls × List Tk × Int × Int
  | 0, _, _ => (.nil, [], 0, 0)
  | _ + 1, _, [] => (.nil, [], 2, 0)
  | f + 1, o, t :: l =>
    if endsB o t then (.nil, l, 0, 0)
    else if t.k ≠ 1 then (.nil, [], 2, t.a)
    else match l.dropWhile atmB with
      | [] => (.nil, [], 2, 0)
      | d :: m =>
        if sgn d 59 then
          (if (parL f o m).2.2.1 = 0 then (.cons t.t (l.takeWhile atmB) false .nil t.a (parL f o m).1, (parL f o m).2.1, 0, 0) else (.nil, [], (parL f o m).2.2))
        else if sgn d 123 = false then (.nil, [], 2, d.a)
        else if o = 8 then (.nil, [], 6, d.a)
        else if (parL f (o + 1) m).2.2.1 = 0 then
          (if (parL f o (parL f (o + 1) m).2.1).2.2.1 = 0 then (.cons t.t (l.takeWhile atmB) true (parL f (o + 1) m).1 t.a (parL f o (parL f (o + 1) m).2.1).1, (parL f o (parL f (o + 1) m).2.1).2.1, 0, 0) else (.nil, [], (parL f o (parL f (o + 1) m).2.1).2.2))
        else (.nil, [], (parL f (o + 1) m).2.2)
def parS (s : ByteArray) : Cls × Int × Int := if (lexS s).2.1 = 0 then ((parL ((lexS s).1.length + 1) 0 (lexS s).1).1, (parL ((lexS s).1.length + 1) 0 (lexS s).1).2.2) else (.nil, (lexS s).2)

theorem dw_cases (l : List Tk) : (∃ d m, l.dropWhile atmB = d :: m ∧ l = l.takeWhile atmB ++ d :: m ∧ atmB d = false) ∨ l.dropWhile atmB = [] := by
  cases h : l.dropWhile atmB with
  | nil => exact Or.inr rfl
  | cons d m =>
    refine Or.inl ⟨d, m, rfl, ?_, ?_⟩
    · rw [← h, List.takeWhile_append_dropWhile]
    · have := List.head_dropWhile_not (l := l) atmB (by rw [h]; simp)
      simpa [h] using this
theorem dw_len {l m : List Tk} {d : Tk} (h : l.dropWhile atmB = d :: m) : m.length < l.length := by
  have := (List.dropWhile_sublist atmB (l := l)).length_le
  rw [h] at this
  simp at this
  omega
theorem parL_len : ∀ (f o : Nat) (l : List Tk), l ≠ [] → (parL f o l).2.1.length < l.length
  | 0, _, t :: l, _ => by simp [parL]
  | f + 1, o, t :: l, _ => by
    unfold parL
    split
    · simp
    · split
      · simp
      · rcases dw_cases l with ⟨d, m, hd, _, _⟩ | hd
        · have hm := dw_len hd
          rw [hd]
          simp only
          have lo : ∀ (o : Nat) (m' : List Tk), m'.length ≤ m.length → (parL f o m').2.1.length < (t :: l).length := by
            intro o m' h'
            by_cases he : m' = []
            · subst he
              cases f <;> simp [parL]
            · have := parL_len f o m' he
              simp; omega
          split
          · split
            · exact lo _ _ (Nat.le_refl _)
            · simp
          · split
            · simp
            · split
              · simp
              · split
                · split
                  · refine lo _ _ ?_
                    by_cases he : m = []
                    · subst he
                      cases f <;> simp [parL]
                    · exact Nat.le_of_lt (parL_len f (o + 1) m he)
                  · simp
                · simp
        · rw [hd]; simp
theorem parL_le (f o : Nat) (l : List Tk) : (parL f o l).2.1.length ≤ l.length := by
  by_cases he : l = []
  · subst he
    cases f <;> simp [parL]
  · exact Nat.le_of_lt (parL_len f o l he)
/-- room enough is room enough -/
theorem parL_fuel : ∀ (f g o : Nat) (l : List Tk), l.length < f → l.length < g → parL f o l = parL g o l
  | 0, _, _, _, h, _ => by omega
  | _, 0, _, _, _, h => by omega
  | f + 1, g + 1, o, [], _, _ => by simp [parL]
  | f + 1, g + 1, o, t :: l, h1, h2 => by
    simp only [List.length_cons] at h1 h2
    unfold parL
    rcases dw_cases l with ⟨d, m, hd, _, _⟩ | hd
    · have hm := dw_len hd
      rw [hd]
      simp only
      have e1 := parL_fuel f g o m (by omega) (by omega)
      have e2 := parL_fuel f g (o + 1) m (by omega) (by omega)
      have hl := parL_le g (o + 1) m
      have e3 := parL_fuel f g o (parL g (o + 1) m).2.1 (by omega) (by omega)
      rw [e1, e2, e3]
    · rw [hd]
end Go.Proofs.YtohalocbghhenaaGreatDoor
