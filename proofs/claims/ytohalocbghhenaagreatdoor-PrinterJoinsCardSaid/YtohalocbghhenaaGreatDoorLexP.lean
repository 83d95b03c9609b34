/- Tokens of a source, as Lean functions of its bytes: what the chapter on tokens says. -/
import Derived.Test.YtohalocbghhenaaGreatDoorBase
set_option linter.unusedSimpArgs false
set_option linter.unusedVariables false
namespace Go.Proofs.YtohalocbghhenaaGreatDoor
open Go.RowKit

/-- a token -/
structure Tk where
  k : Int
  t : ByteArray
  n : Int
  a : Int
  deriving DecidableEq, Inhabited
def Tk.val (x : Tk) : Value := .agg #[.int .i64 x.k, .string x.t, .int .i64 x.n, .int .i64 x.a]
def noTk : Tk := ⟨0, bs [], 0, 0⟩
/-- the kind of a byte -/
def kN (n : Nat) : Nat :=
  if n = 9 ∨ n = 10 ∨ n = 13 ∨ n = 32 then 1
  else if n = 35 then 2
  else if n = 34 then 3
  else if (65 ≤ n ∧ n ≤ 90) ∨ (97 ≤ n ∧ n ≤ 122) then 4
  else if 48 ≤ n ∧ n ≤ 57 then 5
  else if n = 95 then 6
  else if n = 46 then 7
  else if n = 40 ∨ n = 41 ∨ n = 42 ∨ n = 43 ∨ n = 44 ∨ n = 45 ∨ n = 47 ∨ n = 59 ∨ n = 61 ∨ n = 123 ∨ n = 125 then 8
  else 0
def kB (c : UInt8) : Nat := kN c.toNat
theorem kN_lt (n : Nat) : kN n < 9 := by unfold kN; (repeat' split) <;> omega
theorem kB_lt (c : UInt8) : kB c < 9 := kN_lt _
def runB (c : UInt8) : Bool := decide (4 ≤ kB c) && decide (kB c ≤ 7)
def letB (c : UInt8) : Bool := kB c == 4
def digB (c : UInt8) : Bool := kB c == 5
def wrdB (c : UInt8) : Bool := decide (4 ≤ kB c) && decide (kB c ≤ 6)
def titB (c : UInt8) : Bool := decide (32 ≤ c.toNat) && decide (c.toNat ≤ 126) && c != 34
def wordB (l : List UInt8) : Bool := l.any letB && l.all wrdB
def digsB (l : List UInt8) : Bool := !l.isEmpty && l.all digB
def numN (l : List UInt8) : Nat := l.foldl (fun n c => n * 10 + (c.toNat - 48)) 0
def whoL (r : List UInt8) : List UInt8 := r.takeWhile (· != 46)
def fraL (r : List UInt8) : List UInt8 := (r.dropWhile (· != 46)).drop 1
def pntB (r : List UInt8) : Bool := r.contains 46
def numOk (r : List UInt8) : Bool := (digsB (whoL r) && !(decide (1 < (whoL r).length) && (whoL r).head? == some 48)) && (!pntB r || (digsB (fraL r) && decide ((fraL r).length ≤ 3)))
def numV (r : List UInt8) : Nat := numN (whoL r ++ fraL r ++ List.replicate (3 - (fraL r).length) 48)
def numS (r : List UInt8) : Int × Int := if numOk r then (if 1000000000 < numV r then (0, 5) else ((numV r : Int), 0)) else (0, 2)
def titE (l : List UInt8) : Int :=
  if l.head? = none ∨ l.head? = some 32 ∨ l.getLast? = some 32 then 2
  else if l.all titB then (if 40 < l.length then 6 else 0) else 2
def tokE (e : Int) : Tk × Nat × Int := (noTk, 0, e)
def runR (r : List UInt8) : Tk × Nat × Int :=
  if wordB r then (if 32 < r.length then tokE 6 else (⟨1, bs r, 0, 0⟩, r.length, 0))
  else if (numS r).2 = 0 then (⟨2, bs [], (numS r).1, 0⟩, r.length, 0) else tokE (numS r).2
def quoL (t : List UInt8) : List UInt8 := t.takeWhile (· != 34)
def strR (t : List UInt8) : Tk × Nat × Int :=
  if (quoL t).length = t.length then tokE 2 else if titE (quoL t) = 0 then (⟨3, bs (quoL t), 0, 0⟩, (quoL t).length + 2, 0) else tokE (titE (quoL t))
/-- the token with which a text begins, its length, the error -/
def readL : List UInt8 → Tk × Nat × Int
  | [] => (⟨5, bs [], 0, 0⟩, 0, 0)
  | c :: t => if runB c then runR ((c :: t).takeWhile runB) else if kB c = 3 then strR t else if kB c = 8 then (⟨4, bs [c], 0, 0⟩, 1, 0) else tokE 2
theorem readL_cons (c : UInt8) (t : List UInt8) : readL (c :: t) = if runB c then runR ((c :: t).takeWhile runB) else if kB c = 3 then strR t else if kB c = 8 then (⟨4, bs [c], 0, 0⟩, 1, 0) else tokE 2 := rfl
/-- how many bytes blanks and comments take -/
def skN : Bool → List UInt8 → Nat
  | _, [] => 0
  | true, c :: t => skN (c != 10) t + 1
  | false, c :: t => if kB c = 2 then skN true t + 1 else if kB c = 1 then skN false t + 1 else 0
/-- the first token of what stands at an offset: the token, the offset behind it, the fault's code, the fault's offset -/
def firstL (l : List UInt8) (p : Nat) : Tk × Nat × Int × Int :=
  if (readL (l.drop (skN false l))).2.2 = 0 then ({ (readL (l.drop (skN false l))).1 with a := ((p + skN false l : Nat) : Int) }, p + skN false l + (readL (l.drop (skN false l))).2.1, 0, 0)
  else (noTk, 0, (readL (l.drop (skN false l))).2.2, ((p + skN false l : Nat) : Int))
/-- the tokens of what stands at an offset, as far as there is no fault, and the fault -/
def lexR : Nat → List UInt8 → Nat → List Tk × Int × Int
  | 0, _, _ => ([], 0, 0)
  | f + 1, l, p =>
    if (firstL l p).2.2.1 = 0 then
      (if (firstL l p).1.k = 5 then ([(firstL l p).1], 0, 0)
      else ((firstL l p).1 :: (lexR f (l.drop ((firstL l p).2.1 - p)) (firstL l p).2.1).1, (lexR f (l.drop ((firstL l p).2.1 - p)) (firstL l p).2.1).2))
    else ([], (firstL l p).2.2)
/-- the tokens of a source, and its fault -/
def lexS (s : ByteArray) : List Tk × Int × Int :=
  if 65536 < s.size then ([], 6, 65536)
  else if (lexR (s.size + 1) s.data.toList 0).2.1 = 0 then lexR (s.size + 1) s.data.toList 0 else ([], (lexR (s.size + 1) s.data.toList 0).2)

theorem skN_le : ∀ (b : Bool) (l : List UInt8), skN b l ≤ l.length
  | _, [] => by simp [skN]
  | true, c :: t => by
    have := skN_le (c != 10) t
    simp only [skN, List.length_cons]; omega
  | false, c :: t => by
    have h1 := skN_le true t
    have h2 := skN_le false t
    simp only [skN, List.length_cons]
    split
    · omega
    · split <;> omega
theorem runR_len (r : List UInt8) (h : (runR r).2.2 = 0) : (runR r).2.1 = r.length ∧ (runR r).1.k ≠ 5 := by
  unfold runR at h ⊢
  split at h
  · rename_i h1
    rw [if_pos h1]
    split at h
    · exact absurd h (by simp [tokE])
    · rename_i h2
      rw [if_neg h2]
      exact ⟨rfl, by simp⟩
  · rename_i h1
    rw [if_neg h1]
    split at h
    · rename_i h2
      rw [if_pos h2]
      exact ⟨rfl, by simp⟩
    · rename_i h2
      exact absurd h h2
theorem strR_len (t : List UInt8) (h : (strR t).2.2 = 0) : (strR t).2.1 = (quoL t).length + 2 ∧ (quoL t).length < t.length ∧ (strR t).1.k = 3 := by
  have hle : (quoL t).length ≤ t.length := (List.takeWhile_sublist _).length_le
  unfold strR at h ⊢
  split at h
  · exact absurd h (by simp [tokE])
  · rename_i h1
    rw [if_neg h1]
    split at h
    · rename_i h2
      rw [if_pos h2]
      exact ⟨rfl, by omega, rfl⟩
    · rename_i h2
      exact absurd h h2
/-- a token that is read takes at least a byte, and no more than there are, but for the end -/
theorem readL_len (l : List UInt8) (h : (readL l).2.2 = 0) : (readL l).2.1 ≤ l.length ∧ ((readL l).1.k ≠ 5 → 1 ≤ (readL l).2.1) ∧ ((readL l).1.k = 5 → l = []) := by
  cases l with
  | nil => exact ⟨Nat.le_refl _, fun h => absurd rfl h, fun _ => rfl⟩
  | cons c t =>
    rw [readL_cons] at h ⊢
    split at h
    · rename_i h1
      rw [if_pos h1]
      obtain ⟨e1, e2⟩ := runR_len _ h
      rw [e1]
      refine ⟨(List.takeWhile_sublist _).length_le, fun _ => ?_, fun h => absurd h e2⟩
      rw [List.takeWhile_cons_of_pos h1]
      simp
    · rename_i h1
      rw [if_neg h1]
      split at h
      · rename_i h2
        rw [if_pos h2]
        obtain ⟨e1, e2, e3⟩ := strR_len _ h
        rw [e1, e3]
        simp only [List.length_cons]
        exact ⟨by omega, fun _ => by omega, fun h => absurd h (by decide)⟩
      · rename_i h2
        rw [if_neg h2]
        split at h
        · rename_i h3
          rw [if_pos h3]
          simp
        · exact absurd h (by simp [tokE])
/-- what the first token does -/
theorem firstL_len (l : List UInt8) (p : Nat) (h : (firstL l p).2.2.1 = 0) : p ≤ (firstL l p).2.1 ∧ (firstL l p).2.1 ≤ p + l.length ∧ ((firstL l p).1.k ≠ 5 → p < (firstL l p).2.1) ∧ ((firstL l p).1.k = 5 → (firstL l p).2.1 = p + l.length ∧ (firstL l p).1.a = ((p + l.length : Nat) : Int)) ∧ (firstL l p).2.2 = (0, 0) := by
  have hs := skN_le false l
  unfold firstL at h ⊢
  split at h
  · rename_i h1
    rw [if_pos h1]
    obtain ⟨e1, e2, e3⟩ := readL_len _ h1
    rw [List.length_drop] at e1
    refine ⟨by simp only; omega, by simp only; omega, fun hk => ?_, fun hk => ?_, rfl⟩
    · have := e2 hk
      simp only; omega
    · have hn := e3 hk
      have hl : (l.drop (skN false l)).length = 0 := by rw [hn]; rfl
      rw [List.length_drop] at hl
      have e4 : (readL (l.drop (skN false l))).2.1 = 0 := by omega
      simp only [e4]
      exact ⟨by omega, by congr 1; omega⟩
  · rename_i h1
    exact absurd h h1
theorem firstL_no (l : List UInt8) (p : Nat) (h : (firstL l p).2.2.1 ≠ 0) : (firstL l p).1 = noTk ∧ (firstL l p).2.1 = 0 ∧ ∃ k, k ≤ l.length ∧ (firstL l p).2.2.2 = ((p + k : Nat) : Int) := by
  have hs := skN_le false l
  unfold firstL at h ⊢
  split at h
  · exact absurd rfl h
  · rename_i h1
    rw [if_neg h1]
    exact ⟨rfl, rfl, _, hs, rfl⟩
/-- more fuel than bytes gives always the same -/
theorem lexR_fuel : ∀ (f g : Nat) (l : List UInt8) (p : Nat), l.length < f → l.length < g → lexR f l p = lexR g l p
  | 0, _, _, _, h, _ => by omega
  | _, 0, _, _, _, h => by omega
  | f + 1, g + 1, l, p, hf, hg => by
    unfold lexR
    by_cases h1 : (firstL l p).2.2.1 = 0
    · rw [if_pos h1, if_pos h1]
      by_cases h2 : (firstL l p).1.k = 5
      · rw [if_pos h2, if_pos h2]
      · rw [if_neg h2, if_neg h2]
        obtain ⟨e1, e2, e3, _⟩ := firstL_len l p h1
        have := e3 h2
        have hd : (l.drop ((firstL l p).2.1 - p)).length < l.length := by rw [List.length_drop]; omega
        rw [lexR_fuel f g _ _ (by omega) (by omega)]
    · rw [if_neg h1, if_neg h1]
end Go.Proofs.YtohalocbghhenaaGreatDoor
