/- Tokens of a source, as Lean functions of its bytes: what the chapter on tokens says. -/
import Derived.Test.YtohalocbghhenaaGreatDoorBase
import Derived.Lib.ItoaNum
import Derived.Lib.TrimByte
set_option linter.unusedSimpArgs false
set_option linter.unusedVariables false
namespace Go.Proofs.YtohalocbghhenaaGreatDoor
open Go.RowKit

/-- a token -/
structure Tk where
  k : Int
  t : ByteArray
  n : Int
  a : Int
  deriving DecidableEq, Inhabited
def Tk.val (x : Tk) : Value := .agg #[.int .i64 x.k, .string x.t, .int .i64 x.n, .int .i64 x.a]
def noTk : Tk := ⟨0, bs [], 0, 0⟩
/-- the kind of a byte -/
def kN (n : Nat) : Nat :=
  if n = 9 ∨ n = 10 ∨ n = 13 ∨ n = 32 then 1
  else if n = 35 then 2
  else if n = 34 then 3
  else if (65 ≤ n ∧ n ≤ 90) ∨ (97 ≤ n ∧ n ≤ 122) then 4
  else if 48 ≤ n ∧ n ≤ 57 then 5
  else if n = 95 then 6
  else if n = 46 then 7
  else if n = 40 ∨ n = 41 ∨ n = 42 ∨ n = 43 ∨ n = 44 ∨ n = 45 ∨ n = 47 ∨ n = 59 ∨ n = 61 ∨ n = 123 ∨ n = 125 then 8
  else 0
def kB (c : UInt8) : Nat := kN c.toNat
theorem kN_lt (n : Nat) : kN n < 9 := by unfold kN; (repeat' split) <;> omega
theorem kB_lt (c : UInt8) : kB c < 9 := kN_lt _
def runB (c : UInt8) : Bool := decide (4 ≤ kB c) && decide (kB c ≤ 7)
def letB (c : UInt8) : Bool := kB c == 4
def digB (c : UInt8) : Bool := kB c == 5
def wrdB (c : UInt8) : Bool := decide (4 ≤ kB c) && decide (kB c ≤ 6)
def titB (c : UInt8) : Bool := decide (32 ≤ c.toNat) && decide (c.toNat ≤ 126) && c != 34
def wordB (l : List UInt8) : Bool := l.any letB && l.all wrdB
def digsB (l : List UInt8) : Bool := !l.isEmpty && l.all digB
def numN (l : List UInt8) : Nat := l.foldl (fun n c => n * 10 + (c.toNat - 48)) 0
def whoL (r : List UInt8) : List UInt8 := r.takeWhile (· != 46)
def fraL (r : List UInt8) : List UInt8 := (r.dropWhile (· != 46)).drop 1
def pntB (r : List UInt8) : Bool := r.contains 46
def numOk (r : List UInt8) : Bool := (digsB (whoL r) && !(decide (1 < (whoL r).length) && (whoL r).head? == some 48)) && (!pntB r || (digsB (fraL r) && decide ((fraL r).length ≤ 3)))
def numV (r : List UInt8) : Nat := numN (whoL r ++ fraL r ++ List.replicate (3 - (fraL r).length) 48)
def numS (r : List UInt8) : Int × Int := if numOk r then (if 1000000000 < numV r then (0, 5) else ((numV r : Int), 0)) else (0, 2)
def titE (l : List UInt8) : Int :=
  if l.head? = none ∨ l.head? = some 32 ∨ l.getLast? = some 32 then 2
  else if l.all titB then (if 40 < l.length then 6 else 0) else 2
def tokE (e : Int) : Tk × Nat × Int := (noTk, 0, e)
def runR (r : List UInt8) : Tk × Nat × Int :=
  if wordB r then (if 32 < r.length then tokE 6 else (⟨1, bs r, 0, 0⟩, r.length, 0))
  else if (numS r).2 = 0 then (⟨2, bs [], (numS r).1, 0⟩, r.length, 0) else tokE (numS r).2
def quoL (t : List UInt8) : List UInt8 := t.takeWhile (· != 34)
def strR (t : List UInt8) : Tk × Nat × Int :=
  if (quoL t).length = t.length then tokE 2 else if titE (quoL t) = 0 then (⟨3, bs (quoL t), 0, 0⟩, (quoL t).length + 2, 0) else tokE (titE (quoL t))
/-- the token with which a text begins, its length, the error -/
def readL : List UInt8 → Tk × Nat × Int
  | [] => (⟨5, bs [], 0, 0⟩, 0, 0)
  | c :: t => if runB c then runR ((c :: t).takeWhile runB) else if kB c = 3 then strR t else if kB c = 8 then (⟨4, bs [c], 0, 0⟩, 1, 0) else tokE 2
theorem readL_cons (c : UInt8) (t : List UInt8) : readL (c :: t) = if runB c then runR ((c :: t).takeWhile runB) else if kB c = 3 then strR t else if kB c = 8 then (⟨4, bs [c], 0, 0⟩, 1, 0) else tokE 2 := rfl
/-- how many bytes blanks and comments take -/
def skN : Bool → List UInt8 → Nat
  | _, [] => 0
  | true, c :: t => skN (c != 10) t + 1
  | false, c :: t => if kB c = 2 then skN true t + 1 else if kB c = 1 then skN false t + 1 else 0
/-- the first token of what stands at an offset: the token, the offset behind it, the fault's code, the fault's offset -/
def firstL (l : List UInt8) (p : Nat) : Tk × Nat × Int × Int :=
  if (readL (l.drop (skN false l))).2.2 = 0 then ({ (readL (l.drop (skN false l))).1 with a := ((p + skN false l : Nat) : Int) }, p + skN false l + (readL (l.drop (skN false l))).2.1, 0, 0)
  else (noTk, 0, (readL (l.drop (skN false l))).2.2, ((p + skN false l : Nat) : Int))
/-- the tokens of what stands at an offset, as far as there is no fault, and the fault -/
def lexR : Nat → List UInt8 → Nat → List Tk × Int × Int
  | 0, _, _ => ([], 0, 0)
  | f + 1, l, p =>
    if (firstL l p).2.2.1 = 0 then
      (if (firstL l p).1.k = 5 then ([(firstL l p).1], 0, 0)
      else ((firstL l p).1 :: (lexR f (l.drop ((firstL l p).2.1 - p)) (firstL l p).2.1).1, (lexR f (l.drop ((firstL l p).2.1 - p)) (firstL l p).2.1).2))
    else ([], (firstL l p).2.2)
/-- the tokens of a source, and its fault -/
def lexS (s : ByteArray) : List Tk × Int × Int :=
  if 65536 < s.size then ([], 6, 65536)
  else if (lexR (s.size + 1) s.data.toList 0).2.1 = 0 then lexR (s.size + 1) s.data.toList 0 else ([], (lexR (s.size + 1) s.data.toList 0).2)

theorem skN_le : ∀ (b : Bool) (l : List UInt8), skN b l ≤ l.length
  | _, [] => by simp [skN]
  | true, c :: t => by
    have := skN_le (c != 10) t
    simp only [skN, List.length_cons]; omega
  | false, c :: t => by
    have h1 := skN_le true t
    have h2 := skN_le false t
    simp only [skN, List.length_cons]
    split
    · omega
    · split <;> omega
theorem runR_len (r : List UInt8) (h : (runR r).2.2 = 0) : (runR r).2.1 = r.length ∧ (runR r).1.k ≠ 5 := by
  unfold runR at h ⊢
  split at h
  · rename_i h1
    rw [if_pos h1]
    split at h
    · exact absurd h (by simp [tokE])
    · rename_i h2
      rw [if_neg h2]
      exact ⟨rfl, by simp⟩
  · rename_i h1
    rw [if_neg h1]
    split at h
    · rename_i h2
      rw [if_pos h2]
      exact ⟨rfl, by simp⟩
    · rename_i h2
      exact absurd h h2
theorem strR_len (t : List UInt8) (h : (strR t).2.2 = 0) : (strR t).2.1 = (quoL t).length + 2 ∧ (quoL t).length < t.length ∧ (strR t).1.k = 3 := by
  have hle : (quoL t).length ≤ t.length := (List.takeWhile_sublist _).length_le
  unfold strR at h ⊢
  split at h
  · exact absurd h (by simp [tokE])
  · rename_i h1
    rw [if_neg h1]
    split at h
    · rename_i h2
      rw [if_pos h2]
      exact ⟨rfl, by omega, rfl⟩
    · rename_i h2
      exact absurd h h2
/-- a token that is read takes at least a byte, and no more than there are, but for the end -/
theorem readL_len (l : List UInt8) (h : (readL l).2.2 = 0) : (readL l).2.1 ≤ l.length ∧ ((readL l).1.k ≠ 5 → 1 ≤ (readL l).2.1) ∧ ((readL l).1.k = 5 → l = []) := by
  cases l with
  | nil => exact ⟨Nat.le_refl _, fun h => absurd rfl h, fun _ => rfl⟩
  | cons c t =>
    rw [readL_cons] at h ⊢
    split at h
    · rename_i h1
      rw [if_pos h1]
      obtain ⟨e1, e2⟩ := runR_len _ h
      rw [e1]
      refine ⟨(List.takeWhile_sublist _).length_le, fun _ => ?_, fun h => absurd h e2⟩
      rw [List.takeWhile_cons_of_pos h1]
      simp
    · rename_i h1
      rw [if_neg h1]
      split at h
      · rename_i h2
        rw [if_pos h2]
        obtain ⟨e1, e2, e3⟩ := strR_len _ h
        rw [e1, e3]
        simp only [List.length_cons]
        exact ⟨by omega, fun _ => by omega, fun h => absurd h (by decide)⟩
      · rename_i h2
        rw [if_neg h2]
        split at h
        · rename_i h3
          rw [if_pos h3]
          simp
        · exact absurd h (by simp [tokE])
/-- what the first token does -/
theorem firstL_len (l : List UInt8) (p : Nat) (h : (firstL l p).2.2.1 = 0) : p ≤ (firstL l p).2.1 ∧ (firstL l p).2.1 ≤ p + l.length ∧ ((firstL l p).1.k ≠ 5 → p < (firstL l p).2.1) ∧ ((firstL l p).1.k = 5 → (firstL l p).2.1 = p + l.length ∧ (firstL l p).1.a = ((p + l.length : Nat) : Int)) ∧ (firstL l p).2.2 = (0, 0) := by
  have hs := skN_le false l
  unfold firstL at h ⊢
  split at h
  · rename_i h1
    rw [if_pos h1]
    obtain ⟨e1, e2, e3⟩ := readL_len _ h1
    rw [List.length_drop] at e1
    refine ⟨by simp only; omega, by simp only; omega, fun hk => ?_, fun hk => ?_, rfl⟩
    · have := e2 hk
      simp only; omega
    · have hn := e3 hk
      have hl : (l.drop (skN false l)).length = 0 := by rw [hn]; rfl
      rw [List.length_drop] at hl
      have e4 : (readL (l.drop (skN false l))).2.1 = 0 := by omega
      simp only [e4]
      exact ⟨by omega, by congr 1; omega⟩
  · rename_i h1
    exact absurd h h1
theorem firstL_no (l : List UInt8) (p : Nat) (h : (firstL l p).2.2.1 ≠ 0) : (firstL l p).1 = noTk ∧ (firstL l p).2.1 = 0 ∧ ∃ k, k ≤ l.length ∧ (firstL l p).2.2.2 = ((p + k : Nat) : Int) := by
  have hs := skN_le false l
  unfold firstL at h ⊢
  split at h
  · exact absurd rfl h
  · rename_i h1
    rw [if_neg h1]
    exact ⟨rfl, rfl, _, hs, rfl⟩
/-- more fuel than bytes gives always the same -/
theorem lexR_fuel : ∀ (f g : Nat) (l : List UInt8) (p : Nat), l.length < f → l.length < g → lexR f l p = lexR g l p
  | 0, _, _, _, h, _ => by omega
  | _, 0, _, _, _, h => by omega
  | f + 1, g + 1, l, p, hf, hg => by
    unfold lexR
    by_cases h1 : (firstL l p).2.2.1 = 0
    · rw [if_pos h1, if_pos h1]
      by_cases h2 : (firstL l p).1.k = 5
      · rw [if_pos h2, if_pos h2]
      · rw [if_neg h2, if_neg h2]
        obtain ⟨e1, e2, e3, _⟩ := firstL_len l p h1
        have := e3 h2
        have hd : (l.drop ((firstL l p).2.1 - p)).length < l.length := by rw [List.length_drop]; omega
        rw [lexR_fuel f g _ _ (by omega) (by omega)]
    · rw [if_neg h1, if_neg h1]
end Go.Proofs.YtohalocbghhenaaGreatDoor
/- Possible tokens and their spellings, as Lean functions; a spelling is read as its token. -/
namespace Go.Proofs.YtohalocbghhenaaGreatDoor
open Go.RowKit

def fraN (m : Nat) : List UInt8 := Lib.trimRightB ((Lib.decDigits (1000 + m)).drop 1) 48
def decN (n : Nat) : List UInt8 := Lib.decDigits (n / 1000) ++ (if fraN (n % 1000) = [] then [] else 46 :: fraN (n % 1000))
def spellT (t : Tk) : List UInt8 := if t.k = 2 then decN t.n.toNat else if t.k = 3 then 34 :: (t.t.data.toList ++ [34]) else t.t.data.toList
def sigB (l : List UInt8) : Bool := l.length == 1 && l.head?.map kB == some 8
def vText (k : Int) (l : List UInt8) : Bool :=
  if k = 1 then wordB l && decide (l.length ≤ 32) else if k = 3 then titE l == 0 else if k = 4 then sigB l else if k = 5 then l.isEmpty else false
def validT (t : Tk) : Bool := if t.k = 2 then (t.t.data.toList.isEmpty && decide (0 ≤ t.n)) && decide (t.n ≤ 1000000000) else (t.n == 0) && vText t.k t.t.data.toList

theorem numS_two (r : List UInt8) (h : (numS r).2 = 0) : 0 ≤ (numS r).1 ∧ (numS r).1 ≤ 1000000000 := by
  unfold numS at h ⊢
  split at h
  · rename_i h1
    rw [if_pos h1]
    split at h
    · exact absurd h (by decide)
    · rename_i h2
      rw [if_neg h2]
      simp only
      omega
  · exact absurd h (by decide)
theorem runR_valid (r : List UInt8) (h : (runR r).2.2 = 0) : validT (runR r).1 = true := by
  unfold runR at h ⊢
  split at h
  · rename_i h1
    rw [if_pos h1]
    split at h
    · exact absurd h (by simp [tokE])
    · rename_i h2
      rw [if_neg h2]
      simp only [validT, vText, bs_data, h1]
      simp; omega
  · rename_i h1
    rw [if_neg h1]
    split at h
    · rename_i h2
      rw [if_pos h2]
      obtain ⟨n1, n2⟩ := numS_two r h2
      simp only [validT, bs_data]
      simp [n1, n2]
    · rename_i h2
      exact absurd h h2
theorem readL_valid (l : List UInt8) (h : (readL l).2.2 = 0) : validT (readL l).1 = true := by
  cases l with
  | nil => rfl
  | cons c t =>
    rw [readL_cons] at h ⊢
    split at h
    · rename_i h1
      rw [if_pos h1]
      exact runR_valid _ h
    · rename_i h1
      rw [if_neg h1]
      split at h
      · rename_i h2
        rw [if_pos h2]
        unfold strR at h ⊢
        split at h
        · exact absurd h (by simp [tokE])
        · rename_i h3
          rw [if_neg h3]
          split at h
          · rename_i h4
            rw [if_pos h4]
            simp only [validT, vText, bs_data, h4]
            rfl
          · rename_i h4
            exact absurd h h4
      · rename_i h2
        rw [if_neg h2]
        split at h
        · rename_i h3
          rw [if_pos h3]
          simp [validT, vText, bs_data, sigB, h3]
        · exact absurd h (by simp [tokE])

theorem tw_app {p : UInt8 → Bool} {l r : List UInt8} (h : ∀ c ∈ l, p c = true) (hr : ∀ c, r.head? = some c → p c = false) : (l ++ r).takeWhile p = l := by
  rw [List.takeWhile_append_of_pos h]
  cases r with
  | nil => simp
  | cons c t =>
    rw [List.takeWhile_cons_of_neg (by rw [hr c rfl]; simp)]
    simp
theorem dw_app {p : UInt8 → Bool} {l r : List UInt8} (h : ∀ c ∈ l, p c = true) (hr : ∀ c, r.head? = some c → p c = false) : (l ++ r).dropWhile p = r := by
  rw [List.dropWhile_append_of_pos h]
  cases r with
  | nil => simp
  | cons c t =>
    rw [List.dropWhile_cons_of_neg (by rw [hr c rfl]; simp)]
theorem wrd_run (c : UInt8) (h : wrdB c = true) : runB c = true := by
  unfold wrdB at h; unfold runB; simp at h ⊢; omega
theorem dig_run (c : UInt8) (h : digB c = true) : runB c = true := by
  unfold digB at h; unfold runB; simp at h ⊢; omega
theorem dig_wrd (c : UInt8) (h : digB c = true) : wrdB c = true := by
  unfold digB at h; unfold wrdB; simp at h ⊢; omega
theorem dig_let (c : UInt8) (h : digB c = true) : letB c = false := by
  unfold digB at h; unfold letB; simp at h ⊢; omega
theorem dig_num (c : UInt8) : digB c = (decide (48 ≤ c.toNat) && decide (c.toNat ≤ 57)) :=
  eq_of_beq (all_u8 (P := fun c => digB c == (decide (48 ≤ c.toNat) && decide (c.toNat ≤ 57))) (by decide +kernel) c)
theorem dig_ne (c : UInt8) (h : digB c = true) : (c != 46) = true := by
  have := all_u8 (P := fun c => !digB c || c != 46) (by decide +kernel) c
  rw [h] at this; simpa using this
theorem tit_ne (c : UInt8) (h : titB c = true) : (c != 34) = true := by
  unfold titB at h
  simp at h ⊢
  exact h.2
theorem numN_snoc (l : List UInt8) (c : UInt8) : numN (l ++ [c]) = numN l * 10 + (c.toNat - 48) := by
  unfold numN; rw [List.foldl_append]; rfl
theorem numN_from (l : List UInt8) : ∀ a, l.foldl (fun n c => n * 10 + (c.toNat - 48)) a = a * 10 ^ l.length + numN l := by
  induction l with
  | nil => intro a; simp [numN]
  | cons c t ih =>
    intro a
    unfold numN
    rw [List.foldl_cons, List.foldl_cons, ih, ih, List.length_cons, Nat.pow_succ, Nat.zero_mul, Nat.zero_add, Nat.add_mul, Nat.mul_assoc, Nat.mul_comm 10, Nat.add_assoc]
theorem numN_append (l r : List UInt8) : numN (l ++ r) = numN l * 10 ^ r.length + numN r := by
  unfold numN
  rw [List.foldl_append]
  exact numN_from r _
theorem dd_small {u : Nat} (h : u < 10) : Lib.decDigits u = [UInt8.ofNat (48 + u)] := by rw [Lib.decDigits, dif_pos h]
theorem dd_big {u : Nat} (h : ¬ u < 10) : Lib.decDigits u = Lib.decDigits (u / 10) ++ [UInt8.ofNat (48 + u % 10)] := by rw [Lib.decDigits, dif_neg h]
theorem nat48 (d : Nat) (h : d < 10) : (UInt8.ofNat (48 + d)).toNat = 48 + d := by
  rw [UInt8.toNat_ofNat']; omega
theorem dig48 (d : Nat) (h : d < 10) : digB (UInt8.ofNat (48 + d)) = true := by
  rw [dig_num, nat48 d h]; simp; omega
theorem dd_facts (u : Nat) : (∀ c ∈ Lib.decDigits u, digB c = true) ∧ numN (Lib.decDigits u) = u ∧ Lib.decDigits u ≠ [] ∧ (1 < (Lib.decDigits u).length → 0 < u ∧ (Lib.decDigits u).head? ≠ some 48) ∧ (0 < u → (Lib.decDigits u).head? ≠ some 48) := by
  induction u using Nat.strongRecOn with
  | _ u ih =>
    by_cases h : u < 10
    · rw [dd_small h]
      refine ⟨fun c hc => ?_, ?_, by simp, fun h => absurd h (by simp), fun h0 => ?_⟩
      · rw [List.mem_singleton.1 hc]; exact dig48 u h
      · simp [numN]
        omega
      · intro he
        have : (UInt8.ofNat (48 + u)) = 48 := by simpa using he
        have h2 := nat48 u h
        rw [this] at h2
        have h3 : (48 : UInt8).toNat = 48 := rfl
        omega
    · rw [dd_big h]
      obtain ⟨i1, i2, i3, i4, i5⟩ := ih (u / 10) (by omega)
      have hh : (Lib.decDigits (u / 10) ++ [UInt8.ofNat (48 + u % 10)]).head? = (Lib.decDigits (u / 10)).head? := by
        cases hd : Lib.decDigits (u / 10) with
        | nil => exact absurd hd i3
        | cons c t => rfl
      have h5 := i5 (by omega)
      refine ⟨fun c hc => ?_, ?_, by simp, fun _ => ⟨by omega, by rw [hh]; exact h5⟩, fun _ => by rw [hh]; exact h5⟩
      · rcases List.mem_append.1 hc with h1 | h1
        · exact i1 c h1
        · rw [List.mem_singleton.1 h1]; exact dig48 (u % 10) (by omega)
      · rw [numN_snoc, i2, nat48 (u % 10) (by omega)]
        omega
theorem dd_four (m : Nat) (h : m < 1000) : (Lib.decDigits (1000 + m)).drop 1 = [UInt8.ofNat (48 + m / 100), UInt8.ofNat (48 + m / 10 % 10), UInt8.ofNat (48 + m % 10)] := by
  rw [dd_big (by omega), dd_big (by omega), dd_big (by omega), dd_small (by omega)]
  have e1 : (1000 + m) / 10 / 10 % 10 = m / 100 := by omega
  have e2 : (1000 + m) / 10 % 10 = m / 10 % 10 := by omega
  have e3 : (1000 + m) % 10 = m % 10 := by omega
  rw [e1, e2, e3]
  rfl
/-- what is trimmed are zeros -/
theorem trim_zeros (l : List UInt8) : Lib.trimRightB l 48 ++ List.replicate (l.length - (Lib.trimRightB l 48).length) 48 = l ∧ (Lib.trimRightB l 48).length ≤ l.length := by
  unfold Lib.trimRightB
  suffices h : ∀ r : List UInt8, (r.dropWhile (· == 48)).reverse ++ List.replicate (r.length - (r.dropWhile (· == 48)).length) 48 = r.reverse ∧ (r.dropWhile (· == 48)).length ≤ r.length by
    have := h l.reverse
    simpa using this
  intro r
  induction r with
  | nil => simp
  | cons c t ih =>
    by_cases hc : (c == 48) = true
    · rw [List.dropWhile_cons_of_pos (p := (· == 48)) hc]
      have he : c = 48 := by simpa using hc
      refine ⟨?_, by have := ih.2; simp only [List.length_cons]; omega⟩
      have h2 := ih.2
      rw [List.length_cons, show t.length + 1 - (t.dropWhile (· == 48)).length = (t.length - (t.dropWhile (· == 48)).length) + 1 by omega, List.replicate_succ', ← List.append_assoc, ih.1, he]
      simp
    · rw [List.dropWhile_cons_of_neg (p := (· == 48)) hc]
      simp
theorem fraN_facts (m : Nat) (h : m < 1000) : (∀ c ∈ fraN m, digB c = true) ∧ (fraN m).length ≤ 3 ∧ numN (fraN m ++ List.replicate (3 - (fraN m).length) 48) = m := by
  obtain ⟨t1, t2⟩ := trim_zeros ((Lib.decDigits (1000 + m)).drop 1)
  have hd := dd_four m h
  have hl : ((Lib.decDigits (1000 + m)).drop 1).length = 3 := by rw [hd]; rfl
  rw [hl] at t1 t2
  refine ⟨fun c hc => ?_, t2, ?_⟩
  · have hm : c ∈ (Lib.decDigits (1000 + m)).drop 1 := by
      rw [← t1]
      exact List.mem_append_left _ hc
    exact (dd_facts (1000 + m)).1 c (List.mem_of_mem_drop hm)
  · unfold fraN
    rw [t1, hd]
    simp only [numN, List.foldl_cons, List.foldl_nil]
    rw [nat48 _ (by omega), nat48 _ (by omega), nat48 _ (by omega)]
    omega
theorem digs_ok {l : List UInt8} (h : ∀ c ∈ l, digB c = true) (hn : l ≠ []) : digsB l = true := by
  unfold digsB
  rw [List.all_eq_true.2 h]
  cases l with
  | nil => exact absurd rfl hn
  | cons c t => rfl
/-- the spelling of a number is read as the number -/
theorem numS_decN (n : Nat) (h : n ≤ 1000000000) : numS (decN n) = ((n : Int), 0) := by
  obtain ⟨d1, d2, d3, d4, _⟩ := dd_facts (n / 1000)
  obtain ⟨f1, f2, f3⟩ := fraN_facts (n % 1000) (Nat.mod_lt _ (by decide))
  have hne : ∀ c ∈ Lib.decDigits (n / 1000), (c != 46) = true := fun c hc => dig_ne c (d1 c hc)
  have hhead : ∀ c, (if fraN (n % 1000) = [] then [] else 46 :: fraN (n % 1000)).head? = some c → (c != 46) = false := by
    intro c hc
    split at hc
    · simp at hc
    · have : c = 46 := by simpa using hc.symm
      rw [this]; rfl
  have hw : whoL (decN n) = Lib.decDigits (n / 1000) := by
    unfold whoL decN
    exact tw_app hne hhead
  have hf : fraL (decN n) = fraN (n % 1000) := by
    unfold fraL decN
    rw [dw_app hne hhead]
    split
    · rename_i h1
      rw [h1]; rfl
    · rfl
  have hok : numOk (decN n) = true := by
    unfold numOk
    rw [hw, hf, digs_ok d1 d3]
    have h1 : (decide (1 < (Lib.decDigits (n / 1000)).length) && (Lib.decDigits (n / 1000)).head? == some 48) = false := by
      by_cases h2 : 1 < (Lib.decDigits (n / 1000)).length
      · have := (d4 h2).2
        simp [this]
      · simp [h2]
    rw [h1]
    by_cases h2 : fraN (n % 1000) = []
    · have h3 : pntB (decN n) = false := by
        unfold pntB decN
        rw [if_pos h2, List.append_nil]
        rw [Bool.eq_false_iff]
        intro hc
        have hm := List.contains_iff_mem.1 hc
        have := hne _ hm
        simp at this
      rw [h3]; rfl
    · rw [digs_ok f1 h2, decide_eq_true f2]
      simp
  have hv : numV (decN n) = n := by
    unfold numV
    rw [hw, hf, List.append_assoc, numN_append, d2, f3]
    have : (fraN (n % 1000) ++ List.replicate (3 - (fraN (n % 1000)).length) 48).length = 3 := by
      rw [List.length_append, List.length_replicate]; omega
    rw [this]
    omega
  unfold numS
  rw [hok, hv, if_pos rfl, if_neg (by omega)]
theorem decN_run (n : Nat) : (∀ c ∈ decN n, runB c = true) ∧ decN n ≠ [] ∧ wordB (decN n) = false ∧ ∃ c t, decN n = c :: t ∧ digB c = true := by
  obtain ⟨d1, d2, d3, d4, _⟩ := dd_facts (n / 1000)
  obtain ⟨f1, f2, f3⟩ := fraN_facts (n % 1000) (Nat.mod_lt _ (by decide))
  have hm : ∀ c ∈ decN n, digB c = true ∨ c = 46 := by
    intro c hc
    unfold decN at hc
    rcases List.mem_append.1 hc with h | h
    · exact .inl (d1 c h)
    · split at h
      · simp at h
      · rcases List.mem_cons.1 h with h | h
        · exact .inr h
        · exact .inl (f1 c h)
  refine ⟨fun c hc => ?_, ?_, ?_, ?_⟩
  · rcases hm c hc with h | h
    · exact dig_run c h
    · rw [h]; rfl
  · unfold decN
    intro h
    exact d3 (List.append_eq_nil_iff.1 h).1
  · unfold wordB
    have : (decN n).any letB = false := by
      rw [List.any_eq_false]
      intro c hc
      rcases hm c hc with h | h
      · rw [dig_let c h]; simp
      · rw [h]; decide
    rw [this]; rfl
  · cases hd : Lib.decDigits (n / 1000) with
    | nil => exact absurd hd d3
    | cons c t =>
      refine ⟨c, t ++ (if fraN (n % 1000) = [] then [] else 46 :: fraN (n % 1000)), ?_, d1 c (by rw [hd]; simp)⟩
      unfold decN
      rw [hd]; rfl
theorem titE_zero {l : List UInt8} (h : titE l = 0) : l ≠ [] ∧ l.head? ≠ some 32 ∧ l.getLast? ≠ some 32 ∧ (∀ c ∈ l, titB c = true) ∧ l.length ≤ 40 := by
  unfold titE at h
  split at h
  · exact absurd h (by decide)
  · rename_i h1
    simp only [not_or] at h1
    split at h
    · rename_i h2
      split at h
      · exact absurd h (by decide)
      · rename_i h3
        refine ⟨fun he => h1.1 (by rw [he]; rfl), h1.2.1, h1.2.2, List.all_eq_true.1 h2, by omega⟩
    · exact absurd h (by decide)
theorem wordB_facts {l : List UInt8} (h : wordB l = true) : l ≠ [] ∧ (∀ c ∈ l, wrdB c = true) := by
  unfold wordB at h
  rw [Bool.and_eq_true] at h
  refine ⟨fun he => ?_, List.all_eq_true.1 h.2⟩
  rw [he] at h
  exact absurd h.1 (by decide)
/-- what no run goes on with -/
def Stops (r : List UInt8) : Prop := ∀ c, r.head? = some c → runB c = false
/-- THE SPELLING OF A POSSIBLE TOKEN IS READ AS THIS TOKEN -/
theorem readL_spell (t : Tk) (hv : validT t = true) (h5 : t.k ≠ 5) (r : List UInt8) (hr : Stops r) :
    readL (spellT t ++ r) = ({ t with a := 0 }, (spellT t).length, 0) ∧ ∃ c l, spellT t = c :: l ∧ kB c ≠ 1 ∧ kB c ≠ 2 := by
  obtain ⟨k, s, n, a⟩ := t
  unfold validT at hv
  simp only at hv h5
  by_cases h2 : k = 2
  · subst h2
    rw [if_pos rfl] at hv
    simp only [Bool.and_eq_true, decide_eq_true_eq, List.isEmpty_iff] at hv
    obtain ⟨⟨e1, e2⟩, e3⟩ := hv
    obtain ⟨r1, r2, r3, c, l, r4, r5⟩ := decN_run n.toNat
    have hs : spellT ⟨2, s, n, a⟩ = decN n.toNat := rfl
    have hb : s = bs [] := by rw [← e1, bs_list]
    have hz : numS (decN n.toNat) = (n, 0) := by
      rw [numS_decN _ (by omega)]
      congr 1
      omega
    rw [hs]
    refine ⟨?_, c, l, r4, ?_, ?_⟩
    · have hx : (decN n.toNat ++ r).takeWhile runB = decN n.toNat := tw_app r1 hr
      have hc : decN n.toNat ++ r = c :: (l ++ r) := by rw [r4]; rfl
      rw [hc] at hx ⊢
      rw [readL_cons]
      rw [if_pos (dig_run c r5), hx]
      unfold runR
      rw [r3, hz, hb]
      rfl
    all_goals
      unfold digB at r5
      have : kB c = 5 := by simpa using r5
      omega
  · rw [if_neg h2, Bool.and_eq_true] at hv
    obtain ⟨hn, hv⟩ := hv
    have hn : n = 0 := by simpa using hn
    subst hn
    unfold vText at hv
    have e := bs_list s
    generalize s.data.toList = l at *
    subst e
    by_cases h1 : k = 1
    · subst h1
      rw [if_pos rfl, Bool.and_eq_true, decide_eq_true_eq] at hv
      obtain ⟨hw, hl⟩ := hv
      obtain ⟨w1, w2⟩ := wordB_facts hw
      have hs : spellT ⟨1, bs l, 0, a⟩ = l := by simp [spellT, bs_data]
      rw [hs]
      cases l with
      | nil => exact absurd rfl w1
      | cons c t =>
        have hc := w2 c (by simp)
        refine ⟨?_, c, t, rfl, ?_, ?_⟩
        · have hx : (c :: t ++ r).takeWhile runB = c :: t := tw_app (fun c hc => wrd_run c (w2 c hc)) hr
          rw [List.cons_append] at hx ⊢
          rw [readL_cons]
          rw [if_pos (wrd_run c hc), hx]
          unfold runR
          rw [if_pos hw, if_neg (by omega)]
        all_goals
          unfold wrdB at hc
          simp at hc
          omega
    · rw [if_neg h1] at hv
      by_cases h3 : k = 3
      · subst h3
        rw [if_pos rfl] at hv
        have hv : titE l = 0 := by simpa using hv
        obtain ⟨t1, t2, t3, t4, t5⟩ := titE_zero hv
        have hs : spellT ⟨3, bs l, 0, a⟩ = 34 :: (l ++ [34]) := by simp [spellT, bs_data]
        rw [hs]
        refine ⟨?_, 34, _, rfl, by decide, by decide⟩
        have hq : quoL (l ++ [34] ++ r) = l := by
          unfold quoL
          rw [List.append_assoc]
          refine tw_app (fun c hc => tit_ne c (t4 c hc)) (fun c hc => ?_)
          have : c = 34 := by simpa using hc.symm
          rw [this]; rfl
        rw [List.cons_append]
        rw [readL_cons]
        rw [if_neg (by decide), if_pos (by decide)]
        unfold strR
        rw [hq, if_neg (by simp), if_pos hv]
        simp
      · rw [if_neg h3] at hv
        by_cases h4 : k = 4
        · subst h4
          rw [if_pos rfl] at hv
          unfold sigB at hv
          match l with
          | [] => exact absurd hv (by decide)
          | [c] =>
            have hk : kB c = 8 := by simpa using hv
            have hs : spellT ⟨4, bs [c], 0, a⟩ = [c] := by simp [spellT, bs_data]
            rw [hs]
            refine ⟨?_, c, [], rfl, by omega, by omega⟩
            show readL (c :: r) = _
            rw [readL_cons]
            rw [if_neg (by unfold runB; simp; omega), if_neg (by omega), if_pos hk]
            rfl
          | _ :: _ :: _ => exact absurd hv (by simp)
        · rw [if_neg h4, if_neg h5] at hv
          exact absurd hv (by decide)
end Go.Proofs.YtohalocbghhenaaGreatDoor
