/- Reading lines, plain: the marks of an item, an item, a chain, all chains. -/
import Derived.Test.YtccglojnjakbfaaItm
import Derived.Test.YtccglojnjakbfaaChk
set_option linter.unusedSimpArgs false
set_option linter.unusedVariables false
namespace Go.Proofs.Ytccglojnjakbfaa
open Go.RowKit

theorem tw_get (p : UInt8 → Bool) : ∀ (l : List UInt8) (k : Nat), k < (l.takeWhile p).length → ∃ c, l[k]? = some c ∧ p c = true
  | [], k, h => by simp at h
  | c :: t, k, h => by
    by_cases hc : p c = true
    · rw [List.takeWhile_cons_of_pos hc] at h
      cases k with
      | zero => exact ⟨c, rfl, hc⟩
      | succ k =>
        obtain ⟨d, h1, h2⟩ := tw_get p t k (by simpa using h)
        exact ⟨d, by simpa using h1, h2⟩
    · rw [List.takeWhile_cons_of_neg hc] at h
      simp at h
theorem tw_end (p : UInt8 → Bool) : ∀ (l : List UInt8), (l.takeWhile p).length < l.length → ∃ c, l[(l.takeWhile p).length]? = some c ∧ p c = false
  | [], h => by simp at h
  | c :: t, h => by
    by_cases hc : p c = true
    · rw [List.takeWhile_cons_of_pos hc] at h ⊢
      obtain ⟨d, h1, h2⟩ := tw_end p t (by simpa using h)
      exact ⟨d, by simpa using h1, h2⟩
    · rw [List.takeWhile_cons_of_neg hc]
      exact ⟨c, rfl, by simpa using hc⟩
theorem tw_take (p : UInt8 → Bool) (l : List UInt8) : l.take (l.takeWhile p).length = l.takeWhile p ∧ l.drop (l.takeWhile p).length = l.dropWhile p := by
  induction l with
  | nil => simp
  | cons c t ih =>
    by_cases hc : p c = true
    · rw [List.takeWhile_cons_of_pos hc, List.dropWhile_cons_of_pos hc]
      simp [ih.1, ih.2]
    · rw [List.takeWhile_cons_of_neg hc, List.dropWhile_cons_of_neg hc]
      simp
theorem tw_le (p : UInt8 → Bool) (l : List UInt8) : (l.takeWhile p).length ≤ l.length := (List.takeWhile_sublist p).length_le
/-- how many bytes from an offset on pass -/
def runN (q : UInt8 → Bool) (L : List UInt8) (p : Nat) : Nat := ((L.drop p).takeWhile q).length
theorem runN_le (q : UInt8 → Bool) (L : List UInt8) (p : Nat) (hp : p ≤ L.length) : p + runN q L p ≤ L.length := by
  unfold runN
  have := tw_le q (L.drop p)
  rw [List.length_drop] at this
  omega
theorem runN_yes (q : UInt8 → Bool) (s : ByteArray) (p k : Nat) (hk : k < s.size) (h1 : p ≤ k) (h2 : k < p + runN q s.data.toList p) : q (s[k]'hk) = true := by
  obtain ⟨c, e1, e2⟩ := tw_get q (s.data.toList.drop p) (k - p) (by unfold runN at h2; omega)
  rw [List.getElem?_drop, show p + (k - p) = k by omega, list_get s k hk] at e1
  rw [Option.some.inj e1]
  exact e2
theorem runN_no (q : UInt8 → Bool) (s : ByteArray) (p : Nat) (h : p + runN q s.data.toList p < s.size) : q (s[p + runN q s.data.toList p]'h) = false := by
  obtain ⟨c, e1, e2⟩ := tw_end q (s.data.toList.drop p) (by unfold runN at h; rw [List.length_drop, list_size]; omega)
  rw [List.getElem?_drop] at e1
  have e3 : s.data.toList[p + runN q s.data.toList p]? = some c := e1
  rw [list_get s _ h] at e3
  rw [Option.some.inj e3]
  exact e2
theorem runN_ext (q : UInt8 → Bool) (s : ByteArray) (p : Nat) : s.extract p (p + runN q s.data.toList p) = bs ((s.data.toList.drop p).takeWhile q) := by
  refine (bs_of ?_).symm
  rw [ext_list, show p + runN q s.data.toList p - p = runN q s.data.toList p by omega]
  exact (tw_take q _).1
def blB (c : UInt8) : Bool := c == 32
def isAt (c : UInt8) (L : List UInt8) (p : Nat) : Bool := L[p]? == some c
/-- the marks of an item: the error, the item, the place -/
def markR : List UInt8 → Nat → It → Int × It × Nat
  | [], p, x => (0, x, p)
  | c :: t, p, x =>
    if c = 60 then (if x.d = 9 then (6, x, p) else markR t (p + 1) ⟨x.c, x.d + 1, x.r, x.v, x.j⟩)
    else if c = 63 then (if x.r = true then (4, x, p) else markR t (p + 1) ⟨x.c, x.d, true, x.v, x.j⟩)
    else if c = 42 then (if x.v = true then (4, x, p) else markR t (p + 1) ⟨x.c, x.d, x.r, true, x.j⟩)
    else (0, x, p)
/-- an item from an offset on, before which n items stand -/
def itemP (L : List UInt8) (p n : Nat) : Int × It × Nat :=
  if runN codeB L p = 0 then (2, It.zero, p)
  else if n = 30 then (6, It.zero, p)
  else if codeS (bs ((L.drop p).takeWhile codeB)) = false then (3, It.zero, p)
  else markR (L.drop (p + runN codeB L p)) (p + runN codeB L p) ⟨bs ((L.drop p).takeWhile codeB), 0, false, false, false⟩
/-- the items of a chain from an offset on: the error, all items, the place -/
def chnP (L : List UInt8) : Nat → Nat → List It → Int × List It × Nat
  | 0, p, acc => (0, acc, p)
  | f + 1, p, acc =>
    if (itemP L p acc.length).1 = 0 then
      (if isAt 43 L (itemP L p acc.length).2.2 = true then chnP L f ((itemP L p acc.length).2.2 + 1) (acc ++ [⟨(itemP L p acc.length).2.1.c, (itemP L p acc.length).2.1.d, (itemP L p acc.length).2.1.r, (itemP L p acc.length).2.1.v, true⟩])
       else (0, acc ++ [(itemP L p acc.length).2.1], (itemP L p acc.length).2.2))
    else ((itemP L p acc.length).1, acc, (itemP L p acc.length).2.2)
/-- all chains -/
def redP (L : List UInt8) : Nat → Nat → List It → Int × List It × Nat
  | 0, p, acc => (0, acc, p)
  | f + 1, p, acc =>
    if p + runN blB L p = L.length then (0, acc, p + runN blB L p)
    else if (chnP L (L.length + 1) (p + runN blB L p) acc).1 = 0 then
      (if (chnP L (L.length + 1) (p + runN blB L p) acc).2.2 = L.length ∨ isAt 32 L (chnP L (L.length + 1) (p + runN blB L p) acc).2.2 = true then
         redP L f (chnP L (L.length + 1) (p + runN blB L p) acc).2.2 (chnP L (L.length + 1) (p + runN blB L p) acc).2.1
       else (2, chnP L (L.length + 1) (p + runN blB L p) acc |>.2))
    else chnP L (L.length + 1) (p + runN blB L p) acc
def parP (L : List UInt8) : List It × Int × Int :=
  if (redP L (L.length + 1) 0 []).1 = 0 then ((redP L (L.length + 1) 0 []).2.1, 0, 0) else ([], (redP L (L.length + 1) 0 []).1, ((redP L (L.length + 1) 0 []).2.2 : Int))
/-- where marks end -/
theorem markR_at : ∀ (l : List UInt8) (p : Nat) (x : It), p ≤ (markR l p x).2.2 ∧ (markR l p x).2.2 ≤ p + l.length ∧ ((markR l p x).1 ≠ 0 → (markR l p x).2.2 < p + l.length)
  | [], p, x => by simp [markR]
  | c :: t, p, x => by
    rw [markR]
    split
    · split
      · simp
      · have := markR_at t (p + 1) ⟨x.c, x.d + 1, x.r, x.v, x.j⟩
        simp only [List.length_cons]
        exact ⟨by omega, by omega, fun h => by have := this.2.2 h; omega⟩
    · split
      · split
        · simp
        · have := markR_at t (p + 1) ⟨x.c, x.d, true, x.v, x.j⟩
          simp only [List.length_cons]
          exact ⟨by omega, by omega, fun h => by have := this.2.2 h; omega⟩
      · split
        · split
          · simp
          · have := markR_at t (p + 1) ⟨x.c, x.d, x.r, true, x.j⟩
            simp only [List.length_cons]
            exact ⟨by omega, by omega, fun h => by have := this.2.2 h; omega⟩
        · simp
theorem itemP_at (L : List UInt8) (p n : Nat) (hp : p ≤ L.length) : p ≤ (itemP L p n).2.2 ∧ (itemP L p n).2.2 ≤ L.length ∧ ((itemP L p n).1 = 0 → p < (itemP L p n).2.2) := by
  have hr := runN_le codeB L p hp
  unfold itemP
  split
  · exact ⟨Nat.le_refl _, hp, fun h => absurd h (by simp)⟩
  · split
    · exact ⟨Nat.le_refl _, hp, fun h => absurd h (by simp)⟩
    · split
      · exact ⟨Nat.le_refl _, hp, fun h => absurd h (by simp)⟩
      · have h1 := markR_at (L.drop (p + runN codeB L p)) (p + runN codeB L p) ⟨bs ((L.drop p).takeWhile codeB), 0, false, false, false⟩
        rw [List.length_drop] at h1
        exact ⟨by omega, by omega, fun _ => by omega⟩
theorem isAt_lt {c : UInt8} {L : List UInt8} {p : Nat} (h : isAt c L p = true) : p < L.length := by
  unfold isAt at h
  rw [beq_iff_eq] at h
  exact (List.getElem?_eq_some_iff.1 h).1
theorem chnP_fuel (L : List UInt8) : ∀ (f g p : Nat) (acc : List It), p ≤ L.length → L.length < p + f → L.length < p + g → chnP L f p acc = chnP L g p acc
  | 0, g, p, acc, hp, hf, hg => by omega
  | f + 1, 0, p, acc, hp, hf, hg => by omega
  | f + 1, g + 1, p, acc, hp, hf, hg => by
    rw [chnP, chnP]
    have ha := itemP_at L p acc.length hp
    by_cases h0 : (itemP L p acc.length).1 = 0
    · rw [if_pos h0, if_pos h0]
      by_cases h1 : isAt 43 L (itemP L p acc.length).2.2 = true
      · rw [if_pos h1, if_pos h1]
        have := isAt_lt h1
        have := ha.2.2 h0
        exact chnP_fuel L f g _ _ (by omega) (by omega) (by omega)
      · rw [if_neg h1, if_neg h1]
    · rw [if_neg h0, if_neg h0]
theorem chnP_at (L : List UInt8) : ∀ (f p : Nat) (acc : List It), p ≤ L.length → L.length < p + f → p ≤ (chnP L f p acc).2.2 ∧ (chnP L f p acc).2.2 ≤ L.length ∧ ((chnP L f p acc).1 = 0 → p < (chnP L f p acc).2.2)
  | 0, p, acc, hp, hf => by omega
  | f + 1, p, acc, hp, hf => by
    rw [chnP]
    have ha := itemP_at L p acc.length hp
    by_cases h0 : (itemP L p acc.length).1 = 0
    · rw [if_pos h0]
      have hb := ha.2.2 h0
      by_cases h1 : isAt 43 L (itemP L p acc.length).2.2 = true
      · rw [if_pos h1]
        have := isAt_lt h1
        have := chnP_at L f ((itemP L p acc.length).2.2 + 1) (acc ++ [⟨(itemP L p acc.length).2.1.c, (itemP L p acc.length).2.1.d, (itemP L p acc.length).2.1.r, (itemP L p acc.length).2.1.v, true⟩]) (by omega) (by omega)
        exact ⟨by omega, by omega, fun h => by have := this.2.2 h; omega⟩
      · rw [if_neg h1]
        exact ⟨Nat.le_of_lt hb, ha.2.1, fun _ => hb⟩
    · rw [if_neg h0]
      exact ⟨ha.1, ha.2.1, fun h => absurd h h0⟩
theorem redP_fuel (L : List UInt8) : ∀ (f g p : Nat) (acc : List It), p ≤ L.length → L.length < p + f → L.length < p + g → redP L f p acc = redP L g p acc
  | 0, g, p, acc, hp, hf, hg => by omega
  | f + 1, 0, p, acc, hp, hf, hg => by omega
  | f + 1, g + 1, p, acc, hp, hf, hg => by
    rw [redP, redP]
    have hr := runN_le blB L p hp
    by_cases h0 : p + runN blB L p = L.length
    · rw [if_pos h0, if_pos h0]
    · rw [if_neg h0, if_neg h0]
      have hc := chnP_at L (L.length + 1) (p + runN blB L p) acc hr (by omega)
      by_cases h1 : (chnP L (L.length + 1) (p + runN blB L p) acc).1 = 0
      · rw [if_pos h1, if_pos h1]
        have := hc.2.2 h1
        split
        · exact redP_fuel L f g _ _ (by omega) (by omega) (by omega)
        · rfl
      · rw [if_neg h1, if_neg h1]
theorem redP_at (L : List UInt8) : ∀ (f p : Nat) (acc : List It), p ≤ L.length → L.length < p + f → (redP L f p acc).2.2 ≤ L.length
  | 0, p, acc, hp, hf => by omega
  | f + 1, p, acc, hp, hf => by
    rw [redP]
    have hr := runN_le blB L p hp
    split
    · exact hr
    · have hc := chnP_at L (L.length + 1) (p + runN blB L p) acc hr (by omega)
      split
      · rename_i h1
        have := hc.2.2 h1
        split
        · exact redP_at L f _ _ (by omega) (by omega)
        · exact hc.2.1
      · exact hc.2.1
end Go.Proofs.Ytccglojnjakbfaa
