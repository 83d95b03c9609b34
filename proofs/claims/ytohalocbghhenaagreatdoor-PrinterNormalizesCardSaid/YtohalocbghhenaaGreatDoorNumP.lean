/- What the library's Cut and ParseInt give, in the words of tokens. -/
import Derived.Test.YtohalocbghhenaaGreatDoorRuns
set_option linter.unusedSimpArgs false
set_option linter.unusedVariables false
namespace Go.Proofs.YtohalocbghhenaaGreatDoor
open Go.RowKit

theorem index_byte (b : UInt8) : ∀ l : List UInt8, Lib.index l [b] = if l.contains b then ((l.takeWhile (· != b)).length : Int) else -1
  | [] => rfl
  | c :: l => by
    have ih := index_byte b l
    unfold Lib.index
    by_cases h : c = b
    · subst h
      rw [List.takeWhile_cons_of_neg (by simp)]
      simp [List.isPrefixOf]
    · have h2 : ([b] : List UInt8).isPrefixOf (c :: l) = false := by
        simp [List.isPrefixOf]
        intro e; exact h e.symm
      rw [h2, ih, List.takeWhile_cons_of_pos (by simpa using h)]
      have h3 : (c :: l).contains b = l.contains b := by
        rw [List.contains_cons]
        have : (b == c) = false := by simp; intro e; exact h e.symm
        rw [this, Bool.false_or]
      rw [h3]
      by_cases h4 : l.contains b = true
      · rw [if_pos h4, if_pos h4]
        have : (((l.takeWhile (· != b)).length : Int) == -1) = false := by simp
        rw [this]
        simp
      · rw [if_neg h4, if_neg h4]
        rfl
theorem no_byte {b : UInt8} {l : List UInt8} (h : l.contains b = false) : l.takeWhile (· != b) = l ∧ l.dropWhile (· != b) = [] := by
  have hall : ∀ c ∈ l, (c != b) = true := by
    intro c hc
    cases hcb : c == b with
    | false => simp [bne, hcb]
    | true =>
      have : c = b := by simpa using hcb
      subst this
      have := List.contains_iff_mem.2 hc
      rw [h] at this
      exact absurd this (by decide)
  have h1 := tw_app (r := []) hall (by simp)
  have h2 := dw_app (r := []) hall (by simp)
  rw [List.append_nil] at h1 h2
  exact ⟨h1, h2⟩
theorem cut_byte (b : UInt8) (l : List UInt8) : Lib.cut l [b] = (l.takeWhile (· != b), (l.dropWhile (· != b)).drop 1, l.contains b) := by
  unfold Lib.cut
  rw [index_byte]
  cases h : l.contains b with
  | true =>
    simp only [if_true]
    rw [if_pos (by omega), Int.toNat_natCast]
    obtain ⟨t1, t2⟩ := tw_take (· != b) l
    rw [t1, ← List.drop_drop, t2]
    rfl
  | false =>
    obtain ⟨t1, t2⟩ := no_byte h
    rw [t1, t2]
    simp
def finN (a : Nat) (l : List UInt8) : Nat := l.foldl (fun n c => n * 10 + (c.toNat - 48)) a
theorem finN_ge : ∀ (l : List UInt8) (a : Nat), a ≤ finN a l
  | [], a => Nat.le_refl _
  | c :: l, a => by
    have := finN_ge l (a * 10 + (c.toNat - 48))
    unfold finN at this ⊢
    rw [List.foldl_cons]
    omega
theorem parseM_digs : ∀ (l : List UInt8) (a : Nat), (∀ c ∈ l, digB c = true) → a ≤ 18446744073709551615 → Lib.parseUintM 18446744073709551615 a l = if finN a l ≤ 18446744073709551615 then .ok (finN a l) else .range
  | [], a, _, ha => by
    unfold Lib.parseUintM finN
    rw [List.foldl_nil, if_pos ha]
  | c :: l, a, h, ha => by
    have hc := h c (by simp)
    rw [dig_num] at hc
    simp only [Bool.and_eq_true, decide_eq_true_eq] at hc
    have hge := finN_ge l (a * 10 + (c.toNat - 48))
    have e : finN a (c :: l) = finN (a * 10 + (c.toNat - 48)) l := rfl
    rw [e]
    unfold Lib.parseUintM
    rw [if_pos hc]
    by_cases h1 : 1844674407370955162 ≤ a
    · rw [if_pos h1, if_neg (by omega)]
    · rw [if_neg h1]
      by_cases h2 : 18446744073709551615 < a * 10 + (c.toNat - 48)
      · rw [if_pos h2, if_neg (by omega)]
      · rw [if_neg h2]
        exact parseM_digs l _ (fun d hd => h d (by simp [hd])) (by omega)
theorem parse_digs (l : List UInt8) (h : ∀ c ∈ l, digB c = true) (hn : l ≠ []) : Lib.parseIntB 64 l = if numN l ≤ 9223372036854775807 then .ok (numN l : Int) else .range := by
  cases l with
  | nil => exact absurd rfl hn
  | cons c t =>
    have hc := h c (by simp)
    rw [dig_num] at hc
    simp only [Bool.and_eq_true, decide_eq_true_eq] at hc
    have n1 : ¬ (c.toNat = 43 ∨ c.toNat = 45) := by omega
    have n2 : ¬ c.toNat = 45 := by omega
    have hm := parseM_digs (c :: t) 0 h (by omega)
    unfold Lib.parseIntB
    simp only [if_neg n1]
    unfold Lib.parseUintB
    rw [if_neg (by simp)]
    have e : (2 ^ 64 - 1 : Nat) = 18446744073709551615 := by decide
    rw [e, hm]
    have e2 : finN 0 (c :: t) = numN (c :: t) := rfl
    rw [e2]
    by_cases h1 : numN (c :: t) ≤ 18446744073709551615
    · rw [if_pos h1]
      simp only [n2, not_false_eq_true, true_and, false_and, if_false]
      by_cases h2 : numN (c :: t) ≤ 9223372036854775807
      · rw [if_pos h2, if_neg (by simp; omega)]
      · rw [if_neg h2, if_pos (by simp; omega)]
    · rw [if_neg h1, if_neg (by omega)]
theorem rep48 (c : Nat) : Lib.repeatL [48] c = List.replicate c 48 := by
  induction c with
  | zero => rfl
  | succ c ih =>
    show [48] ++ Lib.repeatL [48] c = _
    rw [ih]
    rfl
theorem cut_any (s : ByteArray) (b : UInt8) (hs : s.size ≤ 1000000000) (w : World) (hT : Tabs w) : Calls Tryz.prog 120 #[.string s, .string ⟨#[b]⟩] w fun e w' => e = .returned (.tuple #[.string (bs (s.data.toList.takeWhile (· != b))), .string (bs ((s.data.toList.dropWhile (· != b)).drop 1)), .bool (s.data.toList.contains b)]) ∧ Below w.heap.size w w' := by
  obtain ⟨m, hm⟩ := hT.max
  refine (Tryz.strings_Cut s ⟨#[b]⟩ m w (by omega) hm).mono ?_
  rintro e w' ⟨rfl, n, rfl⟩
  have hc : Lib.cut s.data.toList (⟨#[b]⟩ : ByteArray).data.toList = (s.data.toList.takeWhile (· != b), (s.data.toList.dropWhile (· != b)).drop 1, s.data.toList.contains b) := cut_byte b _
  rw [hc]
  exact ⟨rfl, below_drewN w n⟩
/-- ParseInt of digits -/
theorem parse_ok (s : ByteArray) (v : Int) (hs : s.size ≤ 1000000000) (h : Lib.parseIntB 64 s.data.toList = .ok v) (w : World) : Calls Tryz.prog 130 #[.string s, .int .i64 10, .int .i64 64] w fun e w' => e = .returned (.tuple #[.int .i64 v, .nilIface]) ∧ Below w.heap.size w w' := by
  refine (Tryz.strconv_ParseInt_10_at64_ok s (by omega) v h w).mono ?_
  rintro e w' ⟨rfl, rfl | ⟨t, rfl⟩⟩
  · exact ⟨rfl, Below.refl _ _⟩
  · exact ⟨rfl, Lib.bytesWorld_below _ _ _⟩
theorem parse_range (s : ByteArray) (hs : s.size ≤ 1000000000) (h : Lib.parseIntB 64 s.data.toList = .range) (w : World) (hT : Tabs w) : Calls Tryz.prog 130 #[.string s, .int .i64 10, .int .i64 64] w fun e w' => (∃ x t p, e = .returned (.tuple #[.int .i64 x, .iface t p])) ∧ Below w.heap.size w w' := by
  obtain ⟨tp, p, hp⟩ := hT.err
  refine (Tryz.strconv_ParseInt_10_at64_range_var s (by omega) h tp p w hp).mono ?_
  rintro e w' ⟨N, rfl, _, _, hb⟩
  exact ⟨⟨_, _, _, rfl⟩, hb⟩
end Go.Proofs.YtohalocbghhenaaGreatDoor
