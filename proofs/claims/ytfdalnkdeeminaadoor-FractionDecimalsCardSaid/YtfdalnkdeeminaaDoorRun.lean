/- Contracts of package fraction, eleventh part: runs of digits. -/
import Derived.Test.YtfdalnkdeeminaaDoorNum
import Derived.BigGuard
set_option linter.unusedSimpArgs false
set_option linter.unusedVariables false
namespace Go.Proofs.YtfdalnkdeeminaaDoor
open Go.RowKit

def isDig (c : UInt8) : Bool := decide (48 ≤ c.toNat ∧ c.toNat ≤ 57)
/-- how many digits stand at the beginning -/
def runL : List UInt8 → Nat
  | [] => 0
  | c :: r => if isDig c = true then runL r + 1 else 0
theorem runL_le (r : List UInt8) : runL r ≤ r.length := by
  induction r with
  | nil => simp [runL]
  | cons c r ih => unfold runL; split <;> simp <;> omega
theorem runL_dig (r : List UInt8) (k : Nat) (h : k < runL r) (hk : k < r.length) : isDig (r[k]'hk) = true := by
  induction r generalizing k with
  | nil => simp [runL] at h
  | cons c r ih =>
    unfold runL at h
    split at h
    · rename_i hc
      cases k with
      | zero => simpa using hc
      | succ k => simpa using ih k (by omega) (by simpa using hk)
    · omega
theorem runL_end (r : List UInt8) (hk : runL r < r.length) : isDig (r[runL r]'hk) = false := by
  induction r with
  | nil => simp at hk
  | cons c r ih =>
    by_cases hc : isDig c = true
    · have e : runL (c :: r) = runL r + 1 := by rw [runL, if_pos hc]
      simp only [e, List.length_cons] at hk ⊢
      simpa using ih (by omega)
    · have e : runL (c :: r) = 0 := by rw [runL, if_neg hc]
      simp only [e]
      simpa using hc

/-- the same, of a string -/
def runS (s : ByteArray) : Nat := runL s.data.toList
theorem runS_le (s : ByteArray) : runS s ≤ s.size := runL_le s.data.toList
theorem getS (s : ByteArray) (k : Nat) (h : k < s.size) : s.data.toList[k]'(by simpa using h) = s[k] := rfl
theorem runS_dig (s : ByteArray) (k : Nat) (h : k < runS s) (hk : k < s.size) : 48 ≤ ((s[k]'hk).toNat : Int) ∧ ((s[k]'hk).toNat : Int) ≤ 57 := by
  have := runL_dig s.data.toList k h (by simpa using hk)
  rw [getS s k hk] at this
  unfold isDig at this
  simp only [decide_eq_true_eq] at this
  omega
theorem runS_end (s : ByteArray) (hk : runS s < s.size) : ((s[runS s]'hk).toNat : Int) < 48 ∨ 48 ≤ ((s[runS s]'hk).toNat : Int) ∧ 57 < ((s[runS s]'hk).toNat : Int) := by
  have := runL_end s.data.toList (show runL s.data.toList < s.data.toList.length from hk)
  rw [getS s (runL s.data.toList) hk] at this
  unfold isDig at this
  simp only [decide_eq_false_iff_not] at this
  show ((s[runL s.data.toList]'hk).toNat : Int) < 48 ∨ 48 ≤ ((s[runL s.data.toList]'hk).toNat : Int) ∧ 57 < ((s[runL s.data.toList]'hk).toNat : Int)
  omega

set_option maxHeartbeats 1000000 in
theorem cutRun_any (s : ByteArray) (w : World) (hr : s.size ≤ 9223372036854775807) :
    Calls Tryd.prog 63 #[.string s] w fun e w' =>
      e = .returned (.tuple #[.string (s.extract 0 (runS s)), .string (s.extract (runS s) s.size), .bool (decide (1 ≤ runS s ∧ runS s ≤ 19))]) ∧ ∃ n, w' = w.drewN n := by
  have hle := runS_le s
  go_enter Tryd.func63, Tryd.ntmps63
  go_wp2
  go_loopw [5] (fun s5 wr => ∃ k : Nat, k ≤ runS s ∧ s5 = .int .i64 k ∧ wr = w) (fun s5 _ => runS s - (intOf s5).toNat)
  case atStart => exact ⟨0, Nat.zero_le _, rfl, rfl⟩
  case round =>
    obtain ⟨k, hk, rfl, rfl⟩ := hrel
    by_cases hlt : k < runS s
    · have hkl : k < s.size := by omega
      obtain ⟨d1, d2⟩ := runS_dig s k hlt hkl
      go_wp2
      go_roundw
      case rel => exact ⟨k + 1, by omega, by go_num, trivial⟩
      case measure => simp [intOf]; omega
    · have he : k = runS s := by omega
      have hen := runS_end s
      rw [← he] at hen
      have hks : k ≤ s.size := by omega
      have HE := Lib.hid he
      clear hle hk hlt he
      have hk0 : (0 : Int) ≤ (k : Int) := by omega
      have hk1 : (k : Int) ≤ (s.size : Int) := by omega
      have ways : k = s.size ∨ (∃ h : k < s.size, ((s[k]'h).toNat : Int) < 48) ∨ (∃ h : k < s.size, 48 ≤ ((s[k]'h).toNat : Int) ∧ 57 < ((s[k]'h).toNat : Int)) := by
        by_cases h : k < s.size
        · rcases hen h with h' | h'
          · exact .inr (.inl ⟨h, h'⟩)
          · exact .inr (.inr ⟨h, h'⟩)
        · exact .inl (by omega)
      clear hen
      have hr1 : decide (1 ≤ k ∧ k ≤ 19) = (decide ((1 : Int) ≤ (k : Int)) && decide ((k : Int) ≤ 19)) := by
        rw [Bool.eq_iff_iff]; simp; omega
      have HR := Lib.hid hr1
      clear hr1
      by_cases h1 : (1 : Int) ≤ (k : Int)
      · have t1 : decide ((1 : Int) ≤ (k : Int)) = true := by simpa using h1
        rcases ways with rfl | ⟨h, h2⟩ | ⟨h, h2, h3⟩
        all_goals
          go_wp2
          go_quiet (fail)
          go_wp2
          go_ret3
          refine ⟨?_, _, rfl⟩
          rw [← HE.out, HR.out, t1]
          first | rfl | simp
      · have t1 : decide ((1 : Int) ≤ (k : Int)) = false := by simpa using h1
        rcases ways with rfl | ⟨h, h2⟩ | ⟨h, h2, h3⟩
        all_goals
          go_wp2
          go_quiet (fail)
          go_wp2
          go_ret3
          refine ⟨?_, _, rfl⟩
          rw [← HE.out, HR.out, t1]
          first | rfl | simp
end Go.Proofs.YtfdalnkdeeminaaDoor
