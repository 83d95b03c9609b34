/- Tests of single bytes: isAlphanumeric, the reference's letter. -/
import Derived.Test.YtccglojnjakbfaaChx
set_option linter.unusedSimpArgs false
set_option linter.unusedVariables false
namespace Go.Proofs.Ytccglojnjakbfaa
open Go.RowKit

set_option maxHeartbeats 1000000 in
theorem alnum_any : ByteFn 64 codeB := by
  intro c w
  have hb := c.toNat_lt
  rcases (show (c.toNat < 48) ∨ (48 ≤ c.toNat ∧ c.toNat ≤ 57) ∨ (58 ≤ c.toNat ∧ c.toNat ≤ 64) ∨ (65 ≤ c.toNat ∧ c.toNat ≤ 90) ∨ (91 ≤ c.toNat ∧ c.toNat ≤ 96) ∨ (97 ≤ c.toNat ∧ c.toNat ≤ 122) ∨ (123 ≤ c.toNat) by omega) with h | h | h | h | h | h | h
  · have HS := Lib.hid (show codeB c = false by unfold codeB inB; simp; omega)
    have k65 : decide ((c.toNat : Int) ≥ 65) = false := decide_eq_false (by omega)
    have k90 : decide ((c.toNat : Int) ≤ 90) = true := decide_eq_true (by omega)
    have k97 : decide ((c.toNat : Int) ≥ 97) = false := decide_eq_false (by omega)
    have k122 : decide ((c.toNat : Int) ≤ 122) = true := decide_eq_true (by omega)
    have k48 : decide ((c.toNat : Int) ≥ 48) = false := decide_eq_false (by omega)
    have k57 : decide ((c.toNat : Int) ≤ 57) = true := decide_eq_true (by omega)
    go_enter Try.func64, Try.ntmps64
    go_wp2
    go_ret
    exact ⟨by rw [HS.out]; rfl, rfl⟩
  · have HS := Lib.hid (show codeB c = true by unfold codeB inB; simp; omega)
    have k65 : decide ((c.toNat : Int) ≥ 65) = false := decide_eq_false (by omega)
    have k90 : decide ((c.toNat : Int) ≤ 90) = true := decide_eq_true (by omega)
    have k97 : decide ((c.toNat : Int) ≥ 97) = false := decide_eq_false (by omega)
    have k122 : decide ((c.toNat : Int) ≤ 122) = true := decide_eq_true (by omega)
    have k48 : decide ((c.toNat : Int) ≥ 48) = true := decide_eq_true (by omega)
    have k57 : decide ((c.toNat : Int) ≤ 57) = true := decide_eq_true (by omega)
    go_enter Try.func64, Try.ntmps64
    go_wp2
    go_ret
    exact ⟨by rw [HS.out]; rfl, rfl⟩
  · have HS := Lib.hid (show codeB c = false by unfold codeB inB; simp; omega)
    have k65 : decide ((c.toNat : Int) ≥ 65) = false := decide_eq_false (by omega)
    have k90 : decide ((c.toNat : Int) ≤ 90) = true := decide_eq_true (by omega)
    have k97 : decide ((c.toNat : Int) ≥ 97) = false := decide_eq_false (by omega)
    have k122 : decide ((c.toNat : Int) ≤ 122) = true := decide_eq_true (by omega)
    have k48 : decide ((c.toNat : Int) ≥ 48) = true := decide_eq_true (by omega)
    have k57 : decide ((c.toNat : Int) ≤ 57) = false := decide_eq_false (by omega)
    go_enter Try.func64, Try.ntmps64
    go_wp2
    go_ret
    exact ⟨by rw [HS.out]; rfl, rfl⟩
  · have HS := Lib.hid (show codeB c = true by unfold codeB inB; simp; omega)
    have k65 : decide ((c.toNat : Int) ≥ 65) = true := decide_eq_true (by omega)
    have k90 : decide ((c.toNat : Int) ≤ 90) = true := decide_eq_true (by omega)
    have k97 : decide ((c.toNat : Int) ≥ 97) = false := decide_eq_false (by omega)
    have k122 : decide ((c.toNat : Int) ≤ 122) = true := decide_eq_true (by omega)
    have k48 : decide ((c.toNat : Int) ≥ 48) = true := decide_eq_true (by omega)
    have k57 : decide ((c.toNat : Int) ≤ 57) = false := decide_eq_false (by omega)
    go_enter Try.func64, Try.ntmps64
    go_wp2
    go_ret
    exact ⟨by rw [HS.out]; rfl, rfl⟩
  · have HS := Lib.hid (show codeB c = false by unfold codeB inB; simp; omega)
    have k65 : decide ((c.toNat : Int) ≥ 65) = true := decide_eq_true (by omega)
    have k90 : decide ((c.toNat : Int) ≤ 90) = false := decide_eq_false (by omega)
    have k97 : decide ((c.toNat : Int) ≥ 97) = false := decide_eq_false (by omega)
    have k122 : decide ((c.toNat : Int) ≤ 122) = true := decide_eq_true (by omega)
    have k48 : decide ((c.toNat : Int) ≥ 48) = true := decide_eq_true (by omega)
    have k57 : decide ((c.toNat : Int) ≤ 57) = false := decide_eq_false (by omega)
    go_enter Try.func64, Try.ntmps64
    go_wp2
    go_ret
    exact ⟨by rw [HS.out]; rfl, rfl⟩
  · have HS := Lib.hid (show codeB c = true by unfold codeB inB; simp; omega)
    have k65 : decide ((c.toNat : Int) ≥ 65) = true := decide_eq_true (by omega)
    have k90 : decide ((c.toNat : Int) ≤ 90) = false := decide_eq_false (by omega)
    have k97 : decide ((c.toNat : Int) ≥ 97) = true := decide_eq_true (by omega)
    have k122 : decide ((c.toNat : Int) ≤ 122) = true := decide_eq_true (by omega)
    have k48 : decide ((c.toNat : Int) ≥ 48) = true := decide_eq_true (by omega)
    have k57 : decide ((c.toNat : Int) ≤ 57) = false := decide_eq_false (by omega)
    go_enter Try.func64, Try.ntmps64
    go_wp2
    go_ret
    exact ⟨by rw [HS.out]; rfl, rfl⟩
  · have HS := Lib.hid (show codeB c = false by unfold codeB inB; simp; omega)
    have k65 : decide ((c.toNat : Int) ≥ 65) = true := decide_eq_true (by omega)
    have k90 : decide ((c.toNat : Int) ≤ 90) = false := decide_eq_false (by omega)
    have k97 : decide ((c.toNat : Int) ≥ 97) = true := decide_eq_true (by omega)
    have k122 : decide ((c.toNat : Int) ≤ 122) = false := decide_eq_false (by omega)
    have k48 : decide ((c.toNat : Int) ≥ 48) = true := decide_eq_true (by omega)
    have k57 : decide ((c.toNat : Int) ≤ 57) = false := decide_eq_false (by omega)
    go_enter Try.func64, Try.ntmps64
    go_wp2
    go_ret
    exact ⟨by rw [HS.out]; rfl, rfl⟩
set_option maxHeartbeats 1000000 in
theorem letter_any : ByteFn 39 codeB := by
  intro c w
  have hb := c.toNat_lt
  rcases (show (c.toNat < 48) ∨ (48 ≤ c.toNat ∧ c.toNat ≤ 57) ∨ (58 ≤ c.toNat ∧ c.toNat ≤ 64) ∨ (65 ≤ c.toNat ∧ c.toNat ≤ 90) ∨ (91 ≤ c.toNat ∧ c.toNat ≤ 96) ∨ (97 ≤ c.toNat ∧ c.toNat ≤ 122) ∨ (123 ≤ c.toNat) by omega) with h | h | h | h | h | h | h
  · have HS := Lib.hid (show codeB c = false by unfold codeB inB; simp; omega)
    have k65 : decide ((c.toNat : Int) ≥ 65) = false := decide_eq_false (by omega)
    have k90 : decide ((c.toNat : Int) ≤ 90) = true := decide_eq_true (by omega)
    have k97 : decide ((c.toNat : Int) ≥ 97) = false := decide_eq_false (by omega)
    have k122 : decide ((c.toNat : Int) ≤ 122) = true := decide_eq_true (by omega)
    have k48 : decide ((c.toNat : Int) ≥ 48) = false := decide_eq_false (by omega)
    have k57 : decide ((c.toNat : Int) ≤ 57) = true := decide_eq_true (by omega)
    go_enter Try.func39, Try.ntmps39
    go_wp2
    go_ret
    exact ⟨by rw [HS.out]; rfl, rfl⟩
  · have HS := Lib.hid (show codeB c = true by unfold codeB inB; simp; omega)
    have k65 : decide ((c.toNat : Int) ≥ 65) = false := decide_eq_false (by omega)
    have k90 : decide ((c.toNat : Int) ≤ 90) = true := decide_eq_true (by omega)
    have k97 : decide ((c.toNat : Int) ≥ 97) = false := decide_eq_false (by omega)
    have k122 : decide ((c.toNat : Int) ≤ 122) = true := decide_eq_true (by omega)
    have k48 : decide ((c.toNat : Int) ≥ 48) = true := decide_eq_true (by omega)
    have k57 : decide ((c.toNat : Int) ≤ 57) = true := decide_eq_true (by omega)
    go_enter Try.func39, Try.ntmps39
    go_wp2
    go_ret
    exact ⟨by rw [HS.out]; rfl, rfl⟩
  · have HS := Lib.hid (show codeB c = false by unfold codeB inB; simp; omega)
    have k65 : decide ((c.toNat : Int) ≥ 65) = false := decide_eq_false (by omega)
    have k90 : decide ((c.toNat : Int) ≤ 90) = true := decide_eq_true (by omega)
    have k97 : decide ((c.toNat : Int) ≥ 97) = false := decide_eq_false (by omega)
    have k122 : decide ((c.toNat : Int) ≤ 122) = true := decide_eq_true (by omega)
    have k48 : decide ((c.toNat : Int) ≥ 48) = true := decide_eq_true (by omega)
    have k57 : decide ((c.toNat : Int) ≤ 57) = false := decide_eq_false (by omega)
    go_enter Try.func39, Try.ntmps39
    go_wp2
    go_ret
    exact ⟨by rw [HS.out]; rfl, rfl⟩
  · have HS := Lib.hid (show codeB c = true by unfold codeB inB; simp; omega)
    have k65 : decide ((c.toNat : Int) ≥ 65) = true := decide_eq_true (by omega)
    have k90 : decide ((c.toNat : Int) ≤ 90) = true := decide_eq_true (by omega)
    have k97 : decide ((c.toNat : Int) ≥ 97) = false := decide_eq_false (by omega)
    have k122 : decide ((c.toNat : Int) ≤ 122) = true := decide_eq_true (by omega)
    have k48 : decide ((c.toNat : Int) ≥ 48) = true := decide_eq_true (by omega)
    have k57 : decide ((c.toNat : Int) ≤ 57) = false := decide_eq_false (by omega)
    go_enter Try.func39, Try.ntmps39
    go_wp2
    go_ret
    exact ⟨by rw [HS.out]; rfl, rfl⟩
  · have HS := Lib.hid (show codeB c = false by unfold codeB inB; simp; omega)
    have k65 : decide ((c.toNat : Int) ≥ 65) = true := decide_eq_true (by omega)
    have k90 : decide ((c.toNat : Int) ≤ 90) = false := decide_eq_false (by omega)
    have k97 : decide ((c.toNat : Int) ≥ 97) = false := decide_eq_false (by omega)
    have k122 : decide ((c.toNat : Int) ≤ 122) = true := decide_eq_true (by omega)
    have k48 : decide ((c.toNat : Int) ≥ 48) = true := decide_eq_true (by omega)
    have k57 : decide ((c.toNat : Int) ≤ 57) = false := decide_eq_false (by omega)
    go_enter Try.func39, Try.ntmps39
    go_wp2
    go_ret
    exact ⟨by rw [HS.out]; rfl, rfl⟩
  · have HS := Lib.hid (show codeB c = true by unfold codeB inB; simp; omega)
    have k65 : decide ((c.toNat : Int) ≥ 65) = true := decide_eq_true (by omega)
    have k90 : decide ((c.toNat : Int) ≤ 90) = false := decide_eq_false (by omega)
    have k97 : decide ((c.toNat : Int) ≥ 97) = true := decide_eq_true (by omega)
    have k122 : decide ((c.toNat : Int) ≤ 122) = true := decide_eq_true (by omega)
    have k48 : decide ((c.toNat : Int) ≥ 48) = true := decide_eq_true (by omega)
    have k57 : decide ((c.toNat : Int) ≤ 57) = false := decide_eq_false (by omega)
    go_enter Try.func39, Try.ntmps39
    go_wp2
    go_ret
    exact ⟨by rw [HS.out]; rfl, rfl⟩
  · have HS := Lib.hid (show codeB c = false by unfold codeB inB; simp; omega)
    have k65 : decide ((c.toNat : Int) ≥ 65) = true := decide_eq_true (by omega)
    have k90 : decide ((c.toNat : Int) ≤ 90) = false := decide_eq_false (by omega)
    have k97 : decide ((c.toNat : Int) ≥ 97) = true := decide_eq_true (by omega)
    have k122 : decide ((c.toNat : Int) ≤ 122) = false := decide_eq_false (by omega)
    have k48 : decide ((c.toNat : Int) ≥ 48) = true := decide_eq_true (by omega)
    have k57 : decide ((c.toNat : Int) ≤ 57) = false := decide_eq_false (by omega)
    go_enter Try.func39, Try.ntmps39
    go_wp2
    go_ret
    exact ⟨by rw [HS.out]; rfl, rfl⟩
end Go.Proofs.Ytccglojnjakbfaa
