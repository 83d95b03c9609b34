/- Contracts of layer 4: the checks of names, federations, codes, bibs and titles. -/
import Derived.Test.YtlleebgkglbelaaAll
set_option linter.unusedSimpArgs false
set_option linter.unusedVariables false
namespace Go.Proofs.Ytlleebgkglbelaa
open Go.RowKit

def firstB (p : UInt8 → Bool) (s : ByteArray) : Bool := if h : 0 < s.size then p (s[0]'h) else false
def nameS (s : ByteArray) : Bool := (decide (1 ≤ s.size ∧ s.size ≤ 16) && firstB (inB 97 122) s) && allB nameB s
def fedS (s : ByteArray) : Bool := decide (s.size = 3) && allB (inB 65 90) s
def codeS (s : ByteArray) : Bool := (decide (1 ≤ s.size ∧ s.size ≤ 8) && !allB (inB 48 57) s) && allB codeB s
def bibS (n : Int) : Bool := decide (1 ≤ n ∧ n ≤ 9999)
def blankAt (s : ByteArray) (k : Nat) : Bool := if h : k < s.size then s[k]'h == 32 else false
def titleS (s : ByteArray) : Bool := (decide (1 ≤ s.size ∧ s.size ≤ 40) && (!blankAt s 0 && !blankAt s (s.size - 1))) && allB titleB s

theorem byteFn_code : ByteFn 71 codeB := fun c w => code1_any c w
theorem byteFn_upper : ByteFn 73 (inB 65 90) := fun c w => upper_any c w
theorem byteFn_digit : ByteFn 70 (inB 48 57) := fun c w => digit_any c w
theorem all_code (s : ByteArray) (hs : s.size ≤ 9223372036854775807) (w : World) : Calls Try.prog 69 #[.string s, .func (.func 71) #[] #[]] w fun e w' => e = .returned (.bool (allB codeB s)) ∧ w = w' :=
  all_any _ _ byteFn_code (fun _ _ => by kernel_rfl) s hs w
theorem all_upper (s : ByteArray) (hs : s.size ≤ 9223372036854775807) (w : World) : Calls Try.prog 69 #[.string s, .func (.func 73) #[] #[]] w fun e w' => e = .returned (.bool (allB (inB 65 90) s)) ∧ w = w' :=
  all_any _ _ byteFn_upper (fun _ _ => by kernel_rfl) s hs w
theorem all_digit (s : ByteArray) (hs : s.size ≤ 9223372036854775807) (w : World) (b : Bool) (h : allB (inB 48 57) s = b) : Calls Try.prog 69 #[.string s, .func (.func 70) #[] #[]] w fun e w' => e = .returned (.bool b) ∧ w = w' := by
  subst h; exact all_any _ _ byteFn_digit (fun _ _ => by kernel_rfl) s hs w

set_option maxHeartbeats 400000 in
set_option maxRecDepth 100000 in
theorem code_any (s : ByteArray) (hs : s.size ≤ 9223372036854775807) (w : World) : Calls Try.prog 54 #[.string s] w fun e w' => e = .returned (.bool (codeS s)) ∧ w = w' := by
  by_cases h1 : s.size < 1
  · have HS := Lib.hid (show codeS s = false by unfold codeS; simp; omega)
    have k1 : decide ((s.size : Int) < 1) = true := by simp; omega
    go_enter Try.func54, Try.ntmps54
    go_wp2
    go_ret
    exact ⟨by rw [HS.out]; rfl, rfl⟩
  · have k1 : decide ((s.size : Int) < 1) = false := by simp; omega
    by_cases h2 : 8 < s.size
    · have HS := Lib.hid (show codeS s = false by unfold codeS; simp; omega)
      have k2 : decide ((s.size : Int) > 8) = true := by simp; omega
      go_enter Try.func54, Try.ntmps54
      go_wp2
      go_ret
      exact ⟨by rw [HS.out]; rfl, rfl⟩
    · have k2 : decide ((s.size : Int) > 8) = false := by simp; omega
      cases hl : allB (inB 48 57) s with
      | true =>
        have HS := Lib.hid (show codeS s = false by unfold codeS; rw [hl]; simp)
        have HL := Lib.hid hl
        clear hl
        go_enter Try.func54, Try.ntmps54
        go_wp2_with fail
        refine (all_digit s hs _ true HL.out).mono ?_
        rintro e w1 ⟨rfl, rfl⟩
        go_wp2
        go_ret
        exact ⟨by rw [HS.out]; rfl, rfl⟩
      | false =>
        have HS := Lib.hid (show codeS s = allB codeB s by unfold codeS; rw [hl]; simp; omega)
        have HL := Lib.hid hl
        clear hl
        go_enter Try.func54, Try.ntmps54
        go_wp2_with fail
        refine (all_digit s hs _ false HL.out).mono ?_
        rintro e w1 ⟨rfl, rfl⟩
        go_wp2_with fail
        refine (all_code s hs _).mono ?_
        rintro e w1 ⟨rfl, rfl⟩
        go_wp2
        go_ret
        exact ⟨by rw [HS.out]; rfl, rfl⟩

end Go.Proofs.Ytlleebgkglbelaa
