/- Contracts of layer 4: tests of single bytes. -/
import Derived.Test.YtlleebgkglbelaaBase
set_option linter.unusedSimpArgs false
set_option linter.unusedVariables false
namespace Go.Proofs.Ytlleebgkglbelaa
open Go.RowKit

def inB (a b : Int) (c : UInt8) : Bool := decide (a ≤ (c.toNat : Int)) && decide ((c.toNat : Int) ≤ b)
def lowB : UInt8 → Bool := inB 97 122
def upB : UInt8 → Bool := inB 65 90
def nameB (c : UInt8) : Bool := (inB 97 122 c || inB 48 57 c) || c == 95
def codeB (c : UInt8) : Bool := (inB 97 122 c || inB 65 90 c) || inB 48 57 c
def titleB (c : UInt8) : Bool := inB 32 126 c && c != 34
theorem u8_eq (c : UInt8) (k : Nat) (hk : k < 256) : (c == UInt8.ofNat k) = ((c.toNat : Int) == (k : Int)) := by
  rw [Bool.eq_iff_iff]
  simp only [beq_iff_eq]
  constructor
  · rintro rfl
    have : (UInt8.ofNat k).toNat = k := by rw [UInt8.toNat_ofNat']; omega
    rw [this]
  · intro h
    apply UInt8.toNat.inj
    rw [UInt8.toNat_ofNat']
    omega
theorem eq95 (c : UInt8) : (c == 95) = ((c.toNat : Int) == 95) := u8_eq c 95 (by decide)
theorem eq34 (c : UInt8) : (c == 34) = ((c.toNat : Int) == 34) := u8_eq c 34 (by decide)
theorem eq32 (c : UInt8) : (c == 32) = ((c.toNat : Int) == 32) := u8_eq c 32 (by decide)

set_option maxHeartbeats 400000 in
theorem lower_any (c : UInt8) (w : World) : Calls Try.prog 72 #[.int .u8 (c.toNat : Int)] w fun e w' => e = .returned (.bool (inB 97 122 c)) ∧ w = w' := by
  have hb := c.toNat_lt
  by_cases h1 : (97 : Int) ≤ (c.toNat : Int)
  · have k1 : decide ((c.toNat : Int) ≥ 97) = true := by simp; omega
    by_cases h2 : (c.toNat : Int) ≤ 122
    · have k2 : decide ((c.toNat : Int) ≤ 122) = true := by simp; omega
      have HS := Lib.hid (show inB 97 122 c = true by unfold inB; simp; omega)
      go_enter Try.func72, Try.ntmps72
      go_wp2
      go_ret
      exact ⟨by rw [HS.out]; rfl, rfl⟩
    · have k2 : decide ((c.toNat : Int) ≤ 122) = false := by simp; omega
      have HS := Lib.hid (show inB 97 122 c = false by unfold inB; simp; omega)
      go_enter Try.func72, Try.ntmps72
      go_wp2
      go_ret
      exact ⟨by rw [HS.out]; rfl, rfl⟩
  · have k1 : decide ((c.toNat : Int) ≥ 97) = false := by simp; omega
    have HS := Lib.hid (show inB 97 122 c = false by unfold inB; simp; omega)
    go_enter Try.func72, Try.ntmps72
    go_wp2
    go_ret
    exact ⟨by rw [HS.out]; rfl, rfl⟩
theorem lower_is (c : UInt8) (w : World) (b : Bool) (h : inB 97 122 c = b) : Calls Try.prog 72 #[.int .u8 (c.toNat : Int)] w fun e w' => e = .returned (.bool b) ∧ w = w' := by
  subst h; exact lower_any c w

set_option maxHeartbeats 400000 in
theorem upper_any (c : UInt8) (w : World) : Calls Try.prog 73 #[.int .u8 (c.toNat : Int)] w fun e w' => e = .returned (.bool (inB 65 90 c)) ∧ w = w' := by
  have hb := c.toNat_lt
  by_cases h1 : (65 : Int) ≤ (c.toNat : Int)
  · have k1 : decide ((c.toNat : Int) ≥ 65) = true := by simp; omega
    by_cases h2 : (c.toNat : Int) ≤ 90
    · have k2 : decide ((c.toNat : Int) ≤ 90) = true := by simp; omega
      have HS := Lib.hid (show inB 65 90 c = true by unfold inB; simp; omega)
      go_enter Try.func73, Try.ntmps73
      go_wp2
      go_ret
      exact ⟨by rw [HS.out]; rfl, rfl⟩
    · have k2 : decide ((c.toNat : Int) ≤ 90) = false := by simp; omega
      have HS := Lib.hid (show inB 65 90 c = false by unfold inB; simp; omega)
      go_enter Try.func73, Try.ntmps73
      go_wp2
      go_ret
      exact ⟨by rw [HS.out]; rfl, rfl⟩
  · have k1 : decide ((c.toNat : Int) ≥ 65) = false := by simp; omega
    have HS := Lib.hid (show inB 65 90 c = false by unfold inB; simp; omega)
    go_enter Try.func73, Try.ntmps73
    go_wp2
    go_ret
    exact ⟨by rw [HS.out]; rfl, rfl⟩
theorem upper_is (c : UInt8) (w : World) (b : Bool) (h : inB 65 90 c = b) : Calls Try.prog 73 #[.int .u8 (c.toNat : Int)] w fun e w' => e = .returned (.bool b) ∧ w = w' := by
  subst h; exact upper_any c w

set_option maxHeartbeats 400000 in
theorem digit_any (c : UInt8) (w : World) : Calls Try.prog 70 #[.int .u8 (c.toNat : Int)] w fun e w' => e = .returned (.bool (inB 48 57 c)) ∧ w = w' := by
  have hb := c.toNat_lt
  by_cases h1 : (48 : Int) ≤ (c.toNat : Int)
  · have k1 : decide ((c.toNat : Int) ≥ 48) = true := by simp; omega
    by_cases h2 : (c.toNat : Int) ≤ 57
    · have k2 : decide ((c.toNat : Int) ≤ 57) = true := by simp; omega
      have HS := Lib.hid (show inB 48 57 c = true by unfold inB; simp; omega)
      go_enter Try.func70, Try.ntmps70
      go_wp2
      go_ret
      exact ⟨by rw [HS.out]; rfl, rfl⟩
    · have k2 : decide ((c.toNat : Int) ≤ 57) = false := by simp; omega
      have HS := Lib.hid (show inB 48 57 c = false by unfold inB; simp; omega)
      go_enter Try.func70, Try.ntmps70
      go_wp2
      go_ret
      exact ⟨by rw [HS.out]; rfl, rfl⟩
  · have k1 : decide ((c.toNat : Int) ≥ 48) = false := by simp; omega
    have HS := Lib.hid (show inB 48 57 c = false by unfold inB; simp; omega)
    go_enter Try.func70, Try.ntmps70
    go_wp2
    go_ret
    exact ⟨by rw [HS.out]; rfl, rfl⟩
theorem digit_is (c : UInt8) (w : World) (b : Bool) (h : inB 48 57 c = b) : Calls Try.prog 70 #[.int .u8 (c.toNat : Int)] w fun e w' => e = .returned (.bool b) ∧ w = w' := by
  subst h; exact digit_any c w

set_option maxHeartbeats 400000 in
theorem within_any (c : UInt8) (lo hi : Int) (w : World) : Calls Try.prog 63 #[.int .u8 (c.toNat : Int), .int .u8 lo, .int .u8 hi] w fun e w' => e = .returned (.bool (inB lo hi c)) ∧ w = w' := by
  have hb := c.toNat_lt
  by_cases h1 : (lo : Int) ≤ (c.toNat : Int)
  · have k1 : decide ((c.toNat : Int) ≥ lo) = true := by simp; omega
    by_cases h2 : (c.toNat : Int) ≤ hi
    · have k2 : decide ((c.toNat : Int) ≤ hi) = true := by simp; omega
      have HS := Lib.hid (show inB lo hi c = true by unfold inB; simp; omega)
      go_enter Try.func63, Try.ntmps63
      go_wp2
      go_ret
      exact ⟨by rw [HS.out]; rfl, rfl⟩
    · have k2 : decide ((c.toNat : Int) ≤ hi) = false := by simp; omega
      have HS := Lib.hid (show inB lo hi c = false by unfold inB; simp; omega)
      go_enter Try.func63, Try.ntmps63
      go_wp2
      go_ret
      exact ⟨by rw [HS.out]; rfl, rfl⟩
  · have k1 : decide ((c.toNat : Int) ≥ lo) = false := by simp; omega
    have HS := Lib.hid (show inB lo hi c = false by unfold inB; simp; omega)
    go_enter Try.func63, Try.ntmps63
    go_wp2
    go_ret
    exact ⟨by rw [HS.out]; rfl, rfl⟩
theorem within_is (c : UInt8) (lo hi : Int) (w : World) (b : Bool) (h : inB lo hi c = b) : Calls Try.prog 63 #[.int .u8 (c.toNat : Int), .int .u8 lo, .int .u8 hi] w fun e w' => e = .returned (.bool b) ∧ w = w' := by
  subst h; exact within_any c lo hi w

set_option maxHeartbeats 400000 in
theorem rdigit_any (c : UInt8) (w : World) : Calls Try.prog 64 #[.int .u8 (c.toNat : Int)] w fun e w' => e = .returned (.bool (inB 48 57 c)) ∧ w = w' := by
  go_enter Try.func64, Try.ntmps64
  go_wp2_with fail
  refine (within_any c 48 57 _).mono ?_
  rintro e w1 ⟨rfl, rfl⟩
  go_wp2
  go_ret
  exact ⟨rfl, rfl⟩
theorem rdigit_is (c : UInt8) (w : World) (b : Bool) (h : inB 48 57 c = b) : Calls Try.prog 64 #[.int .u8 (c.toNat : Int)] w fun e w' => e = .returned (.bool b) ∧ w = w' := by
  subst h; exact rdigit_any c w

set_option maxHeartbeats 400000 in
theorem code1_any (c : UInt8) (w : World) : Calls Try.prog 71 #[.int .u8 (c.toNat : Int)] w fun e w' => e = .returned (.bool (codeB c)) ∧ w = w' := by
  have hb := c.toNat_lt
  unfold codeB
  cases h1 : inB 97 122 c with
  | true =>
    have H1 := Lib.hid h1
    clear h1
    go_enter Try.func71, Try.ntmps71
    go_wp2_with fail
    refine (lower_is c _ true H1.out).mono ?_
    rintro e w1 ⟨rfl, rfl⟩
    go_wp2
    go_ret
    exact ⟨rfl, rfl⟩
  | false =>
    have H1 := Lib.hid h1
    clear h1
    cases h2 : inB 65 90 c with
    | true =>
      have H2 := Lib.hid h2
      clear h2
      go_enter Try.func71, Try.ntmps71
      go_wp2_with fail
      refine (lower_is c _ false H1.out).mono ?_
      rintro e w1 ⟨rfl, rfl⟩
      go_wp2_with fail
      refine (upper_is c _ true H2.out).mono ?_
      rintro e w1 ⟨rfl, rfl⟩
      go_wp2
      go_ret
      exact ⟨rfl, rfl⟩
    | false =>
      have H2 := Lib.hid h2
      clear h2
      go_enter Try.func71, Try.ntmps71
      go_wp2_with fail
      refine (lower_is c _ false H1.out).mono ?_
      rintro e w1 ⟨rfl, rfl⟩
      go_wp2_with fail
      refine (upper_is c _ false H2.out).mono ?_
      rintro e w1 ⟨rfl, rfl⟩
      go_wp2_with fail
      refine (digit_any c _).mono ?_
      rintro e w1 ⟨rfl, rfl⟩
      go_wp2
      go_ret
      exact ⟨by simp, rfl⟩

end Go.Proofs.Ytlleebgkglbelaa
