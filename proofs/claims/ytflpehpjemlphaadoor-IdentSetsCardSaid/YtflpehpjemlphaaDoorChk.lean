/- Contracts of layer 4: the checks of names, federations, codes, bibs and titles. -/
import Derived.Test.YtflpehpjemlphaaDoorAll
set_option linter.unusedSimpArgs false
set_option linter.unusedVariables false
namespace Go.Proofs.YtflpehpjemlphaaDoor
open Go.RowKit

def firstB (p : UInt8 → Bool) (s : ByteArray) : Bool := if h : 0 < s.size then p (s[0]'h) else false
def nameS (s : ByteArray) : Bool := (decide (1 ≤ s.size ∧ s.size ≤ 16) && firstB (inB 97 122) s) && allB nameB s
def fedS (s : ByteArray) : Bool := decide (s.size = 3) && allB (inB 65 90) s
def codeS (s : ByteArray) : Bool := (decide (1 ≤ s.size ∧ s.size ≤ 8) && !allB (inB 48 57) s) && allB codeB s
def bibS (n : Int) : Bool := decide (1 ≤ n ∧ n ≤ 9999)
def blankAt (s : ByteArray) (k : Nat) : Bool := if h : k < s.size then s[k]'h == 32 else false
def titleS (s : ByteArray) : Bool := (decide (1 ≤ s.size ∧ s.size ≤ 40) && (!blankAt s 0 && !blankAt s (s.size - 1))) && allB titleB s

theorem byteFn_name : ByteFn 36 nameB := fun c w => name1_any c w
theorem byteFn_code : ByteFn 38 codeB := fun c w => code1_any c w
theorem byteFn_title : ByteFn 40 titleB := fun c w => title1_any c w
theorem byteFn_upper : ByteFn 39 (inB 65 90) := fun c w => upper_any c w
theorem byteFn_digit : ByteFn 37 (inB 48 57) := fun c w => digit_any c w
theorem all_name (s : ByteArray) (hs : s.size ≤ 9223372036854775807) (w : World) : Calls Tryd.prog 35 #[.string s, .func (.func 36) #[] #[]] w fun e w' => e = .returned (.bool (allB nameB s)) ∧ w = w' :=
  all_any _ _ byteFn_name (fun _ _ => by kernel_rfl) s hs w
theorem all_code (s : ByteArray) (hs : s.size ≤ 9223372036854775807) (w : World) : Calls Tryd.prog 35 #[.string s, .func (.func 38) #[] #[]] w fun e w' => e = .returned (.bool (allB codeB s)) ∧ w = w' :=
  all_any _ _ byteFn_code (fun _ _ => by kernel_rfl) s hs w
theorem all_title (s : ByteArray) (hs : s.size ≤ 9223372036854775807) (w : World) : Calls Tryd.prog 35 #[.string s, .func (.func 40) #[] #[]] w fun e w' => e = .returned (.bool (allB titleB s)) ∧ w = w' :=
  all_any _ _ byteFn_title (fun _ _ => by kernel_rfl) s hs w
theorem all_upper (s : ByteArray) (hs : s.size ≤ 9223372036854775807) (w : World) : Calls Tryd.prog 35 #[.string s, .func (.func 39) #[] #[]] w fun e w' => e = .returned (.bool (allB (inB 65 90) s)) ∧ w = w' :=
  all_any _ _ byteFn_upper (fun _ _ => by kernel_rfl) s hs w
theorem all_digit (s : ByteArray) (hs : s.size ≤ 9223372036854775807) (w : World) (b : Bool) (h : allB (inB 48 57) s = b) : Calls Tryd.prog 35 #[.string s, .func (.func 37) #[] #[]] w fun e w' => e = .returned (.bool b) ∧ w = w' := by
  subst h; exact all_any _ _ byteFn_digit (fun _ _ => by kernel_rfl) s hs w

set_option maxHeartbeats 400000 in
set_option maxRecDepth 100000 in
theorem name_any (s : ByteArray) (hs : s.size ≤ 9223372036854775807) (w : World) : Calls Tryd.prog 20 #[.string s] w fun e w' => e = .returned (.bool (nameS s)) ∧ w = w' := by
  by_cases h1 : s.size < 1
  · have HS := Lib.hid (show nameS s = false by unfold nameS; simp; omega)
    have k1 : decide ((s.size : Int) < 1) = true := by simp; omega
    go_enter Tryd.func20, Tryd.ntmps20
    go_wp2
    go_ret
    exact ⟨by rw [HS.out]; rfl, rfl⟩
  · have k1 : decide ((s.size : Int) < 1) = false := by simp; omega
    by_cases h2 : 16 < s.size
    · have HS := Lib.hid (show nameS s = false by unfold nameS; simp; omega)
      have k2 : decide ((s.size : Int) > 16) = true := by simp; omega
      go_enter Tryd.func20, Tryd.ntmps20
      go_wp2
      go_ret
      exact ⟨by rw [HS.out]; rfl, rfl⟩
    · have k2 : decide ((s.size : Int) > 16) = false := by simp; omega
      have h0 : 0 < s.size := by omega
      have e0 : firstB (inB 97 122) s = inB 97 122 (s[0]'h0) := dif_pos h0
      cases hl : inB 97 122 (s[0]'h0) with
      | false =>
        have HS := Lib.hid (show nameS s = false by unfold nameS; rw [e0, hl]; simp)
        have HL := Lib.hid hl
        clear hl e0
        go_enter Tryd.func20, Tryd.ntmps20
        go_wp2_with fail
        refine (lower_is _ _ false HL.out).mono ?_
        rintro e w1 ⟨rfl, rfl⟩
        go_wp2
        go_ret
        exact ⟨by rw [HS.out]; rfl, rfl⟩
      | true =>
        have HS := Lib.hid (show nameS s = allB nameB s by unfold nameS; rw [e0, hl]; simp; omega)
        have HL := Lib.hid hl
        clear hl e0
        go_enter Tryd.func20, Tryd.ntmps20
        go_wp2_with fail
        refine (lower_is _ _ true HL.out).mono ?_
        rintro e w1 ⟨rfl, rfl⟩
        go_wp2_with fail
        refine (all_name s hs _).mono ?_
        rintro e w1 ⟨rfl, rfl⟩
        go_wp2
        go_ret
        exact ⟨by rw [HS.out]; rfl, rfl⟩

set_option maxHeartbeats 400000 in
set_option maxRecDepth 100000 in
theorem fed_any (s : ByteArray) (hs : s.size ≤ 9223372036854775807) (w : World) : Calls Tryd.prog 23 #[.string s] w fun e w' => e = .returned (.bool (fedS s)) ∧ w = w' := by
  by_cases h1 : s.size = 3
  · have HS := Lib.hid (show fedS s = allB (inB 65 90) s by unfold fedS; simp [h1])
    have k1 : ((s.size : Int) == 3) = true := by simp; omega
    clear h1
    go_enter Tryd.func23, Tryd.ntmps23
    go_wp2_with fail
    refine (all_upper s hs _).mono ?_
    rintro e w1 ⟨rfl, rfl⟩
    go_wp2
    go_ret
    exact ⟨by rw [HS.out]; rfl, rfl⟩
  · have HS := Lib.hid (show fedS s = false by unfold fedS; simp [h1])
    have k1 : ((s.size : Int) == 3) = false := by simp; omega
    clear h1
    go_enter Tryd.func23, Tryd.ntmps23
    go_wp2
    go_ret
    exact ⟨by rw [HS.out]; rfl, rfl⟩

set_option maxHeartbeats 400000 in
set_option maxRecDepth 100000 in
theorem code_any (s : ByteArray) (hs : s.size ≤ 9223372036854775807) (w : World) : Calls Tryd.prog 21 #[.string s] w fun e w' => e = .returned (.bool (codeS s)) ∧ w = w' := by
  by_cases h1 : s.size < 1
  · have HS := Lib.hid (show codeS s = false by unfold codeS; simp; omega)
    have k1 : decide ((s.size : Int) < 1) = true := by simp; omega
    go_enter Tryd.func21, Tryd.ntmps21
    go_wp2
    go_ret
    exact ⟨by rw [HS.out]; rfl, rfl⟩
  · have k1 : decide ((s.size : Int) < 1) = false := by simp; omega
    by_cases h2 : 8 < s.size
    · have HS := Lib.hid (show codeS s = false by unfold codeS; simp; omega)
      have k2 : decide ((s.size : Int) > 8) = true := by simp; omega
      go_enter Tryd.func21, Tryd.ntmps21
      go_wp2
      go_ret
      exact ⟨by rw [HS.out]; rfl, rfl⟩
    · have k2 : decide ((s.size : Int) > 8) = false := by simp; omega
      cases hl : allB (inB 48 57) s with
      | true =>
        have HS := Lib.hid (show codeS s = false by unfold codeS; rw [hl]; simp)
        have HL := Lib.hid hl
        clear hl
        go_enter Tryd.func21, Tryd.ntmps21
        go_wp2_with fail
        refine (all_digit s hs _ true HL.out).mono ?_
        rintro e w1 ⟨rfl, rfl⟩
        go_wp2
        go_ret
        exact ⟨by rw [HS.out]; rfl, rfl⟩
      | false =>
        have HS := Lib.hid (show codeS s = allB codeB s by unfold codeS; rw [hl]; simp; omega)
        have HL := Lib.hid hl
        clear hl
        go_enter Tryd.func21, Tryd.ntmps21
        go_wp2_with fail
        refine (all_digit s hs _ false HL.out).mono ?_
        rintro e w1 ⟨rfl, rfl⟩
        go_wp2_with fail
        refine (all_code s hs _).mono ?_
        rintro e w1 ⟨rfl, rfl⟩
        go_wp2
        go_ret
        exact ⟨by rw [HS.out]; rfl, rfl⟩

set_option maxHeartbeats 400000 in
set_option maxRecDepth 100000 in
theorem title_any (s : ByteArray) (hs : s.size ≤ 9223372036854775807) (w : World) : Calls Tryd.prog 22 #[.string s] w fun e w' => e = .returned (.bool (titleS s)) ∧ w = w' := by
  by_cases h1 : s.size < 1
  · have HS := Lib.hid (show titleS s = false by unfold titleS; simp; omega)
    have k1 : decide ((s.size : Int) < 1) = true := by simp; omega
    go_enter Tryd.func22, Tryd.ntmps22
    go_wp2
    go_ret
    exact ⟨by rw [HS.out]; rfl, rfl⟩
  · have k1 : decide ((s.size : Int) < 1) = false := by simp; omega
    by_cases h2 : 40 < s.size
    · have HS := Lib.hid (show titleS s = false by unfold titleS; simp; omega)
      have k2 : decide ((s.size : Int) > 40) = true := by simp; omega
      go_enter Tryd.func22, Tryd.ntmps22
      go_wp2
      go_ret
      exact ⟨by rw [HS.out]; rfl, rfl⟩
    · have k2 : decide ((s.size : Int) > 40) = false := by simp; omega
      have h0 : 0 < s.size := by omega
      have e0 : blankAt s 0 = (s[0]'h0 == 32) := dif_pos h0
      cases hl : (s[0]'h0 == 32) with
      | true =>
        have HS := Lib.hid (show titleS s = false by unfold titleS; rw [e0, hl]; simp)
        rw [eq32] at hl
        clear e0
        go_enter Tryd.func22, Tryd.ntmps22
        go_wp2
        go_ret
        exact ⟨by rw [HS.out]; rfl, rfl⟩
      | false =>
        have hL : s.size - 1 < s.size := by omega
        have e1 : blankAt s (s.size - 1) = (s[s.size - 1]'hL == 32) := dif_pos hL
        cases hm : (s[s.size - 1]'hL == 32) with
        | true =>
          have HS := Lib.hid (show titleS s = false by unfold titleS; rw [e1, hm]; simp)
          rw [eq32] at hl hm
          clear e0 e1
          go_enter Tryd.func22, Tryd.ntmps22
          go_wp2
          go_ret
          exact ⟨by rw [HS.out]; rfl, rfl⟩
        | false =>
          have HS := Lib.hid (show titleS s = allB titleB s by unfold titleS; rw [e0, e1, hl, hm]; simp; omega)
          rw [eq32] at hl hm
          clear e0 e1
          go_enter Tryd.func22, Tryd.ntmps22
          go_wp2_with fail
          refine (all_title s hs _).mono ?_
          rintro e w1 ⟨rfl, rfl⟩
          go_wp2
          go_ret
          exact ⟨by rw [HS.out]; rfl, rfl⟩

set_option maxHeartbeats 400000 in
theorem bib_any (n : Int) (w : World) : Calls Tryd.prog 24 #[.int .i64 n] w fun e w' => e = .returned (.bool (bibS n)) ∧ w = w' := by
  by_cases h1 : 1 ≤ n
  · have k1 : decide (n ≥ 1) = true := by simp; omega
    by_cases h2 : n ≤ 9999
    · have HS := Lib.hid (show bibS n = true by unfold bibS; simp; omega)
      have k2 : decide (n ≤ 9999) = true := by simp; omega
      go_enter Tryd.func24, Tryd.ntmps24
      go_wp2
      go_ret
      exact ⟨by rw [HS.out]; rfl, rfl⟩
    · have HS := Lib.hid (show bibS n = false by unfold bibS; simp; omega)
      have k2 : decide (n ≤ 9999) = false := by simp; omega
      go_enter Tryd.func24, Tryd.ntmps24
      go_wp2
      go_ret
      exact ⟨by rw [HS.out]; rfl, rfl⟩
  · have HS := Lib.hid (show bibS n = false by unfold bibS; simp; omega)
    have k1 : decide (n ≥ 1) = false := by simp; omega
    go_enter Tryd.func24, Tryd.ntmps24
    go_wp2
    go_ret
    exact ⟨by rw [HS.out]; rfl, rfl⟩
end Go.Proofs.YtflpehpjemlphaaDoor
