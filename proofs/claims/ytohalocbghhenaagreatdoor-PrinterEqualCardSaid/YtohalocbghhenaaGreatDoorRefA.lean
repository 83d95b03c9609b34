/- Contracts of layer 9's reference: letter, digit, run, sign, has, digits. -/
import Derived.Test.YtohalocbghhenaaGreatDoorTit
set_option linter.unusedSimpArgs false
set_option linter.unusedVariables false
namespace Go.Proofs.YtohalocbghhenaaGreatDoor
open Go.RowKit

theorem let_num (c : UInt8) : letB c = ((decide (65 ≤ c.toNat) && decide (c.toNat ≤ 90)) || (decide (97 ≤ c.toNat) && decide (c.toNat ≤ 122))) :=
  eq_of_beq (all_u8 (P := fun c => letB c == ((decide (65 ≤ c.toNat) && decide (c.toNat ≤ 90)) || (decide (97 ≤ c.toNat) && decide (c.toNat ≤ 122)))) (by decide +kernel) c)
theorem run_parts (c : UInt8) : runB c = (letB c || digB c || (c == 95) || (c == 46)) :=
  eq_of_beq (all_u8 (P := fun c => runB c == (letB c || digB c || (c == 95) || (c == 46))) (by decide +kernel) c)
set_option maxHeartbeats 1000000 in
theorem rlet_any (c : UInt8) (w : World) : Calls Tryz.prog 110 #[.int .u8 (c.toNat : Int)] w fun e w' => e = .returned (.bool (letB c)) ∧ w = w' := by
  have HL := Lib.hid (let_num c)
  have hb := c.toNat_lt
  obtain ⟨n, hn⟩ : ∃ n, c.toNat = n := ⟨_, rfl⟩
  generalize letB c = r at *
  rw [hn] at HL hb ⊢
  clear hn
  rcases (show n < 65 ∨ (65 ≤ n ∧ n ≤ 90) ∨ (91 ≤ n ∧ n ≤ 96) ∨ (97 ≤ n ∧ n ≤ 122) ∨ 123 ≤ n by omega) with h | h | h | h | h
  · have hr : r = false := by rw [HL.out]; simp; omega
    have d1 : decide ((n : Int) ≥ 65) = false := decide_eq_false (by omega)
    have d2 : decide ((n : Int) ≥ 97) = false := decide_eq_false (by omega)
    subst hr
    clear HL
    go_enter Tryz.func110, Tryz.ntmps110
    go_wp2_with fail
    go_ret
    exact ⟨rfl, rfl⟩
  · have hr : r = true := by rw [HL.out]; simp; omega
    have d1 : decide ((n : Int) ≥ 65) = true := decide_eq_true (by omega)
    have d2 : decide ((n : Int) ≤ 90) = true := decide_eq_true (by omega)
    subst hr
    clear HL
    go_enter Tryz.func110, Tryz.ntmps110
    go_wp2_with fail
    go_ret
    exact ⟨rfl, rfl⟩
  · have hr : r = false := by rw [HL.out]; simp; omega
    have d1 : decide ((n : Int) ≥ 65) = true := decide_eq_true (by omega)
    have d2 : decide ((n : Int) ≤ 90) = false := decide_eq_false (by omega)
    have d3 : decide ((n : Int) ≥ 97) = false := decide_eq_false (by omega)
    subst hr
    clear HL
    go_enter Tryz.func110, Tryz.ntmps110
    go_wp2_with fail
    go_ret
    exact ⟨rfl, rfl⟩
  · have hr : r = true := by rw [HL.out]; simp; omega
    have d1 : decide ((n : Int) ≥ 65) = true := decide_eq_true (by omega)
    have d2 : decide ((n : Int) ≤ 90) = false := decide_eq_false (by omega)
    have d3 : decide ((n : Int) ≥ 97) = true := decide_eq_true (by omega)
    have d4 : decide ((n : Int) ≤ 122) = true := decide_eq_true (by omega)
    subst hr
    clear HL
    go_enter Tryz.func110, Tryz.ntmps110
    go_wp2_with fail
    go_ret
    exact ⟨rfl, rfl⟩
  · have hr : r = false := by rw [HL.out]; simp; omega
    have d1 : decide ((n : Int) ≥ 65) = true := decide_eq_true (by omega)
    have d2 : decide ((n : Int) ≤ 90) = false := decide_eq_false (by omega)
    have d3 : decide ((n : Int) ≥ 97) = true := decide_eq_true (by omega)
    have d4 : decide ((n : Int) ≤ 122) = false := decide_eq_false (by omega)
    subst hr
    clear HL
    go_enter Tryz.func110, Tryz.ntmps110
    go_wp2_with fail
    go_ret
    exact ⟨rfl, rfl⟩
set_option maxHeartbeats 1000000 in
theorem rdig_any (c : UInt8) (w : World) : Calls Tryz.prog 111 #[.int .u8 (c.toNat : Int)] w fun e w' => e = .returned (.bool (digB c)) ∧ w = w' := by
  have HL := Lib.hid (dig_num c)
  have hb := c.toNat_lt
  obtain ⟨n, hn⟩ : ∃ n, c.toNat = n := ⟨_, rfl⟩
  generalize digB c = r at *
  rw [hn] at HL hb ⊢
  clear hn
  rcases (show n < 48 ∨ (48 ≤ n ∧ n ≤ 57) ∨ 58 ≤ n by omega) with h | h | h
  · have hr : r = false := by rw [HL.out]; simp; omega
    have d1 : decide ((n : Int) ≥ 48) = false := decide_eq_false (by omega)
    subst hr
    clear HL
    go_enter Tryz.func111, Tryz.ntmps111
    go_wp2_with fail
    go_ret
    exact ⟨rfl, rfl⟩
  · have hr : r = true := by rw [HL.out]; simp; omega
    have d1 : decide ((n : Int) ≥ 48) = true := decide_eq_true (by omega)
    have d2 : decide ((n : Int) ≤ 57) = true := decide_eq_true (by omega)
    subst hr
    clear HL
    go_enter Tryz.func111, Tryz.ntmps111
    go_wp2_with fail
    go_ret
    exact ⟨by first | rfl | (simp; done) | (simp; omega), rfl⟩
  · have hr : r = false := by rw [HL.out]; simp; omega
    have d1 : decide ((n : Int) ≥ 48) = true := decide_eq_true (by omega)
    have d2 : decide ((n : Int) ≤ 57) = false := decide_eq_false (by omega)
    subst hr
    clear HL
    go_enter Tryz.func111, Tryz.ntmps111
    go_wp2_with fail
    go_ret
    exact ⟨by first | rfl | (simp; done) | (simp; omega), rfl⟩
set_option maxHeartbeats 1000000 in
theorem rrun_any (c : UInt8) (w : World) : Calls Tryz.prog 94 #[.int .u8 (c.toNat : Int)] w fun e w' => e = .returned (.bool (runB c)) ∧ w = w' := by
  have HL := Lib.hid (run_parts c)
  have H1 := Lib.hid (fun W => rlet_any c W)
  have H2 := Lib.hid (fun W => rdig_any c W)
  have e95 : (c == 95) = ((c.toNat : Int) == 95) := u8_eq c 95 (by decide)
  have e46 : (c == 46) = ((c.toNat : Int) == 46) := u8_eq c 46 (by decide)
  rw [e95, e46] at HL
  clear e95 e46
  generalize runB c = r at *
  generalize letB c = a at *
  generalize digB c = b at *
  generalize (c.toNat : Int) = n at *
  cases a with
  | true =>
    have hr : r = true := by rw [HL.out]; rfl
    subst hr
    clear HL
    go_enter Tryz.func94, Tryz.ntmps94
    go_wp2_with fail
    refine (H1.out _).mono ?_
    rintro e w1 ⟨rfl, rfl⟩
    go_wp2_with fail
    go_ret
    exact ⟨rfl, rfl⟩
  | false =>
    cases b with
    | true =>
      have hr : r = true := by rw [HL.out]; rfl
      subst hr
      clear HL
      go_enter Tryz.func94, Tryz.ntmps94
      go_wp2_with fail
      refine (H1.out _).mono ?_
      rintro e w1 ⟨rfl, rfl⟩
      go_wp2_with fail
      refine (H2.out _).mono ?_
      rintro e w1 ⟨rfl, rfl⟩
      go_wp2_with fail
      go_ret
      exact ⟨rfl, rfl⟩
    | false =>
      cases h95 : (n == 95) with
      | true =>
        have hr : r = true := by rw [HL.out, h95]; rfl
        subst hr
        clear HL
        go_enter Tryz.func94, Tryz.ntmps94
        go_wp2_with fail
        refine (H1.out _).mono ?_
        rintro e w1 ⟨rfl, rfl⟩
        go_wp2_with fail
        refine (H2.out _).mono ?_
        rintro e w1 ⟨rfl, rfl⟩
        go_wp2_with fail
        go_ret
        exact ⟨rfl, rfl⟩
      | false =>
        have hr : r = (n == 46) := by rw [HL.out, h95]; simp
        have HR := Lib.hid hr
        clear HL hr
        go_enter Tryz.func94, Tryz.ntmps94
        go_wp2_with fail
        refine (H1.out _).mono ?_
        rintro e w1 ⟨rfl, rfl⟩
        go_wp2_with fail
        refine (H2.out _).mono ?_
        rintro e w1 ⟨rfl, rfl⟩
        go_wp2_with fail
        go_ret
        exact ⟨ret_bool HR.out.symm, rfl⟩
def sgL : List Nat := [40, 41, 43, 45, 42, 47, 44, 61, 59, 123, 125]
theorem sg_all (c : UInt8) : (kB c == 8) = sgL.contains c.toNat :=
  eq_of_beq (all_u8 (P := fun c => (kB c == 8) == sgL.contains c.toNat) (by decide +kernel) c)
set_option maxHeartbeats 2000000 in
set_option maxRecDepth 100000 in
theorem rsign_any (c : UInt8) (w : World) : Calls Tryz.prog 96 #[.int .u8 (c.toNat : Int)] w fun e w' => e = .returned (.bool (kB c == 8)) ∧ w = w' := by
  have HL := Lib.hid (sg_all c)
  obtain ⟨n, hn⟩ : ∃ n, c.toNat = n := ⟨_, rfl⟩
  generalize (kB c == 8) = r at *
  rw [hn] at HL ⊢
  clear hn
  go_enter Tryz.func96, Tryz.ntmps96
  go_wp2_with fail
  go_loop [3] (fun s3 => ∃ k : Nat, k ≤ 11 ∧ s3 = .int .i64 (k : Int) ∧ Hid (∀ j, j < k → sgL.getD j 0 ≠ n)) (fun s3 => (11 - (intOf s3)).toNat)
  case atStart => exact ⟨0, Nat.zero_le _, rfl, Lib.hid (fun j h => absurd h (Nat.not_lt_zero j))⟩
  case round =>
    obtain ⟨k, hk, rfl, HK⟩ := hrel
    by_cases hlt : k < 11
    · rcases (show k = 0 ∨ k = 1 ∨ k = 2 ∨ k = 3 ∨ k = 4 ∨ k = 5 ∨ k = 6 ∨ k = 7 ∨ k = 8 ∨ k = 9 ∨ k = 10 by omega) with rfl | rfl | rfl | rfl | rfl | rfl | rfl | rfl | rfl | rfl | rfl
      · have hv : ((⟨#[40, 41, 43, 45, 42, 47, 44, 61, 59, 123, 125]⟩ : ByteArray)[0]'(by decide)).toNat = 40 := by decide
        by_cases hc : n = 40
        · subst hc
          have hr : r = true := by rw [HL.out]; decide
          subst hr
          go_wp2_with fail
          go_ret
          exact ⟨rfl, rfl⟩
        · have e1 : (((40 : Int)) == (n : Int)) = false := by rw [beq_eq_false_iff_ne]; omega
          have HK2 := Lib.hid (show ∀ j, j < 0 + 1 → sgL.getD j 0 ≠ n from fun j hj => by
            by_cases e : j = 0
            · subst e; exact fun h => hc h.symm
            · exact HK.out j (by omega))
          clear hc
          go_wp2_with fail
          go_round
          case rel => exact ⟨0 + 1, by omega, by go_num, HK2⟩
          case measure => simp [intOf]
      · have hv : ((⟨#[40, 41, 43, 45, 42, 47, 44, 61, 59, 123, 125]⟩ : ByteArray)[1]'(by decide)).toNat = 41 := by decide
        by_cases hc : n = 41
        · subst hc
          have hr : r = true := by rw [HL.out]; decide
          subst hr
          go_wp2_with fail
          go_ret
          exact ⟨rfl, rfl⟩
        · have e1 : (((41 : Int)) == (n : Int)) = false := by rw [beq_eq_false_iff_ne]; omega
          have HK2 := Lib.hid (show ∀ j, j < 1 + 1 → sgL.getD j 0 ≠ n from fun j hj => by
            by_cases e : j = 1
            · subst e; exact fun h => hc h.symm
            · exact HK.out j (by omega))
          clear hc
          go_wp2_with fail
          go_round
          case rel => exact ⟨1 + 1, by omega, by go_num, HK2⟩
          case measure => simp [intOf]
      · have hv : ((⟨#[40, 41, 43, 45, 42, 47, 44, 61, 59, 123, 125]⟩ : ByteArray)[2]'(by decide)).toNat = 43 := by decide
        by_cases hc : n = 43
        · subst hc
          have hr : r = true := by rw [HL.out]; decide
          subst hr
          go_wp2_with fail
          go_ret
          exact ⟨rfl, rfl⟩
        · have e1 : (((43 : Int)) == (n : Int)) = false := by rw [beq_eq_false_iff_ne]; omega
          have HK2 := Lib.hid (show ∀ j, j < 2 + 1 → sgL.getD j 0 ≠ n from fun j hj => by
            by_cases e : j = 2
            · subst e; exact fun h => hc h.symm
            · exact HK.out j (by omega))
          clear hc
          go_wp2_with fail
          go_round
          case rel => exact ⟨2 + 1, by omega, by go_num, HK2⟩
          case measure => simp [intOf]
      · have hv : ((⟨#[40, 41, 43, 45, 42, 47, 44, 61, 59, 123, 125]⟩ : ByteArray)[3]'(by decide)).toNat = 45 := by decide
        by_cases hc : n = 45
        · subst hc
          have hr : r = true := by rw [HL.out]; decide
          subst hr
          go_wp2_with fail
          go_ret
          exact ⟨rfl, rfl⟩
        · have e1 : (((45 : Int)) == (n : Int)) = false := by rw [beq_eq_false_iff_ne]; omega
          have HK2 := Lib.hid (show ∀ j, j < 3 + 1 → sgL.getD j 0 ≠ n from fun j hj => by
            by_cases e : j = 3
            · subst e; exact fun h => hc h.symm
            · exact HK.out j (by omega))
          clear hc
          go_wp2_with fail
          go_round
          case rel => exact ⟨3 + 1, by omega, by go_num, HK2⟩
          case measure => simp [intOf]
      · have hv : ((⟨#[40, 41, 43, 45, 42, 47, 44, 61, 59, 123, 125]⟩ : ByteArray)[4]'(by decide)).toNat = 42 := by decide
        by_cases hc : n = 42
        · subst hc
          have hr : r = true := by rw [HL.out]; decide
          subst hr
          go_wp2_with fail
          go_ret
          exact ⟨rfl, rfl⟩
        · have e1 : (((42 : Int)) == (n : Int)) = false := by rw [beq_eq_false_iff_ne]; omega
          have HK2 := Lib.hid (show ∀ j, j < 4 + 1 → sgL.getD j 0 ≠ n from fun j hj => by
            by_cases e : j = 4
            · subst e; exact fun h => hc h.symm
            · exact HK.out j (by omega))
          clear hc
          go_wp2_with fail
          go_round
          case rel => exact ⟨4 + 1, by omega, by go_num, HK2⟩
          case measure => simp [intOf]
      · have hv : ((⟨#[40, 41, 43, 45, 42, 47, 44, 61, 59, 123, 125]⟩ : ByteArray)[5]'(by decide)).toNat = 47 := by decide
        by_cases hc : n = 47
        · subst hc
          have hr : r = true := by rw [HL.out]; decide
          subst hr
          go_wp2_with fail
          go_ret
          exact ⟨rfl, rfl⟩
        · have e1 : (((47 : Int)) == (n : Int)) = false := by rw [beq_eq_false_iff_ne]; omega
          have HK2 := Lib.hid (show ∀ j, j < 5 + 1 → sgL.getD j 0 ≠ n from fun j hj => by
            by_cases e : j = 5
            · subst e; exact fun h => hc h.symm
            · exact HK.out j (by omega))
          clear hc
          go_wp2_with fail
          go_round
          case rel => exact ⟨5 + 1, by omega, by go_num, HK2⟩
          case measure => simp [intOf]
      · have hv : ((⟨#[40, 41, 43, 45, 42, 47, 44, 61, 59, 123, 125]⟩ : ByteArray)[6]'(by decide)).toNat = 44 := by decide
        by_cases hc : n = 44
        · subst hc
          have hr : r = true := by rw [HL.out]; decide
          subst hr
          go_wp2_with fail
          go_ret
          exact ⟨rfl, rfl⟩
        · have e1 : (((44 : Int)) == (n : Int)) = false := by rw [beq_eq_false_iff_ne]; omega
          have HK2 := Lib.hid (show ∀ j, j < 6 + 1 → sgL.getD j 0 ≠ n from fun j hj => by
            by_cases e : j = 6
            · subst e; exact fun h => hc h.symm
            · exact HK.out j (by omega))
          clear hc
          go_wp2_with fail
          go_round
          case rel => exact ⟨6 + 1, by omega, by go_num, HK2⟩
          case measure => simp [intOf]
      · have hv : ((⟨#[40, 41, 43, 45, 42, 47, 44, 61, 59, 123, 125]⟩ : ByteArray)[7]'(by decide)).toNat = 61 := by decide
        by_cases hc : n = 61
        · subst hc
          have hr : r = true := by rw [HL.out]; decide
          subst hr
          go_wp2_with fail
          go_ret
          exact ⟨rfl, rfl⟩
        · have e1 : (((61 : Int)) == (n : Int)) = false := by rw [beq_eq_false_iff_ne]; omega
          have HK2 := Lib.hid (show ∀ j, j < 7 + 1 → sgL.getD j 0 ≠ n from fun j hj => by
            by_cases e : j = 7
            · subst e; exact fun h => hc h.symm
            · exact HK.out j (by omega))
          clear hc
          go_wp2_with fail
          go_round
          case rel => exact ⟨7 + 1, by omega, by go_num, HK2⟩
          case measure => simp [intOf]
      · have hv : ((⟨#[40, 41, 43, 45, 42, 47, 44, 61, 59, 123, 125]⟩ : ByteArray)[8]'(by decide)).toNat = 59 := by decide
        by_cases hc : n = 59
        · subst hc
          have hr : r = true := by rw [HL.out]; decide
          subst hr
          go_wp2_with fail
          go_ret
          exact ⟨rfl, rfl⟩
        · have e1 : (((59 : Int)) == (n : Int)) = false := by rw [beq_eq_false_iff_ne]; omega
          have HK2 := Lib.hid (show ∀ j, j < 8 + 1 → sgL.getD j 0 ≠ n from fun j hj => by
            by_cases e : j = 8
            · subst e; exact fun h => hc h.symm
            · exact HK.out j (by omega))
          clear hc
          go_wp2_with fail
          go_round
          case rel => exact ⟨8 + 1, by omega, by go_num, HK2⟩
          case measure => simp [intOf]
      · have hv : ((⟨#[40, 41, 43, 45, 42, 47, 44, 61, 59, 123, 125]⟩ : ByteArray)[9]'(by decide)).toNat = 123 := by decide
        by_cases hc : n = 123
        · subst hc
          have hr : r = true := by rw [HL.out]; decide
          subst hr
          go_wp2_with fail
          go_ret
          exact ⟨rfl, rfl⟩
        · have e1 : (((123 : Int)) == (n : Int)) = false := by rw [beq_eq_false_iff_ne]; omega
          have HK2 := Lib.hid (show ∀ j, j < 9 + 1 → sgL.getD j 0 ≠ n from fun j hj => by
            by_cases e : j = 9
            · subst e; exact fun h => hc h.symm
            · exact HK.out j (by omega))
          clear hc
          go_wp2_with fail
          go_round
          case rel => exact ⟨9 + 1, by omega, by go_num, HK2⟩
          case measure => simp [intOf]
      · have hv : ((⟨#[40, 41, 43, 45, 42, 47, 44, 61, 59, 123, 125]⟩ : ByteArray)[10]'(by decide)).toNat = 125 := by decide
        by_cases hc : n = 125
        · subst hc
          have hr : r = true := by rw [HL.out]; decide
          subst hr
          go_wp2_with fail
          go_ret
          exact ⟨rfl, rfl⟩
        · have e1 : (((125 : Int)) == (n : Int)) = false := by rw [beq_eq_false_iff_ne]; omega
          have HK2 := Lib.hid (show ∀ j, j < 10 + 1 → sgL.getD j 0 ≠ n from fun j hj => by
            by_cases e : j = 10
            · subst e; exact fun h => hc h.symm
            · exact HK.out j (by omega))
          clear hc
          go_wp2_with fail
          go_round
          case rel => exact ⟨10 + 1, by omega, by go_num, HK2⟩
          case measure => simp [intOf]
    · obtain rfl : k = 11 := by omega
      have hr : r = false := by
        rw [HL.out, Bool.eq_false_iff]
        intro h
        obtain ⟨j, hj, he⟩ := List.getElem_of_mem (List.contains_iff_mem.1 h)
        have hj2 : j < 11 := hj
        refine HK.out j hj2 ?_
        rw [← he]
        simp [List.getD, hj]
      subst hr
      go_wp2_with fail
      go_ret
      exact ⟨rfl, rfl⟩
set_option maxHeartbeats 2000000 in
set_option maxRecDepth 100000 in
theorem rhasL_any (s : ByteArray) (hs : s.size ≤ 1000000) (w : World) : Calls Tryz.prog 97 #[.string s, .bool true, .bool false] w fun e w' => e = .returned (.bool (s.data.toList.any letB)) ∧ w = w' := by
  have HL := Lib.hid (fun c W => rlet_any c W)
  obtain ⟨r, hr⟩ : ∃ r, s.data.toList.any letB = r := ⟨_, rfl⟩
  rw [hr]
  have HRR := Lib.hid hr
  clear hr
  go_enter Tryz.func97, Tryz.ntmps97
  go_wp2_with fail
  go_loop [7] (fun s7 => ∃ k : Nat, k ≤ s.size ∧ s7 = .int .i64 (k : Int) ∧ Hid (∀ (j : Nat) (h : j < s.size), j < k → letB (s[j]'h) = false)) (fun s7 => (s.size - (intOf s7)).toNat)
  case atStart => exact ⟨0, Nat.zero_le _, rfl, Lib.hid (fun j _ h => absurd h (Nat.not_lt_zero j))⟩
  case round =>
    obtain ⟨k, hk, rfl, HK⟩ := hrel
    by_cases hlt : k < s.size
    · have hl : (k : Int) < (s.size : Int) := by omega
      have HL1 := Lib.hid (HL.out (s[k]'hlt))
      cases hc : letB (s[k]'hlt) with
      | true =>
        rw [hc] at HL1
        have HR := Lib.hid (show s.data.toList.any letB = true from List.any_eq_true.2 ⟨_, by rw [Array.mem_toList_iff]; exact Array.getElem_mem hlt, hc⟩)
        clear hc
        go_wp2_with fail
        refine (HL1.out _).mono ?_
        rintro e w1 ⟨rfl, rfl⟩
        go_wp2_with fail
        go_ret
        exact ⟨ret_bool (HR.out.symm.trans HRR.out), rfl⟩
      | false =>
        rw [hc] at HL1
        have HC := Lib.hid hc
        clear hc
        go_wp2_with fail
        refine (HL1.out _).mono ?_
        rintro e w1 ⟨rfl, rfl⟩
        go_wp2_with fail
        go_round
        case rel =>
          refine ⟨k + 1, by omega, by go_num, Lib.hid (fun j h hj => ?_)⟩
          by_cases e : j = k
          · subst e; exact HC.out
          · exact HK.out j h (by omega)
        case measure => simp [intOf]; omega
    · obtain rfl : k = s.size := by omega
      have hl : ¬ (s.size : Int) < (s.size : Int) := by omega
      have HR := Lib.hid (show s.data.toList.any letB = false by
        rw [List.any_eq_false]
        intro c hc
        rw [Array.mem_toList_iff] at hc
        obtain ⟨j, hj, rfl⟩ := Array.mem_iff_getElem.1 hc
        have := HK.out j hj hj
        intro h
        have h2 : letB (s[j]'hj) = true := h
        rw [this] at h2
        exact absurd h2 (by decide))
      go_wp2_with fail
      go_ret
      exact ⟨ret_bool (HR.out.symm.trans HRR.out), rfl⟩
set_option maxHeartbeats 2000000 in
set_option maxRecDepth 100000 in
theorem rhasP_any (s : ByteArray) (hs : s.size ≤ 1000000) (w : World) : Calls Tryz.prog 97 #[.string s, .bool false, .bool true] w fun e w' => e = .returned (.bool (pntB s.data.toList)) ∧ w = w' := by
  go_enter Tryz.func97, Tryz.ntmps97
  go_wp2_with fail
  go_loop [7] (fun s7 => ∃ k : Nat, k ≤ s.size ∧ s7 = .int .i64 (k : Int) ∧ Hid (∀ (j : Nat) (h : j < s.size), j < k → (s[j]'h == 46) = false)) (fun s7 => (s.size - (intOf s7)).toNat)
  case atStart => exact ⟨0, Nat.zero_le _, rfl, Lib.hid (fun j _ h => absurd h (Nat.not_lt_zero j))⟩
  case round =>
    obtain ⟨k, hk, rfl, HK⟩ := hrel
    by_cases hlt : k < s.size
    · have hl : (k : Int) < (s.size : Int) := by omega
      have e46 : (s[k]'hlt == 46) = (((s[k]'hlt).toNat : Int) == 46) := u8_eq (s[k]'hlt) 46 (by decide)
      cases hc : (s[k]'hlt == 46) with
      | true =>
        rw [hc] at e46
        replace e46 := e46.symm
        have HR := Lib.hid (show pntB s.data.toList = true by
          unfold pntB
          rw [List.contains_iff_mem, Array.mem_toList_iff]
          have h2 : s[k]'hlt = 46 := by simpa using hc
          rw [← h2]
          exact Array.getElem_mem hlt)
        clear hc
        go_wp2_with fail
        go_ret
        exact ⟨ret_bool HR.out.symm, rfl⟩
      | false =>
        rw [hc] at e46
        replace e46 := e46.symm
        have HC := Lib.hid hc
        clear hc
        go_wp2_with fail
        go_round
        case rel =>
          refine ⟨k + 1, by omega, by go_num, Lib.hid (fun j h hj => ?_)⟩
          by_cases e : j = k
          · subst e; exact HC.out
          · exact HK.out j h (by omega)
        case measure => simp [intOf]; omega
    · obtain rfl : k = s.size := by omega
      have hl : ¬ (s.size : Int) < (s.size : Int) := by omega
      have HR := Lib.hid (show pntB s.data.toList = false by
        unfold pntB
        rw [Bool.eq_false_iff]
        intro h
        have hc := List.contains_iff_mem.1 h
        rw [Array.mem_toList_iff] at hc
        obtain ⟨j, hj, he⟩ := Array.mem_iff_getElem.1 hc
        have := HK.out j hj hj
        have h2 : s[j]'hj = 46 := he
        rw [h2] at this
        exact absurd this (by decide))
      go_wp2_with fail
      go_ret
      exact ⟨ret_bool HR.out.symm, rfl⟩
set_option maxHeartbeats 2000000 in
set_option maxRecDepth 100000 in
theorem rdigits_any (s : ByteArray) (hs : s.size ≤ 1000000) (w : World) : Calls Tryz.prog 112 #[.string s] w fun e w' => e = .returned (.bool (digsB s.data.toList)) ∧ w = w' := by
  have HL := Lib.hid (fun c W => rdig_any c W)
  have HD := Lib.hid (show digsB s.data.toList = (!s.data.toList.isEmpty && s.data.toList.all digB) from rfl)
  go_enter Tryz.func112, Tryz.ntmps112
  go_wp2_with fail
  go_loop [3] (fun s3 => ∃ k : Nat, k ≤ s.size ∧ s3 = .int .i64 (k : Int) ∧ Hid (∀ (j : Nat) (h : j < s.size), j < k → digB (s[j]'h) = true)) (fun s3 => (s.size - (intOf s3)).toNat)
  case atStart => exact ⟨0, Nat.zero_le _, rfl, Lib.hid (fun j _ h => absurd h (Nat.not_lt_zero j))⟩
  case round =>
    obtain ⟨k, hk, rfl, HK⟩ := hrel
    by_cases hlt : k < s.size
    · have hl : (k : Int) < (s.size : Int) := by omega
      have HL1 := Lib.hid (HL.out (s[k]'hlt))
      cases hc : digB (s[k]'hlt) with
      | false =>
        rw [hc] at HL1
        have HR := Lib.hid (show digsB s.data.toList = false by rw [HD.out, all_false hlt hc, Bool.and_false])
        clear hc
        go_wp2_with fail
        refine (HL1.out _).mono ?_
        rintro e w1 ⟨rfl, rfl⟩
        go_wp2_with fail
        go_ret
        exact ⟨ret_bool HR.out.symm, rfl⟩
      | true =>
        rw [hc] at HL1
        have HC := Lib.hid hc
        clear hc
        go_wp2_with fail
        refine (HL1.out _).mono ?_
        rintro e w1 ⟨rfl, rfl⟩
        go_wp2_with fail
        go_round
        case rel =>
          refine ⟨k + 1, by omega, by go_num, Lib.hid (fun j h hj => ?_)⟩
          by_cases e : j = k
          · subst e; exact HC.out
          · exact HK.out j h (by omega)
        case measure => simp [intOf]; omega
    · obtain rfl : k = s.size := by omega
      have hl : ¬ (s.size : Int) < (s.size : Int) := by omega
      have HA := Lib.hid (show s.data.toList.all digB = true from all_iff.2 (fun j h => HK.out j h h))
      by_cases h0 : s.size = 0
      · have HR := Lib.hid (show digsB s.data.toList = false by rw [HD.out, size0 h0]; rfl)
        have d1 : ¬ 0 < s.size := by omega
        go_wp2_with fail
        go_ret
        exact ⟨ret_bool (by first | (rw [HR.out]; done) | (rw [HR.out]; simp; done) | (rw [HR.out]; simp; omega)), rfl⟩
      · have HR := Lib.hid (show digsB s.data.toList = true by
          rw [HD.out, HA.out]
          cases hh : s.data.toList with
          | nil => have := list_size s; rw [hh] at this; simp at this; omega
          | cons c t => rfl)
        have d1 : 0 < s.size := by omega
        go_wp2_with fail
        go_ret
        exact ⟨ret_bool (by first | (rw [HR.out]; done) | (rw [HR.out]; simp; done) | (rw [HR.out]; simp; omega)), rfl⟩
end Go.Proofs.YtohalocbghhenaaGreatDoor
