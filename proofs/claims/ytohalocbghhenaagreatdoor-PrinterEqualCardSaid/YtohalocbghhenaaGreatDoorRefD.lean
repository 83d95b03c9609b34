/- Contract of layer 9's reference: skip. -/
import Derived.Test.YtohalocbghhenaaGreatDoorRefA
import Derived.Test.YtohalocbghhenaaGreatDoorBeg
import Derived.Test.YtohalocbghhenaaGreatDoorLexJ
set_option linter.unusedSimpArgs false
set_option linter.unusedVariables false
namespace Go.Proofs.YtohalocbghhenaaGreatDoor
open Go.RowKit

theorem blank_iff (c : UInt8) : (kB c == 1) = (((c == 32 || c == 9) || c == 10) || c == 13) :=
  eq_of_beq (all_u8 (P := fun c => (kB c == 1) == (((c == 32 || c == 9) || c == 10) || c == 13)) (by decide +kernel) c)
theorem hash_iff (c : UInt8) : (kB c == 2) = (c == 35) :=
  eq_of_beq (all_u8 (P := fun c => (kB c == 2) == (c == 35)) (by decide +kernel) c)
set_option maxHeartbeats 4000000 in
set_option maxRecDepth 100000 in
theorem rskip_any (s : ByteArray) (hs : s.size ≤ 1000000) (p : Nat) (hp : p ≤ s.size) (w : World) : Calls Tryz.prog 92 #[.string s, .int .i64 (p : Int)] w fun e w' => e = .returned (.int .i64 ((p + skN false (s.data.toList.drop p) : Nat) : Int)) ∧ w = w' := by
  obtain ⟨x, hx⟩ : ∃ x, p + skN false (s.data.toList.drop p) = x := ⟨_, rfl⟩
  have HX := Lib.hid hx
  rw [hx]
  clear hx
  go_enter Tryz.func92, Tryz.ntmps92
  go_wp2_with fail
  go_loop [1] (fun s1 => ∃ (k : Nat), k ≤ s.size ∧ s1 = .int .i64 (k : Int) ∧ Hid (k + skN false (s.data.toList.drop k) = x)) (fun s1 => (s.size - (intOf s1)).toNat)
  case atStart => exact ⟨p, hp, rfl, HX⟩
  case round =>
    obtain ⟨k, hk, rfl, HK⟩ := hrel
    by_cases hlt : k < s.size
    · have hl : (k : Int) < (s.size : Int) := by omega
      have HD := Lib.hid (drop_cons s k hlt)
      have HBL := Lib.hid (blank_iff (s[k]'hlt))
      have HHA := Lib.hid (hash_iff (s[k]'hlt))
      have e32 : (s[k]'hlt == 32) = (((s[k]'hlt).toNat : Int) == 32) := u8_eq (s[k]'hlt) 32 (by decide)
      have e9 : (s[k]'hlt == 9) = (((s[k]'hlt).toNat : Int) == 9) := u8_eq (s[k]'hlt) 9 (by decide)
      have e10 : (s[k]'hlt == 10) = (((s[k]'hlt).toNat : Int) == 10) := u8_eq (s[k]'hlt) 10 (by decide)
      have e13 : (s[k]'hlt == 13) = (((s[k]'hlt).toNat : Int) == 13) := u8_eq (s[k]'hlt) 13 (by decide)
      have e35 : (s[k]'hlt == 35) = (((s[k]'hlt).toNat : Int) == 35) := u8_eq (s[k]'hlt) 35 (by decide)
      rw [e32, e9, e10, e13] at HBL
      rw [e35] at HHA
      clear e32 e9 e10 e13 e35
      obtain ⟨n, hn⟩ : ∃ n, (s[k]'hlt).toNat = n := ⟨_, rfl⟩
      obtain ⟨q, hq⟩ : ∃ q, kB (s[k]'hlt) = q := ⟨_, rfl⟩
      rw [hq] at HBL HHA
      rw [hn] at HBL HHA
      have HQ := Lib.hid hq
      clear hq
      by_cases hb : q = 1
      · have HN := Lib.hid (show k + 1 + skN false (s.data.toList.drop (k + 1)) = x by
          have := HK.out
          rw [HD.out, skN, HQ.out, if_neg (by omega), if_pos hb] at this
          omega)
        have hbl := HBL.out
        rw [hb] at hbl
        have way : n = 32 ∨ n = 9 ∨ n = 10 ∨ n = 13 := by
          simp at hbl
          omega
        clear hbl HBL HHA
        rcases way with h | h | h | h
        all_goals
          subst h
          have hn1 : ((s[k]'hlt).toNat : Int) = _ := congrArg Nat.cast hn
          go_wp2_with fail
          go_round
          case rel => exact ⟨k + 1, by omega, by go_num, HN⟩
          case measure => simp [intOf]; omega
      · have hbl := HBL.out
        have hb2 : (q == 1) = false := by simpa using hb
        rw [hb2] at hbl
        have n1 : (((n : Nat) : Int) == 32) = false ∧ (((n : Nat) : Int) == 9) = false ∧ (((n : Nat) : Int) == 10) = false ∧ (((n : Nat) : Int) == 13) = false := by
          simp at hbl ⊢
          omega
        obtain ⟨n32, n9, n10, n13⟩ := n1
        clear hbl hb2
        by_cases hh : q = 2
        · have HN := Lib.hid (show k + 1 + skN true (s.data.toList.drop (k + 1)) = x by
            have := HK.out
            rw [HD.out, skN, HQ.out, if_pos hh] at this
            omega)
          have h35 : n = 35 := by
            have := HHA.out
            rw [hh] at this
            simp at this
            omega
          subst h35
          have hn1 : ((s[k]'hlt).toNat : Int) = 35 := by omega
          have HSK := Lib.hid (show k + skN true (s.data.toList.drop k) = x by
            have h1 := HN.out
            rw [HD.out, skN]
            have h2 : (s[k]'hlt != 10) = true := by
              unfold bne
              have h3 : (s[k]'hlt == 10) = (((s[k]'hlt).toNat : Int) == 10) := u8_eq (s[k]'hlt) 10 (by decide)
              rw [h3, hn1]; rfl
            rw [h2]; omega)
          clear HBL HHA HN hb hh n32 n9 n10 n13
          go_wp2_with fail
          go_loop [1] (fun s1 => ∃ (j : Nat), k ≤ j ∧ j ≤ s.size ∧ s1 = .int .i64 (j : Int) ∧ Hid (j + skN true (s.data.toList.drop j) = x)) (fun s1 => (s.size - (intOf s1)).toNat)
          case atStart => exact ⟨k, Nat.le_refl _, by omega, rfl, HSK⟩
          case round =>
            obtain ⟨j, hkj, hj, rfl, HJ⟩ := hrel
            by_cases hjl : j < s.size
            · have hl2 : (j : Int) < (s.size : Int) := by omega
              have HDJ := Lib.hid (drop_cons s j hjl)
              have e10 : (s[j]'hjl == 10) = (((s[j]'hjl).toNat : Int) == 10) := u8_eq (s[j]'hjl) 10 (by decide)
              cases hc : (s[j]'hjl == 10) with
              | true =>
                rw [hc] at e10
                replace e10 := e10.symm
                have hc2 : s[j]'hjl = 10 := by simpa using hc
                have hne : j ≠ k := by
                  intro e
                  subst e
                  rw [hc2] at hn1
                  exact absurd hn1 (by decide)
                have e10b : (((s[j]'hjl).toNat : Int) != 10) = false := by unfold bne; rw [e10]; rfl
                have HN := Lib.hid (show j + skN false (s.data.toList.drop j) = x by
                  have h1 := HJ.out
                  rw [HDJ.out, hc2] at h1 ⊢
                  rw [skN] at h1
                  rw [skN_bl (by decide)]
                  exact h1)
                clear hc hc2 hn1
                go_wp2_with fail
                go_round
                case rel => exact ⟨j, hj, rfl, HN⟩
                case measure => simp [intOf]; omega
              | false =>
                rw [hc] at e10
                replace e10 := e10.symm
                have e10b : (((s[j]'hjl).toNat : Int) != 10) = true := by unfold bne; rw [e10]; rfl
                have HN := Lib.hid (show j + 1 + skN true (s.data.toList.drop (j + 1)) = x by
                  have h1 := HJ.out
                  rw [HDJ.out, skN] at h1
                  have h2 : (s[j]'hjl != 10) = true := by unfold bne; rw [hc]; rfl
                  rw [h2] at h1
                  omega)
                clear hc hn1
                go_wp2_with fail
                go_round
                case rel => exact ⟨j + 1, by omega, by omega, by go_num, HN⟩
                case measure => simp [intOf]; omega
            · obtain rfl : j = s.size := by omega
              have hl2 : ¬ (s.size : Int) < (s.size : Int) := by omega
              have HN := Lib.hid (show s.size + skN false (s.data.toList.drop s.size) = x by
                have h1 := HJ.out
                rw [drop_end s _ (Nat.le_refl _)] at h1 ⊢
                exact h1)
              go_wp2_with fail
              go_round
              case rel => exact ⟨s.size, Nat.le_refl _, rfl, HN⟩
              case measure => simp [intOf]; omega
        · have HN := Lib.hid (show k = x by
            have := HK.out
            rw [HD.out, skN, HQ.out, if_neg hh, if_neg hb] at this
            omega)
          have n35 : (((n : Nat) : Int) == 35) = false := by
            have := HHA.out
            have h2 : (q == 2) = false := by simpa using hh
            rw [h2] at this
            simp at this ⊢
            omega
          have hn1 : ((s[k]'hlt).toNat : Int) = (n : Int) := congrArg Nat.cast hn
          clear HBL HHA hb hh hn
          go_wp2_with fail
          go_ret
          exact ⟨ret_int (by have := HN.out; omega), rfl⟩
    · obtain rfl : k = s.size := by omega
      have hl : ¬ (s.size : Int) < (s.size : Int) := by omega
      have HN := Lib.hid (show s.size = x by
        have := HK.out
        rw [drop_end s _ (Nat.le_refl _)] at this
        simpa [skN] using this)
      go_wp2_with fail
      go_ret
      exact ⟨ret_int (by have := HN.out; omega), rfl⟩
end Go.Proofs.YtohalocbghhenaaGreatDoor
