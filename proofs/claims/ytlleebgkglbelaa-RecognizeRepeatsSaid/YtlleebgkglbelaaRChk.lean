/- Contracts of layer 4: the reference's checks. -/
import Derived.Test.YtlleebgkglbelaaChk
set_option linter.unusedSimpArgs false
set_option linter.unusedVariables false
namespace Go.Proofs.Ytlleebgkglbelaa
open Go.RowKit

theorem within_is3 (c : UInt8) (lo hi : Int) (w : World) (b : Bool) (h : inB lo hi c = b) : Calls Try.prog 63 #[.int .u8 (c.toNat : Int), .int .u8 lo, .int .u8 hi] w fun e w' => e = .returned (.bool b) ∧ w = w' := within_is c lo hi w b h
set_option maxHeartbeats 1000000 in
set_option maxRecDepth 100000 in
theorem rname_any (s : ByteArray) (hs : s.size ≤ 9223372036854775807) (w : World) : Calls Try.prog 56 #[.string s] w fun e w' => e = .returned (.bool (nameS s)) ∧ w = w' := by
  by_cases h1 : s.size < 1
  · have HS := Lib.hid (show nameS s = false by unfold nameS; simp; omega)
    have k1 : decide ((s.size : Int) < 1) = true := by simp; omega
    go_enter Try.func56, Try.ntmps56
    go_wp2
    go_ret
    exact ⟨by rw [HS.out]; rfl, rfl⟩
  · have k1 : decide ((s.size : Int) < 1) = false := by simp; omega
    by_cases h2 : 16 < s.size
    · have HS := Lib.hid (show nameS s = false by unfold nameS; simp; omega)
      have k2 : decide ((s.size : Int) > 16) = true := by simp; omega
      go_enter Try.func56, Try.ntmps56
      go_wp2
      go_ret
      exact ⟨by rw [HS.out]; rfl, rfl⟩
    · have k2 : decide ((s.size : Int) > 16) = false := by simp; omega
      have h0 : 0 < s.size := by omega
      have e0 : firstB (inB 97 122) s = inB 97 122 (s[0]'h0) := dif_pos h0
      cases hl : inB 97 122 (s[0]'h0) with
      | false =>
        have HS := Lib.hid (show nameS s = false by unfold nameS; rw [e0, hl]; simp)
        have HL := Lib.hid hl
        clear hl e0
        go_enter Try.func56, Try.ntmps56
        go_wp2_with fail
        refine (within_is3 _ 97 122 _ false HL.out).mono ?_
        rintro e w1 ⟨rfl, rfl⟩
        go_wp2
        go_ret
        exact ⟨by rw [HS.out]; rfl, rfl⟩
      | true =>
        have HS := Lib.hid (show nameS s = allB nameB s by unfold nameS; rw [e0, hl]; simp; omega)
        have HL := Lib.hid hl
        clear hl e0
        go_enter Try.func56, Try.ntmps56
        go_wp2_with fail
        refine (within_is3 _ 97 122 _ true HL.out).mono ?_
        rintro e w1 ⟨rfl, rfl⟩
        go_wp2_with fail
        clear HL
        go_loop [3] (fun s3 => ∃ k : Nat, k ≤ s.size ∧ s3 = .int .i64 k ∧ Hid (∀ (j : Nat) (h : j < s.size), j < k → nameB (s[j]'h) = true)) (fun s3 => (s.size - (intOf s3)).toNat)
        case atStart => exact ⟨0, Nat.zero_le _, rfl, Lib.hid (fun j _ h => absurd h (Nat.not_lt_zero j))⟩
        case round =>
          obtain ⟨k, hk, rfl, HK⟩ := hrel
          by_cases hlt : k < s.size
          · have hl : (k : Int) < (s.size : Int) := by omega
            cases ha : inB 97 122 (s[k]'hlt) with
            | true =>
              have HA := Lib.hid ha
              clear ha
              go_wp2_with fail
              refine (within_is3 _ 97 122 _ true HA.out).mono ?_
              rintro e w1 ⟨rfl, rfl⟩
              go_wp2
              go_round
              case rel =>
                refine ⟨k + 1, by omega, by go_num, Lib.hid (fun j h hj => ?_)⟩
                by_cases e : j = k
                · subst e; unfold nameB; rw [HA.out]; rfl
                · exact HK.out j h (by omega)
              case measure => simp [intOf]; omega
            | false =>
              have HA := Lib.hid ha
              clear ha
              cases hd : inB 48 57 (s[k]'hlt) with
              | true =>
                have HD := Lib.hid hd
                clear hd
                go_wp2_with fail
                refine (within_is3 _ 97 122 _ false HA.out).mono ?_
                rintro e w1 ⟨rfl, rfl⟩
                go_wp2_with fail
                refine (rdigit_is _ _ true HD.out).mono ?_
                rintro e w1 ⟨rfl, rfl⟩
                go_wp2
                go_round
                case rel =>
                  refine ⟨k + 1, by omega, by go_num, Lib.hid (fun j h hj => ?_)⟩
                  by_cases e : j = k
                  · subst e; unfold nameB; rw [HA.out, HD.out]; rfl
                  · exact HK.out j h (by omega)
                case measure => simp [intOf]; omega
              | false =>
                have HD := Lib.hid hd
                clear hd
                cases hu : (s[k]'hlt == 95) with
                | true =>
                  have HU := Lib.hid hu
                  rw [eq95] at hu
                  have k3 : (((s[k]'hlt).toNat : Int) != 95) = false := by unfold bne; rw [hu]; rfl
                  clear hu
                  go_wp2_with fail
                  refine (within_is3 _ 97 122 _ false HA.out).mono ?_
                  rintro e w1 ⟨rfl, rfl⟩
                  go_wp2_with fail
                  refine (rdigit_is _ _ false HD.out).mono ?_
                  rintro e w1 ⟨rfl, rfl⟩
                  go_wp2
                  go_round
                  case rel =>
                    refine ⟨k + 1, by omega, by go_num, Lib.hid (fun j h hj => ?_)⟩
                    by_cases e : j = k
                    · subst e; unfold nameB; rw [HA.out, HD.out, HU.out]; rfl
                    · exact HK.out j h (by omega)
                  case measure => simp [intOf]; omega
                | false =>
                  have HX := Lib.hid (show allB nameB s = false from allB_false hlt (by unfold nameB; rw [HA.out, HD.out, hu]; rfl))
                  rw [eq95] at hu
                  have k3 : (((s[k]'hlt).toNat : Int) != 95) = true := by unfold bne; rw [hu]; rfl
                  clear hu
                  go_wp2_with fail
                  refine (within_is3 _ 97 122 _ false HA.out).mono ?_
                  rintro e w1 ⟨rfl, rfl⟩
                  go_wp2_with fail
                  refine (rdigit_is _ _ false HD.out).mono ?_
                  rintro e w1 ⟨rfl, rfl⟩
                  go_wp2
                  go_ret
                  exact ⟨by rw [HS.out, HX.out]; rfl, rfl⟩
          · obtain rfl : k = s.size := by omega
            go_wp2
            go_ret
            exact ⟨by rw [HS.out, allB_iff.2 (fun j h => HK.out j h h)]; rfl, rfl⟩

theorem all3 {p : UInt8 → Bool} {s : ByteArray} (h : s.size = 3) : allB p s = (p (s[0]'(by omega)) && (p (s[1]'(by omega)) && p (s[2]'(by omega)))) := by
  rw [Bool.eq_iff_iff, allB_iff]
  simp only [Bool.and_eq_true]
  constructor
  · intro hp
    exact ⟨hp 0 (by omega), hp 1 (by omega), hp 2 (by omega)⟩
  · rintro ⟨h0, h1, h2⟩ k hk
    obtain rfl | rfl | rfl : k = 0 ∨ k = 1 ∨ k = 2 := by omega
    · exact h0
    · exact h1
    · exact h2
end Go.Proofs.Ytlleebgkglbelaa
