/- Contract of layer 9's reference: Title. -/
import Derived.Test.YtiofekoadjgjdaaGreatDoorRefA
set_option linter.unusedSimpArgs false
set_option linter.unusedVariables false
namespace Go.Proofs.YtiofekoadjgjdaaGreatDoor
open Go.RowKit

set_option maxHeartbeats 2000000 in
set_option maxRecDepth 100000 in
theorem rtitle_any (s : ByteArray) (hs : s.size ≤ 1000000000) (w : World) : Calls Tryz.prog 60 #[.string s] w fun e w' => e = .returned (.int .i64 (titE s.data.toList)) ∧ w = w' := by
  by_cases h0 : s.size = 0
  · have k1 : ((s.size : Int) == 0) = true := by rw [beq_iff_eq]; omega
    have HE := Lib.hid (show titE s.data.toList = 2 by rw [size0 h0]; rfl)
    clear h0
    go_enter Tryz.func60, Tryz.ntmps60
    go_wp2_with fail
    go_ret
    exact ⟨by rw [HE.out]; rfl, rfl⟩
  · have hp : 0 < s.size := by omega
    have k1 : ((s.size : Int) == 0) = false := by rw [beq_eq_false_iff_ne]; omega
    have hL : s.size - 1 < s.size := by omega
    have hd := head_byte hp
    have hl := last_byte hL
    have HX := Lib.hid (show titE s.data.toList = if ((s[0]'hp) = 32 ∨ (s[s.size - 1]'hL) = 32) then 2 else if s.data.toList.all titB then (if 40 < s.size then 6 else 0) else 2 by
      unfold titE
      rw [hd, hl, list_size]
      simp)
    have e0 := eq32 (s[0]'hp)
    have e1 := eq32 (s[s.size - 1]'hL)
    clear hd hl
    generalize titE s.data.toList = R at *
    cases h1 : (s[0]'hp == 32) with
    | true =>
      have HE := Lib.hid (show R = 2 by rw [HX.out, if_pos (.inl (by simpa using h1))])
      rw [h1] at e0
      replace e0 := e0.symm
      clear HX e1 h1
      go_enter Tryz.func60, Tryz.ntmps60
      go_wp2_with fail
      go_ret
      exact ⟨by rw [HE.out]; rfl, rfl⟩
    | false =>
      rw [h1] at e0
      replace e0 := e0.symm
      cases h2 : (s[s.size - 1]'hL == 32) with
      | true =>
        have HE := Lib.hid (show R = 2 by rw [HX.out, if_pos (.inr (by simpa using h2))])
        rw [h2] at e1
        replace e1 := e1.symm
        clear HX h1 h2 h0
        go_enter Tryz.func60, Tryz.ntmps60
        go_wp2_with fail
        go_ret
        exact ⟨by rw [HE.out]; rfl, rfl⟩
      | false =>
        have HE := Lib.hid (show R = if s.data.toList.all titB then (if 40 < s.size then 6 else 0) else 2 by
          rw [HX.out, if_neg (by
            intro h
            rcases h with h | h
            · rw [h] at h1; exact absurd h1 (by decide)
            · rw [h] at h2; exact absurd h2 (by decide))])
        rw [h2] at e1
        replace e1 := e1.symm
        clear HX h1 h2 h0
        go_enter Tryz.func60, Tryz.ntmps60
        go_wp2_with fail
        go_loop [3] (fun s21 => ∃ k : Nat, k ≤ s.size ∧ s21 = .int .i64 (k : Int) ∧ Hid (∀ (j : Nat) (h : j < s.size), j < k → titB (s[j]'h) = true)) (fun s21 => (s.size - (intOf s21)).toNat)
        case atStart => exact ⟨0, Nat.zero_le _, rfl, Lib.hid (fun j _ h => absurd h (Nat.not_lt_zero j))⟩
        case round =>
          obtain ⟨k, hk, rfl, HK⟩ := hrel
          by_cases hlt : k < s.size
          · have hl : (k : Int) < (s.size : Int) := by omega
            have hq : (s[k]'hlt == 34) = (((s[k]'hlt).toNat : Int) == 34) := u8_eq (s[k]'hlt) 34 (by decide)
            have HTB := Lib.hid (show titB (s[k]'hlt) = (decide (32 ≤ (s[k]'hlt).toNat) && decide ((s[k]'hlt).toNat ≤ 126) && (s[k]'hlt) != 34) from rfl)
            by_cases g1 : 32 ≤ (s[k]'hlt).toNat
            · by_cases g2 : (s[k]'hlt).toNat ≤ 126
              · cases g3 : (s[k]'hlt == 34) with
                | true =>
                  have HF := Lib.hid (all_false (p := titB) hlt (by rw [HTB.out, bne, g3]; simp))
                  rw [g3] at hq
                  have g4 := hq.symm
                  have g5 : decide (((s[k]'hlt).toNat : Int) < 32) = false := by simp; omega
                  have g6 : decide (((s[k]'hlt).toNat : Int) > 126) = false := by simp; omega
                  clear hq g3 HTB
                  go_wp2_with fail
                  go_ret
                  exact ⟨by rw [HE.out, HF.out]; rfl, rfl⟩
                | false =>
                  have HF := Lib.hid (show titB (s[k]'hlt) = true by rw [HTB.out, bne, g3]; simp [g1, g2])
                  rw [g3] at hq
                  have g4 := hq.symm
                  have g5 : decide (((s[k]'hlt).toNat : Int) < 32) = false := by simp; omega
                  have g6 : decide (((s[k]'hlt).toNat : Int) > 126) = false := by simp; omega
                  clear hq g3 HTB
                  go_wp2_with fail
                  go_round
                  case rel =>
                    refine ⟨k + 1, by omega, by go_num, Lib.hid (fun j h hj => ?_)⟩
                    by_cases e : j = k
                    · subst e; exact HF.out
                    · exact HK.out j h (by omega)
                  case measure => simp [intOf]; omega
              · have HF := Lib.hid (all_false (p := titB) hlt (by rw [HTB.out]; simp [g2]))
                have g5 : decide (((s[k]'hlt).toNat : Int) < 32) = false := by simp; omega
                have g6 : decide (((s[k]'hlt).toNat : Int) > 126) = true := by simp; omega
                clear hq HTB
                go_wp2_with fail
                go_ret
                exact ⟨by rw [HE.out, HF.out]; rfl, rfl⟩
            · have HF := Lib.hid (all_false (p := titB) hlt (by rw [HTB.out]; simp [g1]))
              have g5 : decide (((s[k]'hlt).toNat : Int) < 32) = true := by simp; omega
              clear hq HTB
              go_wp2_with fail
              go_ret
              exact ⟨by rw [HE.out, HF.out]; rfl, rfl⟩
          · obtain rfl : k = s.size := by omega
            have hl : ¬ (s.size : Int) < (s.size : Int) := by omega
            have HA := Lib.hid (show s.data.toList.all titB = true from all_iff.2 (fun j h => HK.out j h h))
            by_cases g : 40 < s.size
            · have g1 : decide ((s.size : Int) > 40) = true := by simp; omega
              go_wp2_with fail
              go_ret
              exact ⟨by rw [HE.out, HA.out, if_pos rfl, if_pos g]; rfl, rfl⟩
            · have g1 : decide ((s.size : Int) > 40) = false := by simp; omega
              go_wp2_with fail
              go_ret
              exact ⟨by rw [HE.out, HA.out, if_pos rfl, if_neg g]; rfl, rfl⟩
end Go.Proofs.YtiofekoadjgjdaaGreatDoor
