/- Contract of layer 9: begin. -/
import Derived.Test.YtohalocbghhenaaGreatDoorKind
import Derived.Test.YtohalocbghhenaaGreatDoorNum
import Derived.WalkMore
set_option linter.unusedSimpArgs false
set_option linter.unusedVariables false
namespace Go.Proofs.YtohalocbghhenaaGreatDoor
open Go.RowKit

theorem bne10 (c : UInt8) : (c != 10) = (((c.toNat : Int)) != 10) := by
  have := u8_eq c 10 (by decide)
  have e : (UInt8.ofNat 10) = 10 := rfl
  rw [e] at this
  unfold bne
  rw [this]; rfl
set_option maxHeartbeats 1000000 in
set_option maxRecDepth 100000 in
theorem begin_any (s : ByteArray) (hs : s.size ≤ 1000000) (p : Nat) (hp : p ≤ s.size) (w : World) (hT : Tabs w) : Calls Tryz.prog 90 #[.string s, .int .i64 (p : Int)] w fun e w' => e = .returned (.int .i64 ((p + skN false (s.data.toList.drop p) : Nat) : Int)) ∧ w = w' := by
  have HT := Lib.hid hT
  have HE := Lib.hid (show ∃ x, p + skN false (s.data.toList.drop p) = x from ⟨_, rfl⟩)
  clear hT
  obtain ⟨x, hx⟩ := HE.out
  have HX := Lib.hid hx
  rw [hx]
  clear hx HE
  go_enter Tryz.func90, Tryz.ntmps90
  go_wp2_with fail
  go_step3
  go_wp2_with fail
  go_step3
  go_wp2_with fail
  go_loop [1, 5] (fun s1 s5 => ∃ (k : Nat) (b : Bool), k ≤ s.size ∧ s1 = .int .i64 (k : Int) ∧ s5 = .bool b ∧ Hid (k + skN b (s.data.toList.drop k) = x)) (fun s1 _ => (s.size - (intOf s1)).toNat)
  case atStart => exact ⟨p, false, hp, rfl, rfl, HX⟩
  case round =>
    obtain ⟨k, b, hk, rfl, rfl, HK⟩ := hrel
    by_cases hlt : k < s.size
    · have hl : (k : Int) < (s.size : Int) := by omega
      have HKI := Lib.hid (kind_any (s[k]'hlt) _ HT.out)
      have HD := Lib.hid (drop_cons s k hlt)
      cases b with
      | true =>
        have HN := Lib.hid (show k + 1 + skN (s[k]'hlt != 10) (s.data.toList.drop (k + 1)) = x by
          have := HK.out
          rw [HD.out, skN] at this
          omega)
        have HQ := Lib.hid (bne10 (s[k]'hlt))
        generalize ((kB (s[k]'hlt) : Nat) : Int) = q at *
        go_wp2_with fail
        refine HKI.out.mono ?_
        rintro e w1 ⟨rfl, rfl⟩
        go_wp2_with fail
        go_round
        case rel => exact ⟨k + 1, _, by omega, by go_num, by rw [HQ.out], HN⟩
        case measure => simp [intOf]; omega
      | false =>
        by_cases g1 : kB (s[k]'hlt) = 2
        · have HN := Lib.hid (show k + 1 + skN true (s.data.toList.drop (k + 1)) = x by
            have := HK.out
            rw [HD.out, skN, if_pos g1] at this
            omega)
          rw [g1] at HKI
          go_wp2_with fail
          refine HKI.out.mono ?_
          rintro e w1 ⟨rfl, rfl⟩
          go_wp2_with fail
          go_round
          case rel => exact ⟨k + 1, true, by omega, by go_num, rfl, HN⟩
          case measure => simp [intOf]; omega
        · by_cases g2 : kB (s[k]'hlt) = 1
          · have HN := Lib.hid (show k + 1 + skN false (s.data.toList.drop (k + 1)) = x by
              have := HK.out
              rw [HD.out, skN, if_neg g1, if_pos g2] at this
              omega)
            rw [g2] at HKI
            go_wp2_with fail
            refine HKI.out.mono ?_
            rintro e w1 ⟨rfl, rfl⟩
            go_wp2_with fail
            go_round
            case rel => exact ⟨k + 1, false, by omega, by go_num, rfl, HN⟩
            case measure => simp [intOf]; omega
          · have HN := Lib.hid (show k = x by
              have := HK.out
              rw [HD.out, skN, if_neg g1, if_neg g2] at this
              omega)
            have g3 : (((kB (s[k]'hlt) : Nat) : Int) == 2) = false := by simp; omega
            have g4 : (((kB (s[k]'hlt) : Nat) : Int) != 1) = true := by simp; omega
            generalize ((kB (s[k]'hlt) : Nat) : Int) = q at *
            clear g1 g2
            go_wp2_with fail
            refine HKI.out.mono ?_
            rintro e w1 ⟨rfl, rfl⟩
            go_wp2_with fail
            rw [Exit.noGoto_ret]
            go_ret
            exact ⟨ret_int (by have := HN.out; omega), rfl⟩
    · obtain rfl : k = s.size := by omega
      have hl : ¬ (s.size : Int) < (s.size : Int) := by omega
      have HN := Lib.hid (show s.size = x by
        have := HK.out
        rw [drop_end s _ (Nat.le_refl _)] at this
        cases b <;> simpa [skN] using this)
      go_wp2_with fail
      go_ret
      exact ⟨ret_int (by have := HN.out; omega), rfl⟩
end Go.Proofs.YtohalocbghhenaaGreatDoor
