/- Contracts of layer 4: the reference's checks. -/
import Derived.Test.YtpndapbflinhlaaDoorChk
set_option linter.unusedSimpArgs false
set_option linter.unusedVariables false
namespace Go.Proofs.YtpndapbflinhlaaDoor
open Go.RowKit

theorem within_is3 (c : UInt8) (lo hi : Int) (w : World) (b : Bool) (h : inB lo hi c = b) : Calls Tryd.prog 47 #[.int .u8 (c.toNat : Int), .int .u8 lo, .int .u8 hi] w fun e w' => e = .returned (.bool b) ∧ w = w' := within_is c lo hi w b h
set_option maxHeartbeats 1000000 in
set_option maxRecDepth 100000 in
theorem rname_any (s : ByteArray) (hs : s.size ≤ 9223372036854775807) (w : World) : Calls Tryd.prog 13 #[.string s] w fun e w' => e = .returned (.bool (nameS s)) ∧ w = w' := by
  by_cases h1 : s.size < 1
  · have HS := Lib.hid (show nameS s = false by unfold nameS; simp; omega)
    have k1 : decide ((s.size : Int) < 1) = true := by simp; omega
    go_enter Tryd.func13, Tryd.ntmps13
    go_wp2
    go_ret
    exact ⟨by rw [HS.out]; rfl, rfl⟩
  · have k1 : decide ((s.size : Int) < 1) = false := by simp; omega
    by_cases h2 : 16 < s.size
    · have HS := Lib.hid (show nameS s = false by unfold nameS; simp; omega)
      have k2 : decide ((s.size : Int) > 16) = true := by simp; omega
      go_enter Tryd.func13, Tryd.ntmps13
      go_wp2
      go_ret
      exact ⟨by rw [HS.out]; rfl, rfl⟩
    · have k2 : decide ((s.size : Int) > 16) = false := by simp; omega
      have h0 : 0 < s.size := by omega
      have e0 : firstB (inB 97 122) s = inB 97 122 (s[0]'h0) := dif_pos h0
      cases hl : inB 97 122 (s[0]'h0) with
      | false =>
        have HS := Lib.hid (show nameS s = false by unfold nameS; rw [e0, hl]; simp)
        have HL := Lib.hid hl
        clear hl e0
        go_enter Tryd.func13, Tryd.ntmps13
        go_wp2_with fail
        refine (within_is3 _ 97 122 _ false HL.out).mono ?_
        rintro e w1 ⟨rfl, rfl⟩
        go_wp2
        go_ret
        exact ⟨by rw [HS.out]; rfl, rfl⟩
      | true =>
        have HS := Lib.hid (show nameS s = allB nameB s by unfold nameS; rw [e0, hl]; simp; omega)
        have HL := Lib.hid hl
        clear hl e0
        go_enter Tryd.func13, Tryd.ntmps13
        go_wp2_with fail
        refine (within_is3 _ 97 122 _ true HL.out).mono ?_
        rintro e w1 ⟨rfl, rfl⟩
        go_wp2_with fail
        clear HL
        go_loop [3] (fun s3 => ∃ k : Nat, k ≤ s.size ∧ s3 = .int .i64 k ∧ Hid (∀ (j : Nat) (h : j < s.size), j < k → nameB (s[j]'h) = true)) (fun s3 => (s.size - (intOf s3)).toNat)
        case atStart => exact ⟨0, Nat.zero_le _, rfl, Lib.hid (fun j _ h => absurd h (Nat.not_lt_zero j))⟩
        case round =>
          obtain ⟨k, hk, rfl, HK⟩ := hrel
          by_cases hlt : k < s.size
          · have hl : (k : Int) < (s.size : Int) := by omega
            cases ha : inB 97 122 (s[k]'hlt) with
            | true =>
              have HA := Lib.hid ha
              clear ha
              go_wp2_with fail
              refine (within_is3 _ 97 122 _ true HA.out).mono ?_
              rintro e w1 ⟨rfl, rfl⟩
              go_wp2
              go_round
              case rel =>
                refine ⟨k + 1, by omega, by go_num, Lib.hid (fun j h hj => ?_)⟩
                by_cases e : j = k
                · subst e; unfold nameB; rw [HA.out]; rfl
                · exact HK.out j h (by omega)
              case measure => simp [intOf]; omega
            | false =>
              have HA := Lib.hid ha
              clear ha
              cases hd : inB 48 57 (s[k]'hlt) with
              | true =>
                have HD := Lib.hid hd
                clear hd
                go_wp2_with fail
                refine (within_is3 _ 97 122 _ false HA.out).mono ?_
                rintro e w1 ⟨rfl, rfl⟩
                go_wp2_with fail
                refine (rdigit_is _ _ true HD.out).mono ?_
                rintro e w1 ⟨rfl, rfl⟩
                go_wp2
                go_round
                case rel =>
                  refine ⟨k + 1, by omega, by go_num, Lib.hid (fun j h hj => ?_)⟩
                  by_cases e : j = k
                  · subst e; unfold nameB; rw [HA.out, HD.out]; rfl
                  · exact HK.out j h (by omega)
                case measure => simp [intOf]; omega
              | false =>
                have HD := Lib.hid hd
                clear hd
                cases hu : (s[k]'hlt == 95) with
                | true =>
                  have HU := Lib.hid hu
                  rw [eq95] at hu
                  have k3 : (((s[k]'hlt).toNat : Int) != 95) = false := by unfold bne; rw [hu]; rfl
                  clear hu
                  go_wp2_with fail
                  refine (within_is3 _ 97 122 _ false HA.out).mono ?_
                  rintro e w1 ⟨rfl, rfl⟩
                  go_wp2_with fail
                  refine (rdigit_is _ _ false HD.out).mono ?_
                  rintro e w1 ⟨rfl, rfl⟩
                  go_wp2
                  go_round
                  case rel =>
                    refine ⟨k + 1, by omega, by go_num, Lib.hid (fun j h hj => ?_)⟩
                    by_cases e : j = k
                    · subst e; unfold nameB; rw [HA.out, HD.out, HU.out]; rfl
                    · exact HK.out j h (by omega)
                  case measure => simp [intOf]; omega
                | false =>
                  have HX := Lib.hid (show allB nameB s = false from allB_false hlt (by unfold nameB; rw [HA.out, HD.out, hu]; rfl))
                  rw [eq95] at hu
                  have k3 : (((s[k]'hlt).toNat : Int) != 95) = true := by unfold bne; rw [hu]; rfl
                  clear hu
                  go_wp2_with fail
                  refine (within_is3 _ 97 122 _ false HA.out).mono ?_
                  rintro e w1 ⟨rfl, rfl⟩
                  go_wp2_with fail
                  refine (rdigit_is _ _ false HD.out).mono ?_
                  rintro e w1 ⟨rfl, rfl⟩
                  go_wp2
                  go_ret
                  exact ⟨by rw [HS.out, HX.out]; rfl, rfl⟩
          · obtain rfl : k = s.size := by omega
            go_wp2
            go_ret
            exact ⟨by rw [HS.out, allB_iff.2 (fun j h => HK.out j h h)]; rfl, rfl⟩

theorem all3 {p : UInt8 → Bool} {s : ByteArray} (h : s.size = 3) : allB p s = (p (s[0]'(by omega)) && (p (s[1]'(by omega)) && p (s[2]'(by omega)))) := by
  rw [Bool.eq_iff_iff, allB_iff]
  simp only [Bool.and_eq_true]
  constructor
  · intro hp
    exact ⟨hp 0 (by omega), hp 1 (by omega), hp 2 (by omega)⟩
  · rintro ⟨h0, h1, h2⟩ k hk
    obtain rfl | rfl | rfl : k = 0 ∨ k = 1 ∨ k = 2 := by omega
    · exact h0
    · exact h1
    · exact h2
set_option maxHeartbeats 400000 in
set_option maxRecDepth 100000 in
theorem rfed_any (s : ByteArray) (hs : s.size ≤ 9223372036854775807) (w : World) : Calls Tryd.prog 15 #[.string s] w fun e w' => e = .returned (.bool (fedS s)) ∧ w = w' := by
  by_cases h1 : s.size = 3
  · have h0 : 0 < s.size := by omega
    have h01 : 1 < s.size := by omega
    have h02 : 2 < s.size := by omega
    have HS := Lib.hid (show fedS s = (inB 65 90 (s[0]'h0) && (inB 65 90 (s[1]'h01) && inB 65 90 (s[2]'h02))) by unfold fedS; rw [all3 h1]; simp [h1])
    have k1 : ((s.size : Int) == 3) = true := by simp; omega
    clear h1
    cases ha : inB 65 90 (s[0]'h0) with
    | false =>
      have HA := Lib.hid ha
      clear ha
      go_enter Tryd.func15, Tryd.ntmps15
      go_wp2_with fail
      refine (within_is3 _ 65 90 _ false HA.out).mono ?_
      rintro e w1 ⟨rfl, rfl⟩
      go_wp2
      go_ret
      exact ⟨by rw [HS.out, HA.out]; rfl, rfl⟩
    | true =>
      have HA := Lib.hid ha
      clear ha
      cases hb : inB 65 90 (s[1]'h01) with
      | false =>
        have HB := Lib.hid hb
        clear hb
        go_enter Tryd.func15, Tryd.ntmps15
        go_wp2_with fail
        refine (within_is3 _ 65 90 _ true HA.out).mono ?_
        rintro e w1 ⟨rfl, rfl⟩
        go_wp2_with fail
        refine (within_is3 _ 65 90 _ false HB.out).mono ?_
        rintro e w1 ⟨rfl, rfl⟩
        go_wp2
        go_ret
        exact ⟨by rw [HS.out, HA.out, HB.out]; rfl, rfl⟩
      | true =>
        have HB := Lib.hid hb
        clear hb
        go_enter Tryd.func15, Tryd.ntmps15
        go_wp2_with fail
        refine (within_is3 _ 65 90 _ true HA.out).mono ?_
        rintro e w1 ⟨rfl, rfl⟩
        go_wp2_with fail
        refine (within_is3 _ 65 90 _ true HB.out).mono ?_
        rintro e w1 ⟨rfl, rfl⟩
        go_wp2_with fail
        refine (within_any _ 65 90 _).mono ?_
        rintro e w1 ⟨rfl, rfl⟩
        go_wp2
        go_ret
        exact ⟨by rw [HS.out, HA.out, HB.out]; rfl, rfl⟩
  · have HS := Lib.hid (show fedS s = false by unfold fedS; simp [h1])
    have k1 : ((s.size : Int) == 3) = false := by simp; omega
    clear h1
    go_enter Tryd.func15, Tryd.ntmps15
    go_wp2
    go_ret
    exact ⟨by rw [HS.out]; rfl, rfl⟩

set_option maxHeartbeats 1000000 in
set_option maxRecDepth 100000 in
theorem rtitle_any (s : ByteArray) (hs : s.size ≤ 9223372036854775807) (w : World) : Calls Tryd.prog 19 #[.string s] w fun e w' => e = .returned (.bool (titleS s)) ∧ w = w' := by
  by_cases h1 : s.size < 1
  · have HS := Lib.hid (show titleS s = false by unfold titleS; simp; omega)
    have k1 : decide ((s.size : Int) < 1) = true := by simp; omega
    go_enter Tryd.func19, Tryd.ntmps19
    go_wp2
    go_ret
    exact ⟨by rw [HS.out]; rfl, rfl⟩
  · have k1 : decide ((s.size : Int) < 1) = false := by simp; omega
    by_cases h2 : 40 < s.size
    · have HS := Lib.hid (show titleS s = false by unfold titleS; simp; omega)
      have k2 : decide ((s.size : Int) > 40) = true := by simp; omega
      go_enter Tryd.func19, Tryd.ntmps19
      go_wp2
      go_ret
      exact ⟨by rw [HS.out]; rfl, rfl⟩
    · have k2 : decide ((s.size : Int) > 40) = false := by simp; omega
      have h0 : 0 < s.size := by omega
      have e0 : blankAt s 0 = (s[0]'h0 == 32) := dif_pos h0
      cases hl : (s[0]'h0 == 32) with
      | true =>
        have HS := Lib.hid (show titleS s = false by unfold titleS; rw [e0, hl]; simp)
        rw [eq32] at hl
        clear e0
        go_enter Tryd.func19, Tryd.ntmps19
        go_wp2
        go_ret
        exact ⟨by rw [HS.out]; rfl, rfl⟩
      | false =>
        have hL : s.size - 1 < s.size := by omega
        have e1 : blankAt s (s.size - 1) = (s[s.size - 1]'hL == 32) := dif_pos hL
        cases hm : (s[s.size - 1]'hL == 32) with
        | true =>
          have HS := Lib.hid (show titleS s = false by unfold titleS; rw [e1, hm]; simp)
          rw [eq32] at hl hm
          clear e0 e1
          go_enter Tryd.func19, Tryd.ntmps19
          go_wp2
          go_ret
          exact ⟨by rw [HS.out]; rfl, rfl⟩
        | false =>
          have HS := Lib.hid (show titleS s = allB titleB s by unfold titleS; rw [e0, e1, hl, hm]; simp; omega)
          rw [eq32] at hl hm
          clear e0 e1
          go_enter Tryd.func19, Tryd.ntmps19
          go_wp2_with fail
          clear hl hm
          go_loop [3] (fun s3 => ∃ k : Nat, k ≤ s.size ∧ s3 = .int .i64 k ∧ Hid (∀ (j : Nat) (h : j < s.size), j < k → titleB (s[j]'h) = true)) (fun s3 => (s.size - (intOf s3)).toNat)
          case atStart => exact ⟨0, Nat.zero_le _, rfl, Lib.hid (fun j _ h => absurd h (Nat.not_lt_zero j))⟩
          case round =>
            obtain ⟨k, hk, rfl, HK⟩ := hrel
            by_cases hlt : k < s.size
            · have hl : (k : Int) < (s.size : Int) := by omega
              cases ha : inB 32 126 (s[k]'hlt) with
              | false =>
                have HX := Lib.hid (show allB titleB s = false from allB_false hlt (by unfold titleB; rw [ha]; rfl))
                have HA := Lib.hid ha
                clear ha
                go_wp2_with fail
                refine (within_is3 _ 32 126 _ false HA.out).mono ?_
                rintro e w1 ⟨rfl, rfl⟩
                go_wp2
                go_ret
                exact ⟨by rw [HS.out, HX.out]; rfl, rfl⟩
              | true =>
                have HA := Lib.hid ha
                clear ha
                cases hu : (s[k]'hlt == 34) with
                | true =>
                  have HX := Lib.hid (show allB titleB s = false from allB_false hlt (by unfold titleB bne; rw [HA.out, hu]; rfl))
                  rw [eq34] at hu
                  go_wp2_with fail
                  refine (within_is3 _ 32 126 _ true HA.out).mono ?_
                  rintro e w1 ⟨rfl, rfl⟩
                  go_wp2
                  go_ret
                  exact ⟨by rw [HS.out, HX.out]; rfl, rfl⟩
                | false =>
                  have HU := Lib.hid hu
                  rw [eq34] at hu
                  go_wp2_with fail
                  refine (within_is3 _ 32 126 _ true HA.out).mono ?_
                  rintro e w1 ⟨rfl, rfl⟩
                  go_wp2
                  go_round
                  case rel =>
                    refine ⟨k + 1, by omega, by go_num, Lib.hid (fun j h hj => ?_)⟩
                    by_cases e : j = k
                    · subst e; unfold titleB bne; rw [HA.out, HU.out]; rfl
                    · exact HK.out j h (by omega)
                  case measure => simp [intOf]; omega
            · obtain rfl : k = s.size := by omega
              go_wp2
              go_ret
              exact ⟨by rw [HS.out, allB_iff.2 (fun j h => HK.out j h h)]; rfl, rfl⟩
end Go.Proofs.YtpndapbflinhlaaDoor
