/- Contract of layer 4: the reference's Code. -/
import Derived.Test.YtlleebgkglbelaaRChk
set_option linter.unusedSimpArgs false
set_option linter.unusedVariables false
namespace Go.Proofs.Ytlleebgkglbelaa
open Go.RowKit

def letB (c : UInt8) : Bool := inB 65 90 c || inB 97 122 c
theorem let_dig (c : UInt8) (h : letB c = true) : inB 48 57 c = false := by
  unfold letB inB at *
  simp only [Bool.or_eq_true, Bool.and_eq_true, decide_eq_true_eq] at h
  rw [Bool.and_eq_false_iff]
  simp only [decide_eq_false_iff_not]
  omega
theorem code_parts (c : UInt8) : codeB c = (letB c || inB 48 57 c) := by
  unfold codeB letB
  cases inB 97 122 c <;> cases inB 65 90 c <;> rfl
/-- a letter among the first k -/
def LetN (s : ByteArray) (k : Nat) (b : Bool) : Prop := (b = true ↔ ∃ (j : Nat) (h : j < s.size), j < k ∧ letB (s[j]'h) = true)
theorem letN_zero (s : ByteArray) : LetN s 0 false := by
  unfold LetN
  simp
theorem letN_step {s : ByteArray} {k : Nat} {b : Bool} (h : LetN s k b) (hk : k < s.size) (a : Bool) (ha : letB (s[k]'hk) = a) : LetN s (k + 1) (b || a) := by
  unfold LetN at *
  rw [Bool.or_eq_true, h]
  constructor
  · rintro (⟨j, h1, h2, h3⟩ | h1)
    · exact ⟨j, h1, by omega, h3⟩
    · exact ⟨k, hk, by omega, by rw [ha]; exact h1⟩
  · rintro ⟨j, h1, h2, h3⟩
    by_cases e : j = k
    · subst e; right; rw [← ha]; exact h3
    · left; exact ⟨j, h1, by omega, h3⟩
theorem letN_end {s : ByteArray} {b : Bool} (h : LetN s s.size b) (hc : allB codeB s = true) : b = !allB (inB 48 57) s := by
  unfold LetN at h
  cases hd : allB (inB 48 57) s with
  | true =>
    cases hb : b with
    | false => rfl
    | true =>
      obtain ⟨j, h1, _, h3⟩ := h.1 hb
      have := let_dig _ h3
      rw [allB_iff.1 hd j h1] at this
      contradiction
  | false =>
    cases hb : b with
    | true => rfl
    | false =>
      exfalso
      have : allB (inB 48 57) s = true := by
        rw [allB_iff]
        intro j hj
        have c1 := allB_iff.1 hc j hj
        rw [code_parts] at c1
        cases hl : letB (s[j]'hj) with
        | false => rw [hl] at c1; simpa using c1
        | true =>
          have := h.2 ⟨j, hj, hj, hl⟩
          rw [hb] at this
          contradiction
      rw [hd] at this
      contradiction
set_option maxHeartbeats 1000000 in
set_option maxRecDepth 100000 in
theorem rcode_any (s : ByteArray) (hs : s.size ≤ 9223372036854775807) (w : World) : Calls Try.prog 48 #[.string s] w fun e w' => e = .returned (.bool (codeS s)) ∧ w = w' := by
  by_cases h1 : s.size < 1
  · have HS := Lib.hid (show codeS s = false by unfold codeS; simp; omega)
    have k1 : decide ((s.size : Int) < 1) = true := by simp; omega
    go_enter Try.func48, Try.ntmps48
    go_wp2
    go_ret
    exact ⟨by rw [HS.out]; rfl, rfl⟩
  · have k1 : decide ((s.size : Int) < 1) = false := by simp; omega
    by_cases h2 : 8 < s.size
    · have HS := Lib.hid (show codeS s = false by unfold codeS; simp; omega)
      have k2 : decide ((s.size : Int) > 8) = true := by simp; omega
      go_enter Try.func48, Try.ntmps48
      go_wp2
      go_ret
      exact ⟨by rw [HS.out]; rfl, rfl⟩
    · have k2 : decide ((s.size : Int) > 8) = false := by simp; omega
      have HS := Lib.hid (show codeS s = (!allB (inB 48 57) s && allB codeB s) by
        have h3 : decide (1 ≤ s.size ∧ s.size ≤ 8) = true := by simp; omega
        rw [codeS, h3, Bool.true_and])
      go_enter Try.func48, Try.ntmps48
      go_wp2_with fail
      go_loop [3, 4] (fun s3 s4 => ∃ (k : Nat) (b : Bool), k ≤ s.size ∧ s3 = .bool b ∧ s4 = .int .i64 k ∧ Hid (LetN s k b) ∧ Hid (∀ (j : Nat) (h : j < s.size), j < k → codeB (s[j]'h) = true)) (fun _ s4 => (s.size - (intOf s4)).toNat)
      case atStart => exact ⟨0, false, Nat.zero_le _, rfl, rfl, Lib.hid (letN_zero s), Lib.hid (fun j _ h => absurd h (Nat.not_lt_zero j))⟩
      case round =>
        obtain ⟨k, b, hk, rfl, rfl, HB, HK⟩ := hrel
        by_cases hlt : k < s.size
        · have hl : (k : Int) < (s.size : Int) := by omega
          cases hu : inB 65 90 (s[k]'hlt) with
          | true =>
            have HU := Lib.hid hu
            have HL := Lib.hid (show letB (s[k]'hlt) = true by unfold letB; rw [hu]; rfl)
            have HC := Lib.hid (show codeB (s[k]'hlt) = true by rw [code_parts, HL.out]; rfl)
            clear hu
            cases b with
            | true =>
              go_wp2_with fail
              refine (within_is3 _ 65 90 _ true HU.out).mono ?_
              rintro e w1 ⟨rfl, rfl⟩
              go_wp2
              go_round
              case rel =>
                refine ⟨k + 1, (true || true), by omega, rfl, by go_num, Lib.hid (letN_step HB.out hlt true HL.out), Lib.hid (fun j h hj => ?_)⟩
                by_cases e : j = k
                · subst e; exact HC.out
                · exact HK.out j h (by omega)
              case measure => simp [intOf]; omega
            | false =>
              go_wp2_with fail
              refine (within_is3 _ 65 90 _ true HU.out).mono ?_
              rintro e w1 ⟨rfl, rfl⟩
              go_wp2
              go_round
              case rel =>
                refine ⟨k + 1, (false || true), by omega, rfl, by go_num, Lib.hid (letN_step HB.out hlt true HL.out), Lib.hid (fun j h hj => ?_)⟩
                by_cases e : j = k
                · subst e; exact HC.out
                · exact HK.out j h (by omega)
              case measure => simp [intOf]; omega
          | false =>
            have HU := Lib.hid hu
            cases ha : inB 97 122 (s[k]'hlt) with
            | true =>
              have HA := Lib.hid ha
              have HL := Lib.hid (show letB (s[k]'hlt) = true by unfold letB; rw [hu, ha]; rfl)
              have HC := Lib.hid (show codeB (s[k]'hlt) = true by rw [code_parts, HL.out]; rfl)
              clear hu ha
              cases b with
              | true =>
                go_wp2_with fail
                refine (within_is3 _ 65 90 _ false HU.out).mono ?_
                rintro e w1 ⟨rfl, rfl⟩
                go_wp2_with fail
                refine (within_is3 _ 97 122 _ true HA.out).mono ?_
                rintro e w1 ⟨rfl, rfl⟩
                go_wp2
                go_round
                case rel =>
                  refine ⟨k + 1, (true || true), by omega, rfl, by go_num, Lib.hid (letN_step HB.out hlt true HL.out), Lib.hid (fun j h hj => ?_)⟩
                  by_cases e : j = k
                  · subst e; exact HC.out
                  · exact HK.out j h (by omega)
                case measure => simp [intOf]; omega
              | false =>
                go_wp2_with fail
                refine (within_is3 _ 65 90 _ false HU.out).mono ?_
                rintro e w1 ⟨rfl, rfl⟩
                go_wp2_with fail
                refine (within_is3 _ 97 122 _ true HA.out).mono ?_
                rintro e w1 ⟨rfl, rfl⟩
                go_wp2
                go_round
                case rel =>
                  refine ⟨k + 1, (false || true), by omega, rfl, by go_num, Lib.hid (letN_step HB.out hlt true HL.out), Lib.hid (fun j h hj => ?_)⟩
                  by_cases e : j = k
                  · subst e; exact HC.out
                  · exact HK.out j h (by omega)
                case measure => simp [intOf]; omega
            | false =>
              have HA := Lib.hid ha
              have HL := Lib.hid (show letB (s[k]'hlt) = false by unfold letB; rw [hu, ha]; rfl)
              cases hd : inB 48 57 (s[k]'hlt) with
              | true =>
                have HD := Lib.hid hd
                have HC := Lib.hid (show codeB (s[k]'hlt) = true by rw [code_parts, HL.out, hd]; rfl)
                clear hu ha hd
                cases b with
                | true =>
                  go_wp2_with fail
                  refine (within_is3 _ 65 90 _ false HU.out).mono ?_
                  rintro e w1 ⟨rfl, rfl⟩
                  go_wp2_with fail
                  refine (within_is3 _ 97 122 _ false HA.out).mono ?_
                  rintro e w1 ⟨rfl, rfl⟩
                  go_wp2_with fail
                  refine (rdigit_is _ _ true HD.out).mono ?_
                  rintro e w1 ⟨rfl, rfl⟩
                  go_wp2
                  go_round
                  case rel =>
                    refine ⟨k + 1, (true || false), by omega, rfl, by go_num, Lib.hid (letN_step HB.out hlt false HL.out), Lib.hid (fun j h hj => ?_)⟩
                    by_cases e : j = k
                    · subst e; exact HC.out
                    · exact HK.out j h (by omega)
                  case measure => simp [intOf]; omega
                | false =>
                  go_wp2_with fail
                  refine (within_is3 _ 65 90 _ false HU.out).mono ?_
                  rintro e w1 ⟨rfl, rfl⟩
                  go_wp2_with fail
                  refine (within_is3 _ 97 122 _ false HA.out).mono ?_
                  rintro e w1 ⟨rfl, rfl⟩
                  go_wp2_with fail
                  refine (rdigit_is _ _ true HD.out).mono ?_
                  rintro e w1 ⟨rfl, rfl⟩
                  go_wp2
                  go_round
                  case rel =>
                    refine ⟨k + 1, (false || false), by omega, rfl, by go_num, Lib.hid (letN_step HB.out hlt false HL.out), Lib.hid (fun j h hj => ?_)⟩
                    by_cases e : j = k
                    · subst e; exact HC.out
                    · exact HK.out j h (by omega)
                  case measure => simp [intOf]; omega
              | false =>
                have HD := Lib.hid hd
                have HX := Lib.hid (show allB codeB s = false from allB_false hlt (by rw [code_parts, HL.out, hd]; rfl))
                clear hu ha hd
                go_wp2_with fail
                refine (within_is3 _ 65 90 _ false HU.out).mono ?_
                rintro e w1 ⟨rfl, rfl⟩
                go_wp2_with fail
                refine (within_is3 _ 97 122 _ false HA.out).mono ?_
                rintro e w1 ⟨rfl, rfl⟩
                go_wp2_with fail
                refine (rdigit_is _ _ false HD.out).mono ?_
                rintro e w1 ⟨rfl, rfl⟩
                go_wp2
                go_ret
                exact ⟨by rw [HS.out, HX.out, Bool.and_false]; rfl, rfl⟩
        · obtain rfl : k = s.size := by omega
          go_wp2
          go_ret
          refine ⟨?_, rfl⟩
          have hc := allB_iff.2 (fun j h => HK.out j h h)
          rw [HS.out, hc, Bool.and_true, ← letN_end HB.out hc]
          rfl
end Go.Proofs.Ytlleebgkglbelaa
