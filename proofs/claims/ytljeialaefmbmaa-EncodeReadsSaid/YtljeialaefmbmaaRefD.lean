/- Contracts of the reference of encodings: digits. -/
import Derived.Test.YtljeialaefmbmaaRefN
set_option linter.unusedSimpArgs false
set_option linter.unusedVariables false
namespace Go.Proofs.Ytljeialaefmbmaa
open Go.RowKit

set_option maxHeartbeats 4000000 in
set_option maxRecDepth 100000 in
theorem digs_any (s : ByteArray) (a : Nat) (most : Int) (ha : a ≤ s.size) (hs : s.size ≤ 4611686018427387904) (m0 : 0 ≤ most) (m1 : most ≤ 9223372036854775808) (w : World) :
    Calls Try.prog 53 #[.string s, .int .i64 (a : Int), .int .u64 most] w fun e w' => e = .returned (.tuple #[.int .u64 (digS s a most).1, .int .i64 ((digS s a most).2.1 : Int), .bool (digS s a most).2.2]) ∧ w = w' := by
  have r2 := digR_le ha
  have HD := Lib.hid (fun (k : Nat) (h : k < digR s a) (hk : a + k < s.size) => digR_in h hk)
  have HE := Lib.hid (fun hk => digR_out (s := s) (a := a) hk)
  have HB := Lib.hid (fun (j k : Nat) (h1 : j ≤ k) (h2 : k ≤ digR s a) => numN_mono (s := s) (a := a) r2 j k h1 h2)
  have HS := Lib.hid (show digS s a most = if digR s a ≠ 0 ∧ ¬ (at8 s a = 48 ∧ 1 < digR s a) ∧ numN s a (digR s a) ≤ most then (numN s a (digR s a), a + digR s a, true) else (0, 0, false) from rfl)
  generalize digS s a most = t at *
  generalize digR s a = r at *
  go_enter Try.func53, Try.ntmps53
  go_upto_block 0 with fail
  go_cut [9, 10] (fun s9 s10 wx => s9 = .int .i64 (((a + r : Nat) : Int)) ∧ s10 = .int .u64 (numN s a r) ∧ Hid (numN s a r ≤ most) ∧ w = wx)
  case first =>
    go_wp2_with fail
    go_loop [9, 10] (fun s9 s10 => ∃ k : Nat, k ≤ r ∧ s9 = .int .i64 ((a + k : Nat) : Int) ∧ s10 = .int .u64 (numN s a k) ∧ Hid (numN s a k ≤ most)) (fun s9 _ => (a + r - (intOf s9)).toNat)
    case atStart => exact ⟨0, Nat.zero_le _, rfl, rfl, Lib.hid (by simpa [numN] using m0)⟩
    case round =>
      obtain ⟨k, hk, rfl, rfl, hle⟩ := hrel
      have n0 := (HB.out k k (Nat.le_refl _) hk).1
      by_cases hlt : k < r
      · have hkl : a + k < s.size := by omega
        obtain ⟨d1, d2⟩ := HD.out k hlt hkl
        have HN := Lib.hid (numN_step s a k hkl)
        have hz := HB.out (k + 1) r hlt (Nat.le_refl _)
        have hle' := hle.out
        by_cases hmost : numN s a (k + 1) ≤ most
        · have HM := Lib.hid hmost
          rw [HN.out] at hmost
          have z1 : ¬ most < ((s[a + k]'hkl).toNat : Int) - 48 := by omega
          have z2 : ¬ (most - (((s[a + k]'hkl).toNat : Int) - 48)) / 10 < numN s a k := by omega
          have z3 : 10 * numN s a k ≤ 18446744073709551615 := by omega
          have z4 : 10 * numN s a k + (((s[a + k]'hkl).toNat : Int) - 48) ≤ 18446744073709551615 := by omega
          generalize hN : numN s a k = N at *
          clear hz hmost hle' hN hle
          go_wp2
          go_round
          case rel => exact ⟨k + 1, by omega, by go_num, by rw [HN.out]; go_num, HM⟩
          case measure => simp [intOf]; omega
        · have HT := Lib.hid (show t = (0, 0, false) by rw [HS.out, if_neg (fun h => by have := h.2.2; omega)])
          rw [HN.out] at hmost
          by_cases z1 : most < ((s[a + k]'hkl).toNat : Int) - 48
          · generalize hN : numN s a k = N at *
            clear hz hmost hle' hN hle
            go_wp2
            go_ret3
            exact ⟨by rw [HT.out]; rfl, rfl⟩
          · have z2 : (most - (((s[a + k]'hkl).toNat : Int) - 48)) / 10 < numN s a k := by omega
            generalize hN : numN s a k = N at *
            clear hz hmost hle' hN hle
            go_wp2
            go_ret3
            exact ⟨by rw [HT.out]; rfl, rfl⟩
      · obtain rfl : k = r := by omega
        clear hlt hk n0
        by_cases hsz : a + k < s.size
        · have x0 : ((a + k : Nat) : Int) < (s.size : Int) := by omega
          have hno := HE.out hsz
          rw [at8_eq hsz] at hno
          by_cases h48 : (48 : Int) ≤ ((s[a + k]'hsz).toNat : Int)
          · have h57 : ¬ ((s[a + k]'hsz).toNat : Int) ≤ 57 := by omega
            clear hno
            go_wp2_with fail
            go_meet
            exact ⟨rfl, rfl, hle, rfl⟩
          · clear hno
            go_wp2_with fail
            go_meet
            exact ⟨rfl, rfl, hle, rfl⟩
        · have x0 : ¬ ((a + k : Nat) : Int) < (s.size : Int) := by omega
          go_wp2_with fail
          go_meet
          exact ⟨rfl, rfl, hle, rfl⟩
  obtain ⟨rfl, rfl, hle, rfl⟩ := hcut
  by_cases hr0 : r = 0
  · have HT := Lib.hid (show t = (0, 0, false) by rw [HS.out, if_neg (fun h => h.1 hr0)])
    have y0 : ((a : Int) + (r : Int) == (a : Int)) = true := by simp; omega
    clear hr0
    go_wp2
    go_ret3
    exact ⟨by rw [HT.out]; rfl, rfl⟩
  have y0 : ((a : Int) + (r : Int) == (a : Int)) = false := by simp; omega
  have ha0 : a < s.size := by omega
  have za : (a : Int) < (s.size : Int) := by omega
  have e2 := at8_eq ha0
  by_cases hz : at8 s a = 48
  · have y3 : ((((s[a]'ha0).toNat : Int)) == 48) = true := by rw [← e2, hz]; rfl
    by_cases h1 : 1 < r
    · have HT := Lib.hid (show t = (0, 0, false) by rw [HS.out, if_neg (fun h => h.2.1 ⟨hz, h1⟩)])
      have y4 : (1 : Int) < (a : Int) + (r : Int) - (a : Int) := by omega
      clear hr0 e2 hz h1
      go_wp2
      go_ret3
      exact ⟨by rw [HT.out]; rfl, rfl⟩
    · have HT := Lib.hid (show t = (numN s a r, a + r, true) by rw [HS.out, if_pos ⟨hr0, fun h => h1 h.2, hle.out⟩])
      have y4 : ¬ (1 : Int) < (a : Int) + (r : Int) - (a : Int) := by omega
      clear hr0 e2 hz h1
      go_wp2
      go_ret3
      exact ⟨by rw [HT.out]; rfl, rfl⟩
  · have y3 : ((((s[a]'ha0).toNat : Int)) == 48) = false := by rw [← e2]; simp; omega
    have HT := Lib.hid (show t = (numN s a r, a + r, true) by rw [HS.out, if_pos ⟨hr0, fun h => hz h.1, hle.out⟩])
    clear hr0 e2 hz
    go_wp2
    go_ret3
    exact ⟨by rw [HT.out]; rfl, rfl⟩
end Go.Proofs.Ytljeialaefmbmaa
