/- Contracts of the reference of encodings: Number, String. -/
import Derived.Test.YtljeialaefmbmaaRefD
set_option linter.unusedSimpArgs false
set_option linter.unusedVariables false
namespace Go.Proofs.Ytljeialaefmbmaa
open Go.RowKit

def numberS (s : ByteArray) (a : Nat) : Int × Nat × Bool := if (headS s a).kind = 1 then ((headS s a).n, (headS s a).fin, true) else (0, 0, false)
def stringS (s : ByteArray) (a : Nat) : ByteArray × Nat × Bool := if (headS s a).kind = 2 then ((headS s a).text, (headS s a).fin, true) else (⟨#[]⟩, 0, false)
theorem digS_bd (s : ByteArray) (a : Nat) (most : Int) (ha : a ≤ s.size) (m0 : 0 ≤ most) : 0 ≤ (digS s a most).1 ∧ (digS s a most).1 ≤ most ∧ (digS s a most).2.1 ≤ s.size := by
  have hR := digR_le ha
  unfold digS
  split
  · rename_i h
    have := numN_mono hR (digR s a) (digR s a) (Nat.le_refl _) (Nat.le_refl _)
    exact ⟨this.1, h.2.2, hR⟩
  · exact ⟨Int.le_refl _, m0, Nat.zero_le _⟩
def DG (s : ByteArray) (a : Nat) (most n : Int) (e : Nat) (ok : Bool) : Prop := ∀ W, Calls Try.prog 53 #[.string s, .int .i64 (a : Int), .int .u64 most] W fun r w' => r = .returned (.tuple #[.int .u64 n, .int .i64 (e : Int), .bool ok]) ∧ W = w'
theorem digs_DG (s : ByteArray) (a : Nat) (most : Int) (ha : a ≤ s.size) (hs : s.size ≤ 4611686018427387904) (m0 : 0 ≤ most) (m1 : most ≤ 9223372036854775808) : DG s a most (digS s a most).1 (digS s a most).2.1 (digS s a most).2.2 :=
  fun W => digs_any s a most ha hs m0 m1 W

set_option maxHeartbeats 1000000 in
theorem num_out (s : ByteArray) (a : Nat) (h : ¬ (a < s.size ∧ at8 s a = 105)) (hs : s.size ≤ 4611686018427387904) (w : World) :
    Calls Try.prog 44 #[.string s, .int .i64 (a : Int)] w fun e w' => e = .returned (.tuple #[.int .i64 0, .int .i64 0, .bool false]) ∧ w = w' := by
  by_cases h0 : a < s.size
  · have h1 : at8 s a ≠ 105 := fun h1 => h ⟨h0, h1⟩
    rw [at8_eq h0] at h1
    have y0 : ((((s[a]'h0).toNat : Int)) != 105) = true := by simp [bne]; omega
    have x0 : ¬ (s.size : Int) ≤ (a : Int) := by omega
    clear h h1
    go_enter Try.func44, Try.ntmps44
    go_wp2
    go_ret3
    exact ⟨rfl, rfl⟩
  · have x0 : (s.size : Int) ≤ (a : Int) := by omega
    clear h h0
    go_enter Try.func44, Try.ntmps44
    go_wp2
    go_ret3
    exact ⟨rfl, rfl⟩

set_option maxHeartbeats 2000000 in
set_option maxRecDepth 100000 in
theorem num_neg (s : ByteArray) (a : Nat) (h0 : a < s.size) (h1 : at8 s a = 105) (h2 : a + 1 < s.size) (h3 : at8 s (a + 1) = 45) (hs : s.size ≤ 4611686018427387904) (n : Int) (e : Nat) (ok : Bool) (HD : Hid (DG s (a + 2) 9223372036854775808 n e ok)) (n0 : 0 ≤ n) (n1 : n ≤ 9223372036854775808) (he : e ≤ s.size) (w : World) :
    Calls Try.prog 44 #[.string s, .int .i64 (a : Int)] w fun r w' => r = .returned (if (ok = true ∧ e < s.size ∧ at8 s e = 59) ∧ n ≠ 0 then .tuple #[.int .i64 (-n), .int .i64 ((e + 1 : Nat) : Int), .bool true] else .tuple #[.int .i64 0, .int .i64 0, .bool false]) ∧ w = w' := by
  have HD' : Hid (∀ W, Calls Try.prog 53 #[.string s, .int .i64 ((a : Int) + 2), .int .u64 9223372036854775808] W fun r w' => r = .returned (.tuple #[.int .u64 n, .int .i64 (e : Int), .bool ok]) ∧ W = w') := HD.out
  have x0 : ¬ (s.size : Int) ≤ (a : Int) := by omega
  have x1 : ((a : Int) + 1) < (s.size : Int) := by omega
  rw [at8_eq h0] at h1
  rw [at8_eq h2] at h3
  have y0 : ((((s[a]'h0).toNat : Int)) != 105) = false := by simp [bne]; omega
  have y1 : ((((s[a + 1]'h2).toNat : Int)) == 45) = true := by simp; omega
  clear HD h1 h3
  cases ok with
  | false =>
    rw [if_neg (by simp)]
    go_enter Try.func44, Try.ntmps44
    go_wp2_with fail
    refine (HD'.out _).mono ?_
    rintro r w1 ⟨rfl, rfl⟩
    go_wp2
    go_ret3
    exact ⟨rfl, rfl⟩
  | true =>
    by_cases e0 : e < s.size
    · have x2 : ¬ (s.size : Int) ≤ (e : Int) := by omega
      have x3 : (e : Int) < (s.size : Int) := by omega
      have e8 := at8_eq e0
      by_cases e1 : at8 s e = 59
      · have y2 : ((((s[e]'e0).toNat : Int)) != 59) = false := by rw [← e8, e1]; rfl
        by_cases e2 : n = 0
        · rw [if_neg (fun h => h.2 e2)]
          subst e2
          clear e1 e8
          go_enter Try.func44, Try.ntmps44
          go_wp2_with fail
          refine (HD'.out _).mono ?_
          rintro r w1 ⟨rfl, rfl⟩
          go_wp2
          go_ret3
          exact ⟨rfl, rfl⟩
        · rw [if_pos ⟨⟨rfl, e0, e1⟩, e2⟩]
          have y3 : (n == 0) = false := by simpa using e2
          have n2 : 1 ≤ n := by omega
          have y4 : IntKind.i64.wrap (n - 1) = n - 1 := IntWalk.i64_in _ (by omega)
          clear e1 e8 e2
          go_enter Try.func44, Try.ntmps44
          go_wp2_with fail
          refine (HD'.out _).mono ?_
          rintro r w1 ⟨rfl, rfl⟩
          go_wp2
          go_ret3
          refine ⟨?_, rfl⟩
          rw [show -n = -(n - 1) - 1 by omega]
          rfl
      · rw [if_neg (fun h => e1 h.1.2.2)]
        have y2 : ((((s[e]'e0).toNat : Int)) != 59) = true := by rw [← e8]; simp [bne]; omega
        clear e1 e8
        go_enter Try.func44, Try.ntmps44
        go_wp2_with fail
        refine (HD'.out _).mono ?_
        rintro r w1 ⟨rfl, rfl⟩
        go_wp2
        go_ret3
        exact ⟨rfl, rfl⟩
    · rw [if_neg (fun h => e0 h.1.2.1)]
      have x2 : (s.size : Int) ≤ (e : Int) := by omega
      clear e0
      go_enter Try.func44, Try.ntmps44
      go_wp2_with fail
      refine (HD'.out _).mono ?_
      rintro r w1 ⟨rfl, rfl⟩
      go_wp2
      go_ret3
      exact ⟨rfl, rfl⟩

set_option maxHeartbeats 2000000 in
set_option maxRecDepth 100000 in
theorem num_pos (s : ByteArray) (a : Nat) (h0 : a < s.size) (h1 : at8 s a = 105) (h2 : ¬ (a + 1 < s.size ∧ at8 s (a + 1) = 45)) (hs : s.size ≤ 4611686018427387904) (n : Int) (e : Nat) (ok : Bool) (HD : Hid (DG s (a + 1) 9223372036854775807 n e ok)) (n0 : 0 ≤ n) (n1 : n ≤ 9223372036854775807) (he : e ≤ s.size) (w : World) :
    Calls Try.prog 44 #[.string s, .int .i64 (a : Int)] w fun r w' => r = .returned (if ok = true ∧ e < s.size ∧ at8 s e = 59 then .tuple #[.int .i64 n, .int .i64 ((e + 1 : Nat) : Int), .bool true] else .tuple #[.int .i64 0, .int .i64 0, .bool false]) ∧ w = w' := by
  have HD' : Hid (∀ W, Calls Try.prog 53 #[.string s, .int .i64 ((a : Int) + 1), .int .u64 9223372036854775807] W fun r w' => r = .returned (.tuple #[.int .u64 n, .int .i64 (e : Int), .bool ok]) ∧ W = w') := HD.out
  have x0 : ¬ (s.size : Int) ≤ (a : Int) := by omega
  rw [at8_eq h0] at h1
  have y0 : ((((s[a]'h0).toNat : Int)) != 105) = false := by simp [bne]; omega
  have hw : (∃ h : a + 1 < s.size, ((((s[a + 1]'h).toNat : Int)) == 45) = false) ∨ ¬ ((a : Int) + 1) < (s.size : Int) := by
    by_cases h3 : a + 1 < s.size
    · left
      refine ⟨h3, ?_⟩
      have : at8 s (a + 1) ≠ 45 := fun hc => h2 ⟨h3, hc⟩
      rw [at8_eq h3] at this
      simp; omega
    · right; omega
  clear HD h1 h2
  have y4 : IntKind.i64.wrap n = n := IntWalk.i64_in _ (by omega)
  rcases hw with ⟨h3, y1⟩ | x1
  all_goals
    cases ok with
    | false =>
      rw [if_neg (by simp)]
      go_enter Try.func44, Try.ntmps44
      go_wp2_with fail
      refine (HD'.out _).mono ?_
      rintro r w1 ⟨rfl, rfl⟩
      go_wp2
      go_ret3
      exact ⟨rfl, rfl⟩
    | true =>
      by_cases e0 : e < s.size
      · have x2 : ¬ (s.size : Int) ≤ (e : Int) := by omega
        have x3 : (e : Int) < (s.size : Int) := by omega
        have e8 := at8_eq e0
        by_cases e1 : at8 s e = 59
        · have y2 : ((((s[e]'e0).toNat : Int)) != 59) = false := by rw [← e8, e1]; rfl
          rw [if_pos ⟨rfl, e0, e1⟩]
          clear e1 e8
          go_enter Try.func44, Try.ntmps44
          go_wp2_with fail
          refine (HD'.out _).mono ?_
          rintro r w1 ⟨rfl, rfl⟩
          go_wp2
          go_ret3
          exact ⟨rfl, rfl⟩
        · rw [if_neg (fun h => e1 h.2.2)]
          have y2 : ((((s[e]'e0).toNat : Int)) != 59) = true := by rw [← e8]; simp [bne]; omega
          clear e1 e8
          go_enter Try.func44, Try.ntmps44
          go_wp2_with fail
          refine (HD'.out _).mono ?_
          rintro r w1 ⟨rfl, rfl⟩
          go_wp2
          go_ret3
          exact ⟨rfl, rfl⟩
      · rw [if_neg (fun h => e0 h.2.1)]
        have x2 : (s.size : Int) ≤ (e : Int) := by omega
        clear e0
        go_enter Try.func44, Try.ntmps44
        go_wp2_with fail
        refine (HD'.out _).mono ?_
        rintro r w1 ⟨rfl, rfl⟩
        go_wp2
        go_ret3
        exact ⟨rfl, rfl⟩

/-- Number -/
theorem number_any (s : ByteArray) (a : Nat) (ha : a ≤ s.size) (hs : s.size ≤ 4611686018427387904) (w : World) :
    Calls Try.prog 44 #[.string s, .int .i64 (a : Int)] w fun e w' => e = .returned (.tuple #[.int .i64 (numberS s a).1, .int .i64 ((numberS s a).2.1 : Int), .bool (numberS s a).2.2]) ∧ w = w' := by
  by_cases h : a < s.size ∧ at8 s a = 105
  · obtain ⟨h0, h1⟩ := h
    have hh := head_i h0 h1
    unfold numberS
    rw [hh]
    by_cases h2 : a + 1 < s.size ∧ at8 s (a + 1) = 45
    · have hb := digS_bd s (a + 2) 9223372036854775808 (by omega) (by omega)
      have hd := @rnum_digM s (a + 2) 9223372036854775808 59 (by omega) (by omega) (by decide)
      have hn := num_neg s a h0 h1 h2.1 h2.2 hs _ _ _ (Lib.hid (digs_DG s (a + 2) 9223372036854775808 (by omega) hs (by omega) (by omega))) hb.1 hb.2.1 hb.2.2 w
      have e1 : rintS s (a + 1) = if (rnumS s (a + 2) 59).2 = 0 ∨ 9223372036854775808 < (rnumS s (a + 2) 59).1 ∨ (rnumS s (a + 2) 59).1 = 0 then hdNo else ⟨1, -(rnumS s (a + 2) 59).1, ⟨#[]⟩, (rnumS s (a + 2) 59).2⟩ := by
        unfold rintS
        rw [if_pos h2]
      by_cases h3 : ((rnumS s (a + 2) 59).2 ≠ 0 ∧ (rnumS s (a + 2) 59).1 ≤ 9223372036854775808) ∧ (rnumS s (a + 2) 59).1 ≠ 0
      · obtain ⟨m1, m2⟩ := hd.1 h3.1
        rw [if_neg (by omega)] at e1
        rw [m2] at hn
        unfold digM at m1
        rw [m2] at m1
        simp only at hn m1
        rw [if_pos ⟨m1, h3.2⟩, show (rnumS s (a + 2) 59).2 - 1 + 1 = (rnumS s (a + 2) 59).2 by omega] at hn
        rw [e1]
        exact hn
      · rw [if_pos (by omega)] at e1
        rw [e1]
        rw [if_neg] at hn
        · exact hn
        · rintro ⟨k1, k2⟩
          have k3 := hd.2 k1
          have := (hd.1 k3).2
          rw [this] at k2
          exact h3 ⟨k3, k2⟩
    · have hb := digS_bd s (a + 1) 9223372036854775807 (by omega) (by omega)
      have hd := @rnum_digM s (a + 1) 9223372036854775807 59 (by omega) (by omega) (by decide)
      have hn := num_pos s a h0 h1 h2 hs _ _ _ (Lib.hid (digs_DG s (a + 1) 9223372036854775807 (by omega) hs (by omega) (by omega))) hb.1 hb.2.1 hb.2.2 w
      have e1 : rintS s (a + 1) = if (rnumS s (a + 1) 59).2 = 0 ∨ 9223372036854775807 < (rnumS s (a + 1) 59).1 then hdNo else ⟨1, (rnumS s (a + 1) 59).1, ⟨#[]⟩, (rnumS s (a + 1) 59).2⟩ := by
        unfold rintS
        rw [if_neg h2]
      by_cases h3 : (rnumS s (a + 1) 59).2 ≠ 0 ∧ (rnumS s (a + 1) 59).1 ≤ 9223372036854775807
      · obtain ⟨m1, m2⟩ := hd.1 h3
        rw [if_neg (by omega)] at e1
        rw [m2] at hn
        unfold digM at m1
        rw [m2] at m1
        simp only at hn m1
        rw [if_pos (by exact m1), show (rnumS s (a + 1) 59).2 - 1 + 1 = (rnumS s (a + 1) 59).2 by omega] at hn
        rw [e1]
        exact hn
      · rw [if_pos (by omega)] at e1
        rw [e1]
        rw [if_neg (by exact fun k1 => h3 (hd.2 k1))] at hn
        exact hn
  · have hk : (headS s a).kind ≠ 1 := by
      intro hk
      have hf := kind_fin (show (headS s a).kind ≠ 0 by omega)
      have h1 : at8 s a ≠ 105 := fun h1 => h ⟨hf.2.2, h1⟩
      by_cases h2 : at8 s a = 108
      · rw [head_l hf.2.2 h2] at hk; simp at hk
      · by_cases h3 : at8 s a = 101
        · rw [head_e hf.2.2 h3] at hk; simp at hk
        · rw [head_t hf.2.2 h1 h2 h3] at hk; have := rtext_kind s a; omega
    unfold numberS
    rw [if_neg hk]
    exact num_out s a h hs w

set_option maxHeartbeats 2000000 in
set_option maxRecDepth 100000 in
theorem str_of (s : ByteArray) (a : Nat) (hs : s.size ≤ 4611686018427387904) (n e : Nat) (ok : Bool) (HD : Hid (DG s a (s.size : Int) (n : Int) e ok)) (n1 : n ≤ s.size) (he : e ≤ s.size) (w : World) :
    Calls Try.prog 45 #[.string s, .int .i64 (a : Int)] w fun r w' => r = .returned (if (ok = true ∧ e < s.size ∧ at8 s e = 58) ∧ n ≤ s.size - e - 1 then .tuple #[.string (s.extract (e + 1) (e + 1 + n)), .int .i64 ((e + 1 + n : Nat) : Int), .bool true] else .tuple #[.string ⟨#[]⟩, .int .i64 0, .bool false]) ∧ w = w' := by
  have HD' : Hid (∀ W, Calls Try.prog 53 #[.string s, .int .i64 (a : Int), .int .u64 (s.size : Int)] W fun r w' => r = .returned (.tuple #[.int .u64 (n : Int), .int .i64 (e : Int), .bool ok]) ∧ W = w') := HD.out
  have y0 : IntKind.u64.wrap (s.size : Int) = (s.size : Int) := IntWalk.u64_in _ (by omega)
  clear HD
  cases ok with
  | false =>
    rw [if_neg (by simp)]
    go_enter Try.func45, Try.ntmps45
    go_wp2_with fail
    refine (HD'.out _).mono ?_
    rintro r w1 ⟨rfl, rfl⟩
    go_wp2
    go_ret3
    exact ⟨rfl, rfl⟩
  | true =>
    by_cases e0 : e < s.size
    · have x2 : ¬ (s.size : Int) ≤ (e : Int) := by omega
      have x3 : (e : Int) < (s.size : Int) := by omega
      have e8 := at8_eq e0
      have y1 : IntKind.u64.wrap ((s.size : Int) - (e : Int) - 1) = (s.size : Int) - (e : Int) - 1 := IntWalk.u64_in _ (by omega)
      by_cases e1 : at8 s e = 58
      · have y2 : ((((s[e]'e0).toNat : Int)) != 58) = false := by rw [← e8, e1]; rfl
        by_cases e2 : n ≤ s.size - e - 1
        · rw [if_pos ⟨⟨rfl, e0, e1⟩, e2⟩]
          have x4 : ¬ (s.size : Int) - (e : Int) - 1 < (n : Int) := by omega
          have x5 : (e : Int) + 1 + (n : Int) ≤ (s.size : Int) := by omega
          have y4 : IntKind.i64.wrap (n : Int) = (n : Int) := IntWalk.i64_in _ (by omega)
          clear e1 e8 e2
          go_enter Try.func45, Try.ntmps45
          go_wp2_with fail
          refine (HD'.out _).mono ?_
          rintro r w1 ⟨rfl, rfl⟩
          go_wp2
          go_ret3
          exact ⟨rfl, rfl⟩
        · rw [if_neg (fun h => e2 h.2)]
          have x4 : (s.size : Int) - (e : Int) - 1 < (n : Int) := by omega
          clear e1 e8 e2
          go_enter Try.func45, Try.ntmps45
          go_wp2_with fail
          refine (HD'.out _).mono ?_
          rintro r w1 ⟨rfl, rfl⟩
          go_wp2
          go_ret3
          exact ⟨rfl, rfl⟩
      · rw [if_neg (fun h => e1 h.1.2.2)]
        have y2 : ((((s[e]'e0).toNat : Int)) != 58) = true := by rw [← e8]; simp [bne]; omega
        clear e1 e8
        go_enter Try.func45, Try.ntmps45
        go_wp2_with fail
        refine (HD'.out _).mono ?_
        rintro r w1 ⟨rfl, rfl⟩
        go_wp2
        go_ret3
        exact ⟨rfl, rfl⟩
    · rw [if_neg (fun h => e0 h.1.2.1)]
      have x2 : (s.size : Int) ≤ (e : Int) := by omega
      clear e0
      go_enter Try.func45, Try.ntmps45
      go_wp2_with fail
      refine (HD'.out _).mono ?_
      rintro r w1 ⟨rfl, rfl⟩
      go_wp2
      go_ret3
      exact ⟨rfl, rfl⟩
theorem head_text {s : ByteArray} {a : Nat} : (headS s a).kind = 2 ↔ (rtextS s a).kind = 2 := by
  by_cases h0 : a < s.size
  · by_cases h1 : at8 s a = 105 ∨ at8 s a = 108 ∨ at8 s a = 101
    · have e1 : (rtextS s a).kind = 0 := by
        unfold rtextS
        have : (rnumS s a 58).2 = 0 := by
          unfold rnumS
          have hd : digN 19 s a = 0 := by rw [digN_s, if_neg (by omega)]
          rw [hd, if_neg (fun h => h.1 rfl)]
        rw [if_pos (Or.inl this)]
        rfl
      have e2 : (headS s a).kind ≠ 2 := by
        intro h2
        rcases h1 with h1 | h1 | h1
        · rw [head_i h0 h1] at h2; have := rint_kind s (a + 1); omega
        · rw [head_l h0 h1] at h2; simp at h2
        · rw [head_e h0 h1] at h2; simp at h2
      omega
    · rw [head_t h0 (by omega) (by omega) (by omega)]
  · have e1 : (rtextS s a).kind = 0 := by
      unfold rtextS
      have : (rnumS s a 58).2 = 0 := by
        unfold rnumS
        have hd : digN 19 s a = 0 := by rw [digN_s, if_neg (by omega)]
        rw [hd, if_neg (fun h => h.1 rfl)]
      rw [if_pos (Or.inl this)]
      rfl
    rw [headS_out (by omega), e1]
    simp [hdNo]
theorem head_text_eq {s : ByteArray} {a : Nat} (h : (headS s a).kind = 2) : headS s a = rtextS s a := by
  have hf := kind_fin (show (headS s a).kind ≠ 0 by omega)
  by_cases h1 : at8 s a = 105
  · rw [head_i hf.2.2 h1] at h; have := rint_kind s (a + 1); omega
  · by_cases h2 : at8 s a = 108
    · rw [head_l hf.2.2 h2] at h; simp at h
    · by_cases h3 : at8 s a = 101
      · rw [head_e hf.2.2 h3] at h; simp at h
      · exact head_t hf.2.2 h1 h2 h3
/-- String -/
theorem string_any (s : ByteArray) (a : Nat) (ha : a ≤ s.size) (hs : s.size ≤ 4611686018427387904) (w : World) :
    Calls Try.prog 45 #[.string s, .int .i64 (a : Int)] w fun e w' => e = .returned (.tuple #[.string (stringS s a).1, .int .i64 ((stringS s a).2.1 : Int), .bool (stringS s a).2.2]) ∧ w = w' := by
  have hb := digS_bd s a (s.size : Int) ha (by omega)
  have hd := @rnum_digM s a (s.size : Int) 58 ha (by omega) (by decide)
  have bd := rnumS_bd s a 58 ha
  have e0 : ((digS s a (s.size : Int)).1.toNat : Int) = (digS s a (s.size : Int)).1 := by omega
  have hn := str_of s a hs (digS s a (s.size : Int)).1.toNat _ _ (Lib.hid (by rw [e0]; exact digs_DG s a (s.size : Int) ha hs (by omega) (by omega))) (by omega) hb.2.2 w
  have e1 : rtextS s a = if (rnumS s a 58).2 = 0 ∨ (s.size : Int) - (rnumS s a 58).2 < (rnumS s a 58).1 then hdNo else ⟨2, 0, s.extract (rnumS s a 58).2 ((rnumS s a 58).2 + (rnumS s a 58).1.toNat), (rnumS s a 58).2 + (rnumS s a 58).1.toNat⟩ := rfl
  by_cases h3 : (rnumS s a 58).2 ≠ 0 ∧ ¬ (s.size : Int) - (rnumS s a 58).2 < (rnumS s a 58).1
  · obtain ⟨m1, m2⟩ := hd.1 ⟨h3.1, by omega⟩
    rw [if_neg (by omega)] at e1
    have hk : (headS s a).kind = 2 := by rw [head_text, e1]
    rw [m2] at hn
    unfold digM at m1
    rw [m2] at m1
    simp only at hn m1
    rw [if_pos ⟨m1, by omega⟩, show (rnumS s a 58).2 - 1 + 1 = (rnumS s a 58).2 by omega] at hn
    unfold stringS
    rw [if_pos hk, head_text_eq hk, e1]
    exact hn
  · rw [if_pos (by omega)] at e1
    have hk : ¬ (headS s a).kind = 2 := by rw [head_text, e1]; simp [hdNo]
    unfold stringS
    rw [if_neg hk]
    rw [if_neg] at hn
    · exact hn
    · rintro ⟨k1, k2⟩
      have k3 := hd.2 k1
      have := (hd.1 k3).2
      rw [this] at k2
      simp only at k2
      exact h3 ⟨k3.1, by omega⟩
end Go.Proofs.Ytljeialaefmbmaa
