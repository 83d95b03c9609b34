/- Contracts of the reference of encodings: skip, Skip, Depth. -/
import Derived.Test.YtljeialaefmbmaaRefE
set_option linter.unusedSimpArgs false
set_option linter.unusedVariables false
namespace Go.Proofs.Ytljeialaefmbmaa
open Go.RowKit

def rsk (s : ByteArray) (a : Nat) (r : Int) : Int × Int := if 0 ≤ (measS s a).2 ∧ (measS s a).2 ≤ r then measS s a else (0, -1)
def SkC (s : ByteArray) (r : Nat) : Prop := ∀ (a : Nat) (w : World), a ≤ s.size → Calls Try.prog 47 #[.string s, .int .i64 (a : Int), .int .i64 (r : Int)] w fun e w' => e = .returned (.tuple #[.int .i64 (rsk s a r).1, .int .i64 (rsk s a r).2]) ∧ w = w'
def NumC (s : ByteArray) (a : Nat) (n : Int) (e : Nat) (ok : Bool) : Prop := ∀ W, Calls Try.prog 44 #[.string s, .int .i64 (a : Int)] W fun r w' => r = .returned (.tuple #[.int .i64 n, .int .i64 (e : Int), .bool ok]) ∧ W = w'
def StrC (s : ByteArray) (a : Nat) (t : ByteArray) (e : Nat) (ok : Bool) : Prop := ∀ W, Calls Try.prog 45 #[.string s, .int .i64 (a : Int)] W fun r w' => r = .returned (.tuple #[.string t, .int .i64 (e : Int), .bool ok]) ∧ W = w'
theorem numC (s : ByteArray) (a : Nat) (ha : a ≤ s.size) (hs : s.size ≤ 4611686018427387904) : NumC s a (numberS s a).1 (numberS s a).2.1 (numberS s a).2.2 := fun W => number_any s a ha hs W
theorem strC (s : ByteArray) (a : Nat) (ha : a ≤ s.size) (hs : s.size ≤ 4611686018427387904) : StrC s a (stringS s a).1 (stringS s a).2.1 (stringS s a).2.2 := fun W => string_any s a ha hs W

set_option maxHeartbeats 2000000 in
theorem sk_num (s : ByteArray) (a : Nat) (r : Int) (n : Int) (e : Nat) (HN : Hid (NumC s a n e true)) (w : World) :
    Calls Try.prog 47 #[.string s, .int .i64 (a : Int), .int .i64 r] w fun e' w' => e' = .returned (.tuple #[.int .i64 (e : Int), .int .i64 0]) ∧ w = w' := by
  have HN' : Hid (∀ W, Calls Try.prog 44 #[.string s, .int .i64 (a : Int)] W fun r w' => r = .returned (.tuple #[.int .i64 n, .int .i64 (e : Int), .bool true]) ∧ W = w') := HN.out
  clear HN
  go_enter Try.func47, Try.ntmps47
  go_wp2_with fail
  refine (HN'.out _).mono ?_
  rintro r w1 ⟨rfl, rfl⟩
  go_wp2
  go_ret2
  exact ⟨rfl, rfl⟩
set_option maxHeartbeats 2000000 in
theorem sk_str (s : ByteArray) (a : Nat) (r : Int) (n : Int) (e0 : Nat) (HN : Hid (NumC s a n e0 false)) (t : ByteArray) (e : Nat) (HS : Hid (StrC s a t e true)) (w : World) :
    Calls Try.prog 47 #[.string s, .int .i64 (a : Int), .int .i64 r] w fun e' w' => e' = .returned (.tuple #[.int .i64 (e : Int), .int .i64 0]) ∧ w = w' := by
  have HN' : Hid (∀ W, Calls Try.prog 44 #[.string s, .int .i64 (a : Int)] W fun r w' => r = .returned (.tuple #[.int .i64 n, .int .i64 (e0 : Int), .bool false]) ∧ W = w') := HN.out
  have HS' : Hid (∀ W, Calls Try.prog 45 #[.string s, .int .i64 (a : Int)] W fun r w' => r = .returned (.tuple #[.string t, .int .i64 (e : Int), .bool true]) ∧ W = w') := HS.out
  clear HN HS
  go_enter Try.func47, Try.ntmps47
  go_wp2_with fail
  refine (HN'.out _).mono ?_
  rintro r w1 ⟨rfl, rfl⟩
  go_wp2_with fail
  refine (HS'.out _).mono ?_
  rintro r w1 ⟨rfl, rfl⟩
  go_wp2
  go_ret2
  exact ⟨rfl, rfl⟩
set_option maxHeartbeats 2000000 in
theorem sk_no (s : ByteArray) (a : Nat) (r : Nat) (n : Int) (e0 : Nat) (HN : Hid (NumC s a n e0 false)) (t : ByteArray) (e : Nat) (HS : Hid (StrC s a t e false)) (h : ¬ (a < s.size ∧ at8 s a = 108 ∧ r ≠ 0)) (hs : s.size ≤ 4611686018427387904) (w : World) :
    Calls Try.prog 47 #[.string s, .int .i64 (a : Int), .int .i64 (r : Int)] w fun e' w' => e' = .returned (.tuple #[.int .i64 0, .int .i64 (-1)]) ∧ w = w' := by
  have HN' : Hid (∀ W, Calls Try.prog 44 #[.string s, .int .i64 (a : Int)] W fun r w' => r = .returned (.tuple #[.int .i64 n, .int .i64 (e0 : Int), .bool false]) ∧ W = w') := HN.out
  have HS' : Hid (∀ W, Calls Try.prog 45 #[.string s, .int .i64 (a : Int)] W fun r w' => r = .returned (.tuple #[.string t, .int .i64 (e : Int), .bool false]) ∧ W = w') := HS.out
  clear HN HS
  by_cases h0 : a < s.size
  · have x0 : ¬ (s.size : Int) ≤ (a : Int) := by omega
    have x1 : (a : Int) < (s.size : Int) := by omega
    have e8 := at8_eq h0
    by_cases h1 : at8 s a = 108
    · obtain rfl : r = 0 := by
        rcases Nat.eq_zero_or_pos r with h | h'
        · exact h
        · exact absurd ⟨h0, h1, by omega⟩ h
      have y0 : ((((s[a]'h0).toNat : Int)) != 108) = false := by rw [← e8, h1]; rfl
      clear h e8 h1
      go_enter Try.func47, Try.ntmps47
      go_wp2_with fail
      refine (HN'.out _).mono ?_
      rintro r w1 ⟨rfl, rfl⟩
      go_wp2_with fail
      refine (HS'.out _).mono ?_
      rintro r w1 ⟨rfl, rfl⟩
      go_wp2
      go_ret2
      exact ⟨rfl, rfl⟩
    · have y0 : ((((s[a]'h0).toNat : Int)) != 108) = true := by rw [← e8]; simp [bne]; omega
      clear h e8 h1
      go_enter Try.func47, Try.ntmps47
      go_wp2_with fail
      refine (HN'.out _).mono ?_
      rintro r w1 ⟨rfl, rfl⟩
      go_wp2_with fail
      refine (HS'.out _).mono ?_
      rintro r w1 ⟨rfl, rfl⟩
      go_wp2
      go_ret2
      exact ⟨rfl, rfl⟩
  · have x0 : (s.size : Int) ≤ (a : Int) := by omega
    clear h
    go_enter Try.func47, Try.ntmps47
    go_wp2_with fail
    refine (HN'.out _).mono ?_
    rintro r w1 ⟨rfl, rfl⟩
    go_wp2_with fail
    refine (HS'.out _).mono ?_
    rintro r w1 ⟨rfl, rfl⟩
    go_wp2
    go_ret2
    exact ⟨rfl, rfl⟩

theorem rsk_next {s : ByteArray} {b : Nat} {c : Int} {r : Nat} {M : Int × Int} (hM : measG s b 1 c = M) (hk : (headS s b).kind ≠ 4) (hc : 1 ≤ c) (hr : c ≤ r + 1) (hr32 : r + 1 ≤ 32) :
    ((rsk s b r).2 < 0 → ¬ (0 ≤ M.2 ∧ M.2 ≤ ((r + 1 : Nat) : Int))) ∧
    (¬ (rsk s b r).2 < 0 → ∃ e : Nat, (rsk s b r).1 = (e : Int) ∧ b < e ∧ e ≤ s.size ∧ (rsk s b r).2 ≤ r ∧ measG s e 1 (max c ((rsk s b r).2 + 1)) = M) := by
  rw [measG_val s b 1 c (by omega) (by omega) hc hk] at hM
  have ok := measS_ok s b
  unfold rsk
  by_cases h1 : 0 ≤ (measS s b).2 ∧ (measS s b).2 ≤ (r : Int)
  · rw [if_pos h1]
    refine ⟨fun h => by omega, fun _ => ?_⟩
    rw [if_neg (by omega)] at hM
    rcases ok with e | e
    · rw [e] at h1; simp at h1
    · refine ⟨(measS s b).1.toNat, by omega, by omega, by omega, h1.2, ?_⟩
      rw [← hM]
      congr 1
      omega
  · rw [if_neg h1]
    refine ⟨fun _ => ?_, fun h => absurd (show (-1 : Int) < 0 by omega) h⟩
    split at hM
    · rw [← hM]; simp
    · rename_i h2
      rcases ok with e | e
      · rw [e] at h2; simp at h2
      · have := measG_ok s _ (measS s b).1.toNat 1 (max ((measS s b).2 + 1) c) (Nat.le_refl _) (by omega) (by omega) (by omega) (by omega)
        rw [hM] at this
        rcases this with e2 | e2
        · rw [e2]; simp
        · omega
set_option maxHeartbeats 4000000 in
set_option maxRecDepth 100000 in
theorem sk_list (s : ByteArray) (a : Nat) (r : Nat) (hr : r + 1 ≤ 32) (IH : Hid (SkC s r)) (n : Int) (e0 : Nat) (HN : Hid (NumC s a n e0 false)) (t : ByteArray) (e : Nat) (HS : Hid (StrC s a t e false)) (h0 : a < s.size) (h1 : at8 s a = 108) (hs : s.size ≤ 4611686018427387904) (w : World) :
    Calls Try.prog 47 #[.string s, .int .i64 (a : Int), .int .i64 ((r : Int) + 1)] w fun e' w' => e' = .returned (.tuple #[.int .i64 (rsk s a (r + 1 : Nat)).1, .int .i64 (rsk s a (r + 1 : Nat)).2]) ∧ w = w' := by
  have HN' : Hid (∀ W, Calls Try.prog 44 #[.string s, .int .i64 (a : Int)] W fun r w' => r = .returned (.tuple #[.int .i64 n, .int .i64 (e0 : Int), .bool false]) ∧ W = w') := HN.out
  have HS' : Hid (∀ W, Calls Try.prog 45 #[.string s, .int .i64 (a : Int)] W fun r w' => r = .returned (.tuple #[.string t, .int .i64 (e : Int), .bool false]) ∧ W = w') := HS.out
  have x0 : ¬ (s.size : Int) ≤ (a : Int) := by omega
  have x1 : (a : Int) < (s.size : Int) := by omega
  have x0b : decide (s.size ≤ a) = false := decide_eq_false (by omega)
  have hh := head_l h0 h1
  have HM := Lib.hid (show measS s a = measG s (a + 1) 1 1 by rw [measS_list (by rw [hh]), hh])
  have HR := Lib.hid (show rsk s a (r + 1 : Nat) = if 0 ≤ (measS s a).2 ∧ (measS s a).2 ≤ ((r + 1 : Nat) : Int) then measS s a else (0, -1) from rfl)
  have y0 : ((((s[a]'h0).toNat : Int)) != 108) = false := by rw [← at8_eq h0, h1]; rfl
  have y1 : ((r : Int) + 1 == 0) = false := by simp; omega
  generalize rsk s a (r + 1 : Nat) = R at *
  generalize measS s a = M at *
  clear HN HS h1 hh
  go_enter Try.func47, Try.ntmps47
  go_wp2_with fail
  refine (HN'.out _).mono ?_
  rintro r w1 ⟨rfl, rfl⟩
  go_wp2_with fail
  refine (HS'.out _).mono ?_
  rintro r w1 ⟨rfl, rfl⟩
  go_wp2_with fail
  clear HN' HS'
  go_loop [1, 14] (fun s1 s14 => ∃ (b : Nat) (c : Int), s1 = .int .i64 (b : Int) ∧ s14 = .int .i64 c ∧ b ≤ s.size ∧ 1 ≤ c ∧ c ≤ (r : Int) + 1 ∧ Hid (measG s b 1 c = M)) (fun s1 _ => s.size - (intOf s1).toNat)
  case atStart => exact ⟨a + 1, 1, by go_num, rfl, by omega, by omega, by omega, Lib.hid HM.out.symm⟩
  case round =>
    obtain ⟨b, c, rfl, rfl, hb, c1, c2, hm⟩ := hrel
    by_cases hbs : b < s.size
    · have e8 := at8_eq hbs
      have x2 : (b : Int) < (s.size : Int) := by omega
      have x3 : ¬ (s.size : Int) ≤ (b : Int) := by omega
      by_cases h101 : at8 s b = 101
      · have y2 : ((((s[b]'hbs).toNat : Int)) != 101) = false := by rw [← e8, h101]; rfl
        have HT := Lib.hid (show R = (((b + 1 : Nat) : Int), c) by
          have hh := head_e hbs h101
          have := hm.out
          rw [measG_close (by rw [hh]) (by omega), if_neg (by omega), if_pos rfl, hh] at this
          rw [HR.out, ← this, if_pos ⟨by simp only; omega, by simp only; omega⟩])
        clear e8 h101 hm HM HR
        go_wp2
        go_ret2
        exact ⟨by rw [HT.out]; rfl, rfl⟩
      · have y2 : ((((s[b]'hbs).toNat : Int)) != 101) = true := by rw [← e8]; simp [bne]; omega
        have hk : (headS s b).kind ≠ 4 := fun hk => h101 (head_e_of hk).2
        obtain ⟨n1, n2⟩ := rsk_next (r := r) hm.out hk c1 (by omega) (by omega)
        have HC := Lib.hid (fun W => IH.out b W (by omega))
        generalize rsk s b (r : Int) = Q at *
        by_cases hq : Q.2 < 0
        · have HT := Lib.hid (show R = (0, -1) by rw [HR.out, if_neg (n1 hq)])
          clear e8 h101 hm HM HR n1 n2 hk
          go_wp2_with fail
          refine (HC.out _).mono ?_
          rintro e w1 ⟨rfl, rfl⟩
          go_wp2
          go_ret2
          exact ⟨by rw [HT.out]; rfl, rfl⟩
        · obtain ⟨e, q1, q2, q3, q4, q5⟩ := n2 hq
          have HQ := Lib.hid q5
          obtain ⟨Q1, Q2⟩ := Q
          simp only at q1 hq q4 HC HQ
          subst q1
          clear e8 h101 hm HM n1 n2 hk q5
          by_cases hmx : c < Q2 + 1
          · have HQ2 := Lib.hid (show measG s e 1 (Q2 + 1) = M by have := HQ.out; rwa [show max c (Q2 + 1) = Q2 + 1 by omega] at this)
            go_wp2_with fail
            refine (HC.out _).mono ?_
            rintro e w1 ⟨rfl, rfl⟩
            go_wp2
            go_round
            case rel => exact ⟨_, Q2 + 1, rfl, rfl, by omega, by omega, by omega, HQ2⟩
            case measure => simp [intOf]; omega
          · have HQ2 := Lib.hid (show measG s e 1 c = M by have := HQ.out; rwa [show max c (Q2 + 1) = c by omega] at this)
            go_wp2_with fail
            refine (HC.out _).mono ?_
            rintro e w1 ⟨rfl, rfl⟩
            go_wp2
            go_round
            case rel => exact ⟨_, c, rfl, rfl, by omega, by omega, by omega, HQ2⟩
            case measure => simp [intOf]; omega
    · have x2 : ¬ (b : Int) < (s.size : Int) := by omega
      have x3 : (s.size : Int) ≤ (b : Int) := by omega
      have HT := Lib.hid (show R = (0, -1) by
        have := hm.out
        rw [measG_no (by rw [headS_out (by omega)]; rfl)] at this
        rw [HR.out, ← this, if_neg (by simp)])
      clear hm HM HR
      go_wp2
      go_ret2
      exact ⟨by rw [HT.out]; rfl, rfl⟩
theorem skC (s : ByteArray) (hs : s.size ≤ 4611686018427387904) : ∀ r : Nat, r ≤ 32 → SkC s r := by
  intro r
  induction r with
  | zero =>
    intro _ a w ha
    have ok := measS_ok s a
    have hn := numC s a ha hs
    have ht := strC s a ha hs
    rcases kind_cases s a with hk | hk | hk | hk | hk
    all_goals
      unfold numberS at hn
      unfold stringS at ht
    · rw [if_neg (by omega)] at hn ht
      rw [show rsk s a ((0 : Nat) : Int) = (0, -1) by unfold rsk; rw [measS_G, measG_no hk, if_neg (by simp)]]
      exact sk_no s a 0 _ _ (Lib.hid hn) _ _ (Lib.hid ht) (fun h => h.2.2 rfl) hs w
    · rw [if_neg (by omega)] at hn ht
      have hh := head_l_of hk
      have hM : measS s a = measG s (a + 1) 1 1 := by rw [measS_list hk, head_l hh.1 hh.2]
      rw [show rsk s a ((0 : Nat) : Int) = (0, -1) by
        unfold rsk
        have := measG_ok s _ (a + 1) 1 1 (Nat.le_refl _) (by omega) (by omega) (by omega) (by omega)
        rw [← hM] at this
        rw [if_neg]
        intro h
        rcases this with e | e
        · rw [e] at h; simp at h
        · omega]
      exact sk_no s a 0 _ _ (Lib.hid hn) _ _ (Lib.hid ht) (fun h => h.2.2 rfl) hs w
    · rw [if_neg (by omega)] at hn ht
      rw [show rsk s a ((0 : Nat) : Int) = (0, -1) by unfold rsk; rw [measS_G, measG_close hk (by omega), if_pos (show (0 : Int) < 1 by omega), if_neg (by simp)]]
      exact sk_no s a 0 _ _ (Lib.hid hn) _ _ (Lib.hid ht) (fun h => h.2.2 rfl) hs w
    · rw [if_pos hk] at hn
      rw [show rsk s a ((0 : Nat) : Int) = (((headS s a).fin : Int), 0) by unfold rsk; rw [measS_G, measG_atom (Or.inl hk) (by omega) (by omega), if_pos rfl, if_pos (by simp)]]
      exact sk_num s a _ _ _ (Lib.hid hn) w
    · rw [if_neg (by omega)] at hn
      rw [if_pos hk] at ht
      rw [show rsk s a ((0 : Nat) : Int) = (((headS s a).fin : Int), 0) by unfold rsk; rw [measS_G, measG_atom (Or.inr hk) (by omega) (by omega), if_pos rfl, if_pos (by simp)]]
      exact sk_str s a _ _ _ (Lib.hid hn) _ _ (Lib.hid ht) w
  | succ r ih =>
    intro hr a w ha
    have hn := numC s a ha hs
    have ht := strC s a ha hs
    rcases kind_cases s a with hk | hk | hk | hk | hk
    all_goals
      unfold numberS at hn
      unfold stringS at ht
    · rw [if_neg (by omega)] at hn ht
      rw [show rsk s a ((r + 1 : Nat) : Int) = (0, -1) by unfold rsk; rw [measS_G, measG_no hk, if_neg (by simp)]]
      refine sk_no s a (r + 1) _ _ (Lib.hid hn) _ _ (Lib.hid ht) (fun h => ?_) hs w
      rw [head_l h.1 h.2.1] at hk
      simp at hk
    · rw [if_neg (by omega)] at hn ht
      have hh := head_l_of hk
      have := sk_list s a r hr (Lib.hid (ih (by omega))) _ _ (Lib.hid hn) _ _ (Lib.hid ht) hh.1 hh.2 hs w
      rw [show ((r : Int) + 1) = ((r + 1 : Nat) : Int) by omega] at this
      exact this
    · rw [if_neg (by omega)] at hn ht
      rw [show rsk s a ((r + 1 : Nat) : Int) = (0, -1) by unfold rsk; rw [measS_G, measG_close hk (by omega), if_pos (show (0 : Int) < 1 by omega), if_neg (by simp)]]
      refine sk_no s a (r + 1) _ _ (Lib.hid hn) _ _ (Lib.hid ht) (fun h => ?_) hs w
      rw [head_l h.1 h.2.1] at hk
      simp at hk
    · rw [if_pos hk] at hn
      rw [show rsk s a ((r + 1 : Nat) : Int) = (((headS s a).fin : Int), 0) by unfold rsk; rw [measS_G, measG_atom (Or.inl hk) (by omega) (by omega), if_pos rfl, if_pos (by simp; omega)]]
      exact sk_num s a _ _ _ (Lib.hid hn) w
    · rw [if_neg (by omega)] at hn
      rw [if_pos hk] at ht
      rw [show rsk s a ((r + 1 : Nat) : Int) = (((headS s a).fin : Int), 0) by unfold rsk; rw [measS_G, measG_atom (Or.inr hk) (by omega) (by omega), if_pos rfl, if_pos (by simp; omega)]]
      exact sk_str s a _ _ _ (Lib.hid hn) _ _ (Lib.hid ht) w
theorem rsk32 (s : ByteArray) (a : Nat) : rsk s a ((32 : Nat) : Int) = measS s a := by
  unfold rsk
  rcases measS_ok s a with e | e
  · rw [e]; simp
  · rw [if_pos (by omega)]
theorem sk_any (s : ByteArray) (a : Nat) (ha : a ≤ s.size) (hs : s.size ≤ 4611686018427387904) (w : World) : Calls Try.prog 47 #[.string s, .int .i64 (a : Int), .int .i64 32] w fun e w' => e = .returned (.tuple #[.int .i64 (measS s a).1, .int .i64 (measS s a).2]) ∧ w = w' := by
  have := skC s hs 32 (Nat.le_refl _) a w ha
  rw [rsk32] at this
  exact this
theorem skipS_in (s : ByteArray) (a : Int) (h : a < 0 ∨ (s.size : Int) < a) : skipS s a = (0, false) := by
  unfold skipS
  by_cases h0 : a < 0
  · rw [if_pos h0]
  · rw [if_neg h0, measS_G, measG_no (by rw [headS_out (by omega)]; rfl)]
    simp
set_option maxHeartbeats 2000000 in
/-- Skip -/
theorem rskip_any (s : ByteArray) (a : Int) (hs : s.size ≤ 4611686018427387904) (h63 : a ≤ 9223372036854775807) (w : World) : Calls Try.prog 32 #[.string s, .int .i64 a] w fun e w' => e = .returned (.tuple #[.int .i64 (skipS s a).1, .bool (skipS s a).2]) ∧ w = w' := by
  by_cases h : a < 0 ∨ (s.size : Int) < a
  · rw [skipS_in s a h]
    by_cases h0 : a < 0
    · clear h
      go_enter Try.func32, Try.ntmps32
      go_wp2
      go_ret2
      exact ⟨rfl, rfl⟩
    · have h1 : (s.size : Int) < a := by omega
      clear h
      go_enter Try.func32, Try.ntmps32
      go_wp2
      go_ret2
      exact ⟨rfl, rfl⟩
  · obtain ⟨b, rfl⟩ := Int.eq_ofNat_of_zero_le (show 0 ≤ a by omega)
    have x0 : ¬ (s.size : Int) < (b : Int) := by omega
    have HS := Lib.hid (fun W => sk_any s b (by omega) hs W)
    rw [show skipS s (b : Int) = ((measS s b).1, decide (0 ≤ (measS s b).2)) by unfold skipS; rw [if_neg (by omega), Int.toNat_natCast]]
    generalize measS s b = M at *
    clear h
    go_enter Try.func32, Try.ntmps32
    go_wp2_with fail
    refine (HS.out _).mono ?_
    rintro e w1 ⟨rfl, rfl⟩
    go_wp2
    go_ret2
    exact ⟨rfl, rfl⟩
set_option maxHeartbeats 2000000 in
/-- Depth -/
theorem rdepth_any (s : ByteArray) (hs : s.size ≤ 4611686018427387904) (w : World) : Calls Try.prog 34 #[.string s] w fun e w' => e = .returned (.int .i64 (depthS s)) ∧ w = w' := by
  have HS : Hid (∀ W, Calls Try.prog 47 #[.string s, .int .i64 0, .int .i64 32] W fun e w' => e = .returned (.tuple #[.int .i64 (measS s 0).1, .int .i64 (measS s 0).2]) ∧ W = w') := Lib.hid (fun W => sk_any s 0 (by omega) hs W)
  have ok := measS_ok s 0
  unfold depthS
  generalize measS s 0 = M at *
  by_cases h : M.1 = (s.size : Int)
  · rw [if_pos h]
    have y0 : (M.1 != (s.size : Int)) = false := by simpa using h
    by_cases h2 : M.2 < 0
    · have HM := Lib.hid (show M.2 = -1 by rcases ok with e | e; rw [e]; omega)
      clear ok h
      go_enter Try.func34, Try.ntmps34
      go_wp2_with fail
      refine (HS.out _).mono ?_
      rintro e w1 ⟨rfl, rfl⟩
      go_wp2
      go_ret
      exact ⟨by rw [HM.out]; rfl, rfl⟩
    · clear ok h
      go_enter Try.func34, Try.ntmps34
      go_wp2_with fail
      refine (HS.out _).mono ?_
      rintro e w1 ⟨rfl, rfl⟩
      go_wp2
      go_ret
      exact ⟨rfl, rfl⟩
  · rw [if_neg h]
    have y0 : (M.1 != (s.size : Int)) = true := by simpa using h
    clear ok h
    by_cases h2 : M.2 < 0
    · go_enter Try.func34, Try.ntmps34
      go_wp2_with fail
      refine (HS.out _).mono ?_
      rintro e w1 ⟨rfl, rfl⟩
      go_wp2
      go_ret
      exact ⟨rfl, rfl⟩
    · go_enter Try.func34, Try.ntmps34
      go_wp2_with fail
      refine (HS.out _).mono ?_
      rintro e w1 ⟨rfl, rfl⟩
      go_wp2
      go_ret
      exact ⟨rfl, rfl⟩
end Go.Proofs.Ytljeialaefmbmaa
