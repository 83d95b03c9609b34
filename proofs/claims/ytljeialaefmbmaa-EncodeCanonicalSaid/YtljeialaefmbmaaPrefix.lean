/- The law EncodePrefix: its walk. -/
import Derived.Test.YtljeialaefmbmaaPrefN
import Derived.Test.YtljeialaefmbmaaAwake
set_option linter.unusedSimpArgs false
set_option linter.unusedVariables false
namespace Go.Proofs.Ytljeialaefmbmaa
open Go.RowKit

theorem valid_t (s : ByteArray) (hs : s.size ≤ 4611686018427387904) (h : 0 ≤ depthS s) (w : World) : Calls Try.prog 35 #[.string s] w fun r w' => r = .returned (.bool true) ∧ Below w.heap.size w w' := by
  have h1 := valid_any s hs w
  rw [decide_eq_true h] at h1
  exact h1
theorem valid_f (s : ByteArray) (hs : s.size ≤ 4611686018427387904) (h : ¬ 0 ≤ depthS s) (w : World) : Calls Try.prog 35 #[.string s] w fun r w' => r = .returned (.bool false) ∧ Below w.heap.size w w' := by
  have h1 := valid_any s hs w
  rw [decide_eq_false h] at h1
  exact h1
theorem skip_t (s : ByteArray) (hs : s.size ≤ 4611686018427387904) (h : 0 ≤ (measS s 0).2) (w : World) : Calls Try.prog 31 #[.string s, .int .i64 0] w fun r w' => r = .returned (.tuple #[.int .i64 (measS s 0).1, .bool true]) ∧ Below w.heap.size w w' := by
  have h1 := skip_any s 0 hs (by omega) w
  rw [show skipS s 0 = ((measS s 0).1, true) by unfold skipS; rw [if_neg (by omega)]; simp [h]] at h1
  exact h1
theorem skip_f (s : ByteArray) (hs : s.size ≤ 4611686018427387904) (h : ¬ 0 ≤ (measS s 0).2) (w : World) : Calls Try.prog 31 #[.string s, .int .i64 0] w fun r w' => r = .returned (.tuple #[.int .i64 (measS s 0).1, .bool false]) ∧ Below w.heap.size w w' := by
  have h1 := skip_any s 0 hs (by omega) w
  rw [show skipS s 0 = ((measS s 0).1, false) by unfold skipS; rw [if_neg (by omega)]; simp [h]] at h1
  exact h1
theorem size_pre {s : ByteArray} {n : Nat} (hn : n ≤ s.size) : (s.extract 0 n).size = n := by rw [size_extract hn]; omega

set_option maxHeartbeats 1000000 in
set_option maxRecDepth 100000 in
theorem pref_out (s : ByteArray) (a : Int) (hs : s.size ≤ 9223372036854775807) (h : (2000 : Int) < (s.size : Int) ∨ a < 0 ∨ (s.size : Int) < a) (w : World) :
    Calls Try.prog 7 #[.string s, .int .i64 a] w fun e w' => e = .returned (.bool true) ∧ Below w.heap.size w w' := by
  by_cases h1 : (2000 : Int) < (s.size : Int)
  · clear h
    go_enter Try.func7, Try.ntmps7
    go_wp2_with fail
    refine (awake_any _).mono ?_
    rintro e w1 ⟨rfl, hb⟩
    go_wp2
    go_ret
    exact ⟨rfl, hb⟩
  · by_cases h2 : a < 0
    · clear h
      go_enter Try.func7, Try.ntmps7
      go_wp2_with fail
      refine (awake_any _).mono ?_
      rintro e w1 ⟨rfl, hb⟩
      go_wp2
      go_ret
      exact ⟨rfl, hb⟩
    · have h3 : (s.size : Int) < a := by omega
      clear h
      go_enter Try.func7, Try.ntmps7
      go_wp2_with fail
      refine (awake_any _).mono ?_
      rintro e w1 ⟨rfl, hb⟩
      go_wp2
      go_ret
      exact ⟨rfl, hb⟩

set_option maxHeartbeats 2000000 in
set_option maxRecDepth 100000 in
theorem pref_valid (s : ByteArray) (n : Nat) (hs : s.size ≤ 2000) (hn : n ≤ s.size) (hv : 0 ≤ depthS s) (w : World) :
    Calls Try.prog 7 #[.string s, .int .i64 (n : Int)] w fun e w' => e = .returned (.bool true) ∧ Below w.heap.size w w' := by
  have x0 : ¬ (2000 : Int) < (s.size : Int) := by omega
  have x1 : ¬ (s.size : Int) < (n : Int) := by omega
  have HV := Lib.hid (fun W => valid_t s (by omega) hv W)
  by_cases he : n = s.size
  · have y0 : ((n : Int) == (s.size : Int)) = true := by simp; omega
    clear hv he
    go_enter Try.func7, Try.ntmps7
    go_wp2_with fail
    refine (awake_any _).mono ?_
    rintro e w1 ⟨rfl, hb⟩
    have HB1 := Lib.hid hb
    clear hb
    go_wp2_with fail
    refine (HV.out _).mono ?_
    rintro e w2 ⟨rfl, hb⟩
    have HB2 := Lib.hid (HB1.out.trans (hb.mono HB1.out.size))
    clear hb HB1
    go_wp2
    go_ret
    exact ⟨rfl, HB2.out⟩
  · have y0 : ((n : Int) == (s.size : Int)) = false := by simp; omega
    have hno : ¬ 0 ≤ depthS (s.extract 0 n) := by
      rw [depth_pre hn]
      rintro ⟨_, h2⟩
      rw [depthS_val hv] at h2
      simp only at h2
      omega
    have HN := Lib.hid (fun W => valid_f (s.extract 0 n) (by rw [size_pre hn]; omega) hno W)
    have x2 : (n : Int) ≤ (s.size : Int) := by omega
    clear hv he hno
    go_enter Try.func7, Try.ntmps7
    go_wp2_with fail
    refine (awake_any _).mono ?_
    rintro e w1 ⟨rfl, hb⟩
    have HB1 := Lib.hid hb
    clear hb
    go_wp2_with fail
    refine (HV.out _).mono ?_
    rintro e w2 ⟨rfl, hb⟩
    have HB2 := Lib.hid (HB1.out.trans (hb.mono HB1.out.size))
    clear hb HB1
    go_wp2_with fail
    refine (HN.out _).mono ?_
    rintro e w3 ⟨rfl, hb⟩
    have HB3 := Lib.hid (HB2.out.trans (hb.mono HB2.out.size))
    clear hb HB2
    go_wp2
    go_ret
    exact ⟨rfl, HB3.out⟩

set_option maxHeartbeats 2000000 in
set_option maxRecDepth 100000 in
theorem pref_none (s : ByteArray) (n : Nat) (hs : s.size ≤ 2000) (hn : n ≤ s.size) (hv : ¬ 0 ≤ depthS s) (hm : ¬ 0 ≤ (measS s 0).2) (w : World) :
    Calls Try.prog 7 #[.string s, .int .i64 (n : Int)] w fun e w' => e = .returned (.bool true) ∧ Below w.heap.size w w' := by
  have x0 : ¬ (2000 : Int) < (s.size : Int) := by omega
  have x1 : ¬ (s.size : Int) < (n : Int) := by omega
  have x2 : (n : Int) ≤ (s.size : Int) := by omega
  have HV := Lib.hid (fun W => valid_f s (by omega) hv W)
  have HS := Lib.hid (fun W => skip_f s (by omega) hm W)
  have HN := Lib.hid (fun W => valid_f (s.extract 0 n) (by rw [size_pre hn]; omega) (by rw [depth_pre hn]; exact fun h => hm h.1) W)
  clear hv hm
  go_enter Try.func7, Try.ntmps7
  go_wp2_with fail
  refine (awake_any _).mono ?_
  rintro e w1 ⟨rfl, hb⟩
  have HB1 := Lib.hid hb
  clear hb
  go_wp2_with fail
  refine (HV.out _).mono ?_
  rintro e w2 ⟨rfl, hb⟩
  have HB2 := Lib.hid (HB1.out.trans (hb.mono HB1.out.size))
  clear hb HB1
  go_wp2_with fail
  refine (HS.out _).mono ?_
  rintro e w3 ⟨rfl, hb⟩
  have HB3 := Lib.hid (HB2.out.trans (hb.mono HB2.out.size))
  clear hb HB2
  go_wp2_with fail
  refine (HN.out _).mono ?_
  rintro e w4 ⟨rfl, hb⟩
  have HB4 := Lib.hid (HB3.out.trans (hb.mono HB3.out.size))
  clear hb HB3
  go_wp2
  go_ret
  exact ⟨rfl, HB4.out⟩

set_option maxHeartbeats 2000000 in
set_option maxRecDepth 100000 in
theorem pref_some (s : ByteArray) (n m : Nat) (hs : s.size ≤ 2000) (hn : n ≤ s.size) (hv : ¬ 0 ≤ depthS s) (hm : 0 ≤ (measS s 0).2) (he : (measS s 0).1 = (m : Int)) (h0 : 0 < m) (h1 : m < s.size) (w : World) :
    Calls Try.prog 7 #[.string s, .int .i64 (n : Int)] w fun e w' => e = .returned (.bool true) ∧ Below w.heap.size w w' := by
  have x0 : ¬ (2000 : Int) < (s.size : Int) := by omega
  have x1 : ¬ (s.size : Int) < (n : Int) := by omega
  have x2 : (n : Int) ≤ (s.size : Int) := by omega
  have x3 : (m : Int) ≤ (s.size : Int) := by omega
  have x4 : (m : Int) < (s.size : Int) := by omega
  have x5 : (0 : Int) < (m : Int) := by omega
  have HV := Lib.hid (fun W => valid_f s (by omega) hv W)
  have HS := Lib.hid (fun W => skip_t s (by omega) hm W)
  rw [he] at HS
  have HE := Lib.hid (fun W => valid_t (s.extract 0 m) (by rw [size_pre (by omega)]; omega) (by rw [depth_pre (by omega)]; exact ⟨hm, he⟩) W)
  by_cases hnm : n = m
  · subst hnm
    clear hv hm he
    go_enter Try.func7, Try.ntmps7
    go_wp2_with fail
    refine (awake_any _).mono ?_
    rintro e w1 ⟨rfl, hb⟩
    have HB1 := Lib.hid hb
    clear hb
    go_wp2_with fail
    refine (HV.out _).mono ?_
    rintro e w2 ⟨rfl, hb⟩
    have HB2 := Lib.hid (HB1.out.trans (hb.mono HB1.out.size))
    clear hb HB1
    go_wp2_with fail
    refine (HS.out _).mono ?_
    rintro e w3 ⟨rfl, hb⟩
    have HB3 := Lib.hid (HB2.out.trans (hb.mono HB2.out.size))
    clear hb HB2
    go_wp2_with fail
    refine (HE.out _).mono ?_
    rintro e w4 ⟨rfl, hb⟩
    have HB4 := Lib.hid (HB3.out.trans (hb.mono HB3.out.size))
    clear hb HB3
    go_wp2_with fail
    refine (HE.out _).mono ?_
    rintro e w5 ⟨rfl, hb⟩
    have HB5 := Lib.hid (HB4.out.trans (hb.mono HB4.out.size))
    clear hb HB4
    go_wp2
    go_ret
    exact ⟨rfl, HB5.out⟩
  · have y0 : ((n : Int) == (m : Int)) = false := by simp; omega
    have HN := Lib.hid (fun W => valid_f (s.extract 0 n) (by rw [size_pre hn]; omega) (by rw [depth_pre hn, he]; exact fun h => hnm (by omega)) W)
    clear hv hm he hnm
    go_enter Try.func7, Try.ntmps7
    go_wp2_with fail
    refine (awake_any _).mono ?_
    rintro e w1 ⟨rfl, hb⟩
    have HB1 := Lib.hid hb
    clear hb
    go_wp2_with fail
    refine (HV.out _).mono ?_
    rintro e w2 ⟨rfl, hb⟩
    have HB2 := Lib.hid (HB1.out.trans (hb.mono HB1.out.size))
    clear hb HB1
    go_wp2_with fail
    refine (HS.out _).mono ?_
    rintro e w3 ⟨rfl, hb⟩
    have HB3 := Lib.hid (HB2.out.trans (hb.mono HB2.out.size))
    clear hb HB2
    go_wp2_with fail
    refine (HE.out _).mono ?_
    rintro e w4 ⟨rfl, hb⟩
    have HB4 := Lib.hid (HB3.out.trans (hb.mono HB3.out.size))
    clear hb HB3
    go_wp2_with fail
    refine (HN.out _).mono ?_
    rintro e w5 ⟨rfl, hb⟩
    have HB5 := Lib.hid (HB4.out.trans (hb.mono HB4.out.size))
    clear hb HB4
    go_wp2
    go_ret
    exact ⟨rfl, HB5.out⟩

theorem prefix_walk (s : ByteArray) (a : Int) (hs : s.size ≤ 9223372036854775807) (w : World) :
    Calls Try.prog 7 #[.string s, .int .i64 a] w fun e w' => e = .returned (.bool true) ∧ Below w.heap.size w w' := by
  by_cases h : (2000 : Int) < (s.size : Int) ∨ a < 0 ∨ (s.size : Int) < a
  · exact pref_out s a hs h w
  · obtain ⟨n, rfl⟩ := Int.eq_ofNat_of_zero_le (show 0 ≤ a by omega)
    by_cases hv : 0 ≤ depthS s
    · exact pref_valid s n (by omega) (by omega) hv w
    · by_cases hm : 0 ≤ (measS s 0).2
      · rcases measS_ok s 0 with h6 | h6
        · rw [h6] at hm; simp at hm
        · have h7 : (measS s 0).1 ≠ (s.size : Int) := fun h => hv (depthS_ok.2 ⟨hm, h⟩)
          exact pref_some s n (measS s 0).1.toNat (by omega) (by omega) hv hm (by omega) (by omega) (by omega) w
      · exact pref_none s n (by omega) (by omega) hv hm w
end Go.Proofs.Ytljeialaefmbmaa
