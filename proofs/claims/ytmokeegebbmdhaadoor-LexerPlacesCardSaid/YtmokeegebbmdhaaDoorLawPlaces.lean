/- The law of Place: for every source and every offset. -/
import Derived.Test.YtmokeegebbmdhaaDoorAwk
set_option linter.unusedSimpArgs false
set_option linter.unusedVariables false
namespace Go.Proofs.YtmokeegebbmdhaaDoor
open Go.RowKit

theorem plA_next (s : ByteArray) (k : Nat) (hk : k < s.size) : plA s ((k : Int) + 1) = plS (plA s (k : Int)) (s[k]'hk) := by
  unfold plA clampN
  have e1 : (min (max ((k : Int) + 1) 0) (s.size : Int)).toNat = k + 1 := by omega
  have e2 : (min (max (k : Int) 0) (s.size : Int)).toNat = k := by omega
  rw [e1, e2]
  have hkL : k < s.data.toList.length := by rw [list_size]; exact hk
  rw [List.take_succ_eq_append_getElem hkL, plF_snoc]
  rfl
theorem plA_bd (s : ByteArray) (a : Int) : 1 ≤ (plA s a).1 ∧ (plA s a).1 ≤ s.size + 1 ∧ 1 ≤ (plA s a).2 ∧ (plA s a).2 ≤ s.size + 1 := by
  have := plF_bd (s.data.toList.take (clampN a s.size))
  have hl : (s.data.toList.take (clampN a s.size)).length ≤ s.size := by rw [List.length_take, list_size]; omega
  unfold plA
  omega
set_option maxHeartbeats 4000000 in
set_option maxRecDepth 100000 in
theorem places_walk (s : ByteArray) (hs : s.size ≤ 9223372036854775807) (a : Int) (h0 : -9223372036854775808 ≤ a) (h1 : a ≤ 9223372036854775807) (w : World) (hT : Tabs w) : Calls Tryd.prog 5 #[.string s, .int .i64 a] w fun e w' => e = .returned (.bool true) ∧ Below w.heap.size w w' := by
  have HA := Lib.hid (awake_any w hT)
  clear hT
  by_cases hz : 2000 < s.size
  · have k1 : decide ((s.size : Int) > 2000) = true := decide_eq_true (by omega)
    go_enter Tryd.func5, Tryd.ntmps5
    go_wp2_with fail
    refine HA.out.mono ?_
    rintro e w1 ⟨rfl, hb1⟩
    go_wp2_with fail
    go_ret
    exact ⟨rfl, hb1⟩
  · have k1 : decide ((s.size : Int) > 2000) = false := decide_eq_false (by omega)
    have HP := Lib.hid (fun a ha W => place_any s (by omega) a ha W)
    have HR := Lib.hid (fun a ha W => rplace_any s (by omega) a ha W)
    have hbd := plA_bd s a
    by_cases h2 : a < 0 ∨ (s.size : Int) ≤ a
    · have HP1 := Lib.hid (HP.out a ⟨h0, h1⟩)
      have HR1 := Lib.hid (HR.out a ⟨h0, h1⟩)
      generalize plA s a = x at *
      obtain ⟨x1, x2⟩ := x
      simp only at HP1 HR1
      have e1 : (x1 != x1) = false := by simp
      have e2 : (x2 != x2) = false := by simp
      clear HP HR
      by_cases h3 : a < 0
      · have d1 : decide (a < 0) = true := decide_eq_true h3
        clear h2
        go_enter Tryd.func5, Tryd.ntmps5
        go_wp2_with fail
        refine (HP1.out _).mono ?_
        rintro e w1 ⟨rfl, rfl⟩
        go_wp2_with fail
        refine (HR1.out _).mono ?_
        rintro e w1 ⟨rfl, rfl⟩
        go_wp2_with fail
        refine HA.out.mono ?_
        rintro e w1 ⟨rfl, hb1⟩
        go_wp2_with fail
        go_ret
        exact ⟨rfl, hb1⟩
      · have d1 : decide (a < 0) = false := decide_eq_false h3
        have d2 : decide (a ≥ (s.size : Int)) = true := decide_eq_true (by omega)
        have d3 : (s.size : Int) ≤ a := by omega
        clear h2 h3
        go_enter Tryd.func5, Tryd.ntmps5
        go_wp2_with fail
        refine (HP1.out _).mono ?_
        rintro e w1 ⟨rfl, rfl⟩
        go_wp2_with fail
        refine (HR1.out _).mono ?_
        rintro e w1 ⟨rfl, rfl⟩
        go_wp2_with fail
        refine HA.out.mono ?_
        rintro e w1 ⟨rfl, hb1⟩
        go_wp2_with fail
        go_ret
        exact ⟨rfl, hb1⟩
    · obtain ⟨k, rfl⟩ : ∃ k : Nat, a = (k : Int) := ⟨a.toNat, by omega⟩
      have hk : k < s.size := by omega
      have hkl : (k : Int) < (s.size : Int) := by omega
      have HP1 := Lib.hid (HP.out (k : Int) ⟨h0, h1⟩)
      have HR1 := Lib.hid (HR.out (k : Int) ⟨h0, h1⟩)
      have HP2 := Lib.hid (HP.out ((k : Int) + 1) ⟨by omega, by omega⟩)
      rw [plA_next s k hk] at HP2
      have d1 : decide ((k : Int) < 0) = false := decide_eq_false (by omega)
      have d2 : decide ((k : Int) ≥ (s.size : Int)) = false := decide_eq_false (by omega)
      have d3 : ¬ (s.size : Int) ≤ (k : Int) := by omega
      generalize plA s (k : Int) = x at *
      obtain ⟨x1, x2⟩ := x
      simp only at HP1 HR1 hbd
      have e1 : (x1 != x1) = false := by simp
      have e2 : (x2 != x2) = false := by simp
      have e10 : (s[k]'hk == 10) = (((s[k]'hk).toNat : Int) == 10) := u8_eq (s[k]'hk) 10 (by decide)
      clear HP HR h2
      cases hc : (s[k]'hk == 10) with
      | true =>
        rw [hc] at e10
        replace e10 := e10.symm
        have e12 : (((s[k]'hk).toNat : Int) != 10) = false := by unfold bne; rw [e10]; rfl
        have hst : plS (x1, x2) (s[k]'hk) = (x1 + 1, 1) := by unfold plS; rw [if_pos (by simpa using hc)]
        rw [hst] at HP2
        simp only at HP2
        clear hc hst
        go_enter Tryd.func5, Tryd.ntmps5
        go_wp2_with fail
        refine (HP1.out _).mono ?_
        rintro e w1 ⟨rfl, rfl⟩
        go_wp2_with fail
        refine (HR1.out _).mono ?_
        rintro e w1 ⟨rfl, rfl⟩
        go_wp2_with fail
        refine (HP2.out _).mono ?_
        rintro e w1 ⟨rfl, rfl⟩
        go_wp2_with fail
        refine HA.out.mono ?_
        rintro e w1 ⟨rfl, hb1⟩
        go_wp2_with fail
        go_ret
        exact ⟨rfl, hb1⟩
      | false =>
        rw [hc] at e10
        replace e10 := e10.symm
        have e12 : (((s[k]'hk).toNat : Int) != 10) = true := by unfold bne; rw [e10]; rfl
        have hst : plS (x1, x2) (s[k]'hk) = (x1, x2 + 1) := by unfold plS; rw [if_neg (by simpa using hc)]
        rw [hst] at HP2
        simp only at HP2
        clear hc hst
        go_enter Tryd.func5, Tryd.ntmps5
        go_wp2_with fail
        refine (HP1.out _).mono ?_
        rintro e w1 ⟨rfl, rfl⟩
        go_wp2_with fail
        refine (HR1.out _).mono ?_
        rintro e w1 ⟨rfl, rfl⟩
        go_wp2_with fail
        refine (HP2.out _).mono ?_
        rintro e w1 ⟨rfl, rfl⟩
        go_wp2_with fail
        refine HA.out.mono ?_
        rintro e w1 ⟨rfl, hb1⟩
        go_wp2_with fail
        go_ret
        exact ⟨rfl, hb1⟩
end Go.Proofs.YtmokeegebbmdhaaDoor
