/- Contract of layer 9: titled. -/
import Derived.Test.YtohalocbghhenaaGreatDoorNum
set_option linter.unusedSimpArgs false
set_option linter.unusedVariables false
namespace Go.Proofs.YtohalocbghhenaaGreatDoor
open Go.RowKit

theorem eq32 (c : UInt8) : (c == 32) = ((c.toNat : Int) == 32) := u8_eq c 32 (by decide)
theorem all_iff {p : UInt8 → Bool} {s : ByteArray} : s.data.toList.all p = true ↔ ∀ (k : Nat) (h : k < s.size), p (s[k]'h) = true := by
  rw [List.all_eq_true]
  constructor
  · intro h k hk
    exact h _ (by simp only [Array.mem_toList_iff]; exact Array.getElem_mem hk)
  · intro h c hc
    simp only [Array.mem_toList_iff] at hc
    obtain ⟨k, hk, rfl⟩ := Array.mem_iff_getElem.1 hc
    exact h k hk
theorem all_false {p : UInt8 → Bool} {s : ByteArray} {k : Nat} (h : k < s.size) (hp : p (s[k]'h) = false) : s.data.toList.all p = false := by
  cases hb : s.data.toList.all p with
  | false => rfl
  | true => rw [all_iff.1 hb k h] at hp; contradiction
theorem last_byte {s : ByteArray} (h : s.size - 1 < s.size) : s.data.toList.getLast? = some (s[s.size - 1]'h) := by
  rw [List.getLast?_eq_getElem?, list_size]
  exact list_get s _ h
theorem kB_quote (c : UInt8) : (kB c == 3) = (c == 34) :=
  eq_of_beq (all_u8 (P := fun c => (kB c == 3) == (c == 34)) (by decide +kernel) c)
theorem size0 {s : ByteArray} (h : s.size = 0) : s.data.toList = [] := List.eq_nil_of_length_eq_zero (by rw [list_size]; exact h)
theorem str_empty {s : ByteArray} (h : s.size = 0) : (s.toList == []) = true ∧ s.toList.isEmpty = true := by
  have : s.toList = [] := by rw [empty_list]; exact size0 h
  rw [this]; exact ⟨rfl, rfl⟩
theorem str_full {s : ByteArray} (h : 0 < s.size) : (s.toList == []) = false ∧ s.toList.isEmpty = false := by
  have : s.toList ≠ [] := by
    rw [empty_list]
    intro e
    have := list_size s
    rw [e] at this
    simp at this; omega
  cases hh : s.toList with
  | nil => exact absurd hh this
  | cons c t => exact ⟨rfl, rfl⟩
set_option maxHeartbeats 2000000 in
set_option maxRecDepth 100000 in
theorem titled_any (s : ByteArray) (hs : s.size ≤ 1000000000) (w : World) (hT : Tabs w) : Calls Tryz.prog 102 #[.string s] w fun e w' => e = .returned (.int .i64 (titE s.data.toList)) ∧ w = w' := by
  have HT := Lib.hid hT
  clear hT
  by_cases h0 : s.size = 0
  · obtain ⟨k1, k2⟩ := str_empty h0
    have HE := Lib.hid (show titE s.data.toList = 2 by rw [size0 h0]; rfl)
    clear h0
    go_enter Tryz.func102, Tryz.ntmps102
    go_wp2_with fail
    go_ret
    exact ⟨by rw [HE.out]; rfl, rfl⟩
  · have hp : 0 < s.size := by omega
    obtain ⟨k1, k2⟩ := str_full hp
    have hL : s.size - 1 < s.size := by omega
    have hd := head_byte hp
    have hl := last_byte hL
    have HX := Lib.hid (show titE s.data.toList = if ((s[0]'hp) = 32 ∨ (s[s.size - 1]'hL) = 32) then 2 else if s.data.toList.all titB then (if 40 < s.size then 6 else 0) else 2 by
      unfold titE
      rw [hd, hl, list_size]
      simp)
    have e0 := eq32 (s[0]'hp)
    have e1 := eq32 (s[s.size - 1]'hL)
    clear hd hl
    generalize titE s.data.toList = R at *
    cases h1 : (s[0]'hp == 32) with
    | true =>
      have HE := Lib.hid (show R = 2 by rw [HX.out, if_pos (.inl (by simpa using h1))])
      rw [h1] at e0
      replace e0 := e0.symm
      clear HX e1 h1
      go_enter Tryz.func102, Tryz.ntmps102
      go_wp2_with fail
      go_ret
      exact ⟨by rw [HE.out]; rfl, rfl⟩
    | false =>
      rw [h1] at e0
      replace e0 := e0.symm
      cases h2 : (s[s.size - 1]'hL == 32) with
      | true =>
        have HE := Lib.hid (show R = 2 by rw [HX.out, if_pos (.inr (by simpa using h2))])
        rw [h2] at e1
        replace e1 := e1.symm
        clear HX h1 h2 h0
        go_enter Tryz.func102, Tryz.ntmps102
        go_wp2_with fail
        go_ret
        exact ⟨by rw [HE.out]; rfl, rfl⟩
      | false =>
        have HE := Lib.hid (show R = if s.data.toList.all titB then (if 40 < s.size then 6 else 0) else 2 by
          rw [HX.out, if_neg (by
            intro h
            rcases h with h | h
            · rw [h] at h1; exact absurd h1 (by decide)
            · rw [h] at h2; exact absurd h2 (by decide))])
        rw [h2] at e1
        replace e1 := e1.symm
        clear HX h1 h2 h0
        go_enter Tryz.func102, Tryz.ntmps102
        go_wp2_with fail
        go_loop [21] (fun s21 => ∃ k : Nat, k ≤ s.size ∧ s21 = .int .i64 (k : Int) ∧ Hid (∀ (j : Nat) (h : j < s.size), j < k → titB (s[j]'h) = true)) (fun s21 => (s.size - (intOf s21)).toNat)
        case atStart => exact ⟨0, Nat.zero_le _, rfl, Lib.hid (fun j _ h => absurd h (Nat.not_lt_zero j))⟩
        case round =>
          obtain ⟨k, hk, rfl, HK⟩ := hrel
          by_cases hlt : k < s.size
          · have hl : (k : Int) < (s.size : Int) := by omega
            have HKI := Lib.hid (kind_any (s[k]'hlt) _ HT.out)
            have hq := kB_quote (s[k]'hlt)
            have HTB := Lib.hid (show titB (s[k]'hlt) = (decide (32 ≤ (s[k]'hlt).toNat) && decide ((s[k]'hlt).toNat ≤ 126) && (s[k]'hlt) != 34) from rfl)
            by_cases g1 : 32 ≤ (s[k]'hlt).toNat
            · by_cases g2 : (s[k]'hlt).toNat ≤ 126
              · cases g3 : (s[k]'hlt == 34) with
                | true =>
                  have HF := Lib.hid (all_false (p := titB) hlt (by rw [HTB.out, bne, g3]; simp))
                  rw [g3] at hq
                  have g4 : (((kB (s[k]'hlt) : Nat) : Int) == 3) = true := by simp at hq ⊢; omega
                  have g5 : decide (((s[k]'hlt).toNat : Int) < 32) = false := by simp; omega
                  have g6 : decide (((s[k]'hlt).toNat : Int) > 126) = false := by simp; omega
                  clear hq g3 HTB
                  generalize ((kB (s[k]'hlt) : Nat) : Int) = q at *
                  go_wp2_with fail
                  refine HKI.out.mono ?_
                  rintro e w1 ⟨rfl, rfl⟩
                  go_wp2_with fail
                  go_ret
                  exact ⟨by rw [HE.out, HF.out]; rfl, rfl⟩
                | false =>
                  have HF := Lib.hid (show titB (s[k]'hlt) = true by rw [HTB.out, bne, g3]; simp [g1, g2])
                  rw [g3] at hq
                  have g4 : (((kB (s[k]'hlt) : Nat) : Int) == 3) = false := by simp at hq ⊢; omega
                  have g5 : decide (((s[k]'hlt).toNat : Int) < 32) = false := by simp; omega
                  have g6 : decide (((s[k]'hlt).toNat : Int) > 126) = false := by simp; omega
                  clear hq g3 HTB
                  generalize ((kB (s[k]'hlt) : Nat) : Int) = q at *
                  go_wp2_with fail
                  refine HKI.out.mono ?_
                  rintro e w1 ⟨rfl, rfl⟩
                  go_wp2_with fail
                  go_round
                  case rel =>
                    refine ⟨k + 1, by omega, by go_num, Lib.hid (fun j h hj => ?_)⟩
                    by_cases e : j = k
                    · subst e; exact HF.out
                    · exact HK.out j h (by omega)
                  case measure => simp [intOf]; omega
              · have HF := Lib.hid (all_false (p := titB) hlt (by rw [HTB.out]; simp [g2]))
                have g5 : decide (((s[k]'hlt).toNat : Int) < 32) = false := by simp; omega
                have g6 : decide (((s[k]'hlt).toNat : Int) > 126) = true := by simp; omega
                clear hq HTB
                go_wp2_with fail
                go_ret
                exact ⟨by rw [HE.out, HF.out]; rfl, rfl⟩
            · have HF := Lib.hid (all_false (p := titB) hlt (by rw [HTB.out]; simp [g1]))
              have g5 : decide (((s[k]'hlt).toNat : Int) < 32) = true := by simp; omega
              clear hq HTB
              go_wp2_with fail
              go_ret
              exact ⟨by rw [HE.out, HF.out]; rfl, rfl⟩
          · obtain rfl : k = s.size := by omega
            have hl : ¬ (s.size : Int) < (s.size : Int) := by omega
            have HA := Lib.hid (show s.data.toList.all titB = true from all_iff.2 (fun j h => HK.out j h h))
            by_cases g : 40 < s.size
            · have g1 : decide ((s.size : Int) > 40) = true := by simp; omega
              go_wp2_with fail
              go_ret
              exact ⟨by rw [HE.out, HA.out, if_pos rfl, if_pos g]; rfl, rfl⟩
            · have g1 : decide ((s.size : Int) > 40) = false := by simp; omega
              go_wp2_with fail
              go_ret
              exact ⟨by rw [HE.out, HA.out, if_pos rfl, if_neg g]; rfl, rfl⟩
end Go.Proofs.YtohalocbghhenaaGreatDoor
