/- The reference's Rising, has, Covers. -/
import Derived.Test.YtpcdbnlljdfogaaPrv
set_option linter.unusedSimpArgs false
set_option linter.unusedVariables false
namespace Go.Proofs.Ytpcdbnlljdfogaa
open Go.RowKit

set_option maxHeartbeats 1000000 in
set_option maxRecDepth 100000 in
theorem rhas_any {a : Option Addr} {b off len cap : Nat} {L : List Int} {w : World} (h : SlI w a b off len cap L) (x : Int) :
    Calls Try.prog 53 #[.slice a len cap, .int .i64 x] w fun e w' => e = .returned (.bool (L.contains x)) ∧ w = w' := by
  have HS := Lib.hid h
  have hm := h.hmax
  have hcp := h.hcap
  have hl := Lib.hid h.hl
  unfold maxLen at hm
  clear h
  obtain ⟨r, hr⟩ : ∃ r, r = L.contains x := ⟨_, rfl⟩
  rw [← hr]
  have HR0 := Lib.hid hr
  clear hr
  go_enter Try.func53, Try.ntmps53
  go_wp2_with fail
  go_loopw [5] (fun s5 wr => ∃ k : Nat, k ≤ len ∧ s5 = .int .i64 (k : Int) ∧ w = wr ∧ Hid ((L.take k).any (· == x) = false)) (fun s5 _ => (len - (intOf s5)).toNat)
  case atStart => exact ⟨0, Nat.zero_le _, rfl, rfl, Lib.hid rfl⟩
  case round =>
    obtain ⟨k, hk, rfl, hwr, HK⟩ := hrel
    subst hwr
    by_cases hlt : k < len
    · have hlz : (k : Int) < (len : Int) := by omega
      have hkL : k < L.length := by have := hl.out; omega
      obtain rfl := HS.out.ha (by omega)
      have bb := HS.out.hb (by omega)
      have c0 := HS.out.cell k hkL
      have HTK := Lib.hid (show (L.take (k + 1)).any (· == x) = (L[k]'hkL == x) by rw [any_take hkL, HK.out]; simp)
      have HAL := Lib.hid (fun h => any_hit (p := (· == x)) hkL h)
      generalize L[k]'hkL = y at *
      by_cases hq : y = x
      · have HC := Lib.hid (show r = true by
          rw [HR0.out]
          have := HAL.out (by simpa using hq)
          rw [List.any_eq_true] at this
          obtain ⟨z, hz, he⟩ := this
          rw [List.contains_iff_mem]
          exact (by simpa using he : z = x) ▸ hz)
        clear HAL HTK
        subst hq
        go_wp2_with fail
        go_ret
        exact ⟨ret_bool HC.out.symm, rfl⟩
      · have hq2 : (y == x) = false := by simpa using hq
        have HR := Lib.hid (HTK.out.trans hq2)
        clear HAL HTK
        go_wp2_with fail
        go_roundw
        case rel => exact ⟨k + 1, by omega, by go_num, by first | rfl | trivial, HR⟩
        case measure => simp [intOf]; omega
    · have hlz : ¬ (k : Int) < (len : Int) := by omega
      obtain rfl : k = len := by omega
      have HC := Lib.hid (show r = false by
        rw [HR0.out]
        have := HK.out
        rw [List.take_of_length_le (by rw [hl.out]; exact Nat.le_refl _)] at this
        cases hc : L.contains x with
        | false => rfl
        | true =>
          rw [List.contains_iff_mem] at hc
          have := List.any_eq_false.1 this x hc
          simp at this)
      go_wp2_with fail
      go_ret
      exact ⟨ret_bool HC.out.symm, rfl⟩
set_option maxHeartbeats 2000000 in
set_option maxRecDepth 100000 in
theorem rris_any {a : Option Addr} {b off len cap : Nat} {L : List Int} {w : World} (h : SlI w a b off len cap L) (n : Nat) :
    Calls Try.prog 29 #[.slice a len cap, .int .i64 (n : Int)] w fun e w' => e = .returned (.bool (risesB n L)) ∧ Below w.heap.size w w' := by
  have HS := Lib.hid h
  have hm := h.hmax
  have hcp := h.hcap
  have hl := Lib.hid h.hl
  unfold maxLen at hm
  clear h
  go_enter Try.func29, Try.ntmps29
  go_wp2_with fail
  go_loopw [5] (fun s5 wr => ∃ k : Nat, k ≤ len ∧ s5 = .int .i64 (k : Int) ∧ Hid (Below w.heap.size w wr) ∧ Hid (Rises n (L.take k))) (fun s5 _ => (len - (intOf s5)).toNat)
  case atStart => exact ⟨0, Nat.zero_le _, rfl, Lib.hid (Below.refl _ _), Lib.hid ⟨by simp, by simp⟩⟩
  case round =>
    obtain ⟨k, hk, rfl, HW, HK⟩ := hrel
    have HWq := Lib.hid (fun nq => Lib.hid (bel_drewN HW.out nq))
    by_cases hlt : k < len
    · have hlz : (k : Int) < (len : Int) := by omega
      have hkL : k < L.length := by have := hl.out; omega
      have HSW := Lib.hid (HS.out.keep HW.out)
      obtain rfl := HSW.out.ha (by omega)
      have bb := HSW.out.hb (by omega)
      have c0 := HSW.out.cell k hkL
      have HP := Lib.hid (fun h => rises_pre (n := n) (k := k + 1) (L := L) h)
      have HT := Lib.hid (show Rises n (L.take (k + 1)) ↔ Rises n (L.take k) ∧ (0 ≤ L[k]'hkL ∧ L[k]'hkL < (n : Int)) ∧ (∀ y, (L.take k).getLast? = some y → y < L[k]'hkL) by rw [List.take_succ_eq_append_getElem hkL, rises_snoc])
      by_cases q1 : L[k]'hkL < 0
      · have HN := Lib.hid (risesB_no (HP.out (fun h => by have := (HT.out.1 h).2.1; omega)))
        have k1 : decide (L[k]'hkL < 0) = true := decide_eq_true q1
        clear HP HT
        generalize L[k]'hkL = x at *
        go_wp2_with fail
        go_quiet (fail)
        go_wp2_with fail
        go_ret
        exact ⟨ret_bool HN.out.symm, (HWq.out _).out⟩
      have k1 : decide (L[k]'hkL < 0) = false := decide_eq_false q1
      by_cases q2 : L[k]'hkL ≥ (n : Int)
      · have HN := Lib.hid (risesB_no (HP.out (fun h => by have := (HT.out.1 h).2.1; omega)))
        have k2 : decide (L[k]'hkL ≥ (n : Int)) = true := decide_eq_true q2
        clear HP HT
        generalize L[k]'hkL = x at *
        go_wp2_with fail
        go_quiet (fail)
        go_wp2_with fail
        go_ret
        exact ⟨ret_bool HN.out.symm, (HWq.out _).out⟩
      have k2 : decide (L[k]'hkL ≥ (n : Int)) = false := decide_eq_false q2
      by_cases hk0 : k = 0
      · subst hk0
        have HR := Lib.hid (HT.out.2 ⟨HK.out, ⟨by omega, by omega⟩, fun y hy => by simp at hy⟩)
        clear HT HP
        generalize L[0]'hkL = x at *
        have c00 : wr.cell? ⟨b, off, none⟩ = some (.int .i64 x) := by simpa using c0
        clear c0
        go_wp2_with fail
        go_quiet (fail)
        go_wp2_with fail
        go_roundw
        case rel => exact ⟨1, by omega, by go_num, HWq.out _, HR⟩
        case measure => simp [intOf]; omega
      · obtain ⟨j, rfl⟩ : ∃ j, k = j + 1 := ⟨k - 1, by omega⟩
        have c1 := HSW.out.cell j (by omega)
        have HLt := Lib.hid (last_take (L := L) (k := j) (by omega))
        have hkd : decide (((j + 1 : Nat) : Int) > 0) = true := decide_eq_true (by omega)
        have hsb : ((j + 1 : Nat) : Int) - 1 = (j : Int) := by omega
        by_cases hle : L[j]'(by omega) ≥ L[j + 1]'hkL
        · have HN := Lib.hid (risesB_no (HP.out (fun h => by have := (HT.out.1 h).2.2 _ HLt.out; omega)))
          have hld : decide (L[j]'(by omega) ≥ L[j + 1]'hkL) = true := decide_eq_true hle
          clear HT HP HLt
          generalize L[j + 1]'hkL = x at *
          generalize L[j]'(by omega) = y at *
          go_wp2_with fail
          go_quiet (fail)
          go_wp2_with fail
          go_ret
          exact ⟨ret_bool HN.out.symm, (HWq.out _).out⟩
        · have HR := Lib.hid (HT.out.2 ⟨HK.out, ⟨by omega, by omega⟩, fun y hy => by rw [HLt.out] at hy; cases hy; omega⟩)
          have hld : decide (L[j]'(by omega) ≥ L[j + 1]'hkL) = false := decide_eq_false hle
          clear HT HP HLt
          generalize L[j + 1]'hkL = x at *
          generalize L[j]'(by omega) = y at *
          go_wp2_with fail
          go_quiet (fail)
          go_wp2_with fail
          go_roundw
          case rel => exact ⟨j + 1 + 1, by omega, by go_num, HWq.out _, HR⟩
          case measure => simp [intOf]; omega
    · have hlz : ¬ (k : Int) < (len : Int) := by omega
      obtain rfl : k = len := by omega
      have HL := Lib.hid (risesB_ok (show Rises n L by
        have := HK.out
        rwa [List.take_of_length_le (by have := hl.out; omega)] at this))
      go_wp2_with fail
      go_ret
      exact ⟨ret_bool HL.out.symm, HW.out⟩
end Go.Proofs.Ytpcdbnlljdfogaa
