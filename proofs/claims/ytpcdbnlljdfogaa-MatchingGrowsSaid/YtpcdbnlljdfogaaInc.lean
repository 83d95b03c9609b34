/- Contracts of layer 7: strictly increasing indices. -/
import Derived.Test.YtpcdbnlljdfogaaCkA
set_option linter.unusedSimpArgs false
set_option linter.unusedVariables false
namespace Go.Proofs.Ytpcdbnlljdfogaa
open Go.RowKit

open Classical in
noncomputable def risesB (n : Nat) (L : List Int) : Bool := decide (Rises n L)
theorem risesB_ok {n : Nat} {L : List Int} (h : Rises n L) : risesB n L = true := by unfold risesB; exact decide_eq_true h
theorem risesB_no {n : Nat} {L : List Int} (h : ¬ Rises n L) : risesB n L = false := by unfold risesB; exact decide_eq_false h
theorem risesB_iff {n : Nat} {L : List Int} : risesB n L = true ↔ Rises n L := by unfold risesB; exact decide_eq_true_iff

set_option maxHeartbeats 1000000 in
set_option maxRecDepth 100000 in
theorem incI_any {a : Option Addr} {b off len cap : Nat} {L : List Int} {w : World} (h : SlI w a b off len cap L) (a2 : Option Addr) (n c2 : Nat) :
    Calls Try.prog 41 #[.slice a len cap, .slice a2 n c2] w fun e w' => e = .returned (.bool (risesB n L)) ∧ w = w' := by
  have HG := Lib.hid (fun x W => existsI_any x a2 n c2 W)
  have HS := Lib.hid h
  have hm := h.hmax
  have hcp := h.hcap
  have hl := Lib.hid h.hl
  unfold maxLen at hm
  clear h
  go_enter Try.func41, Try.ntmps41
  go_wp2_with fail
  go_loopw [5, 6, 9] (fun _ _ s9 wr => ∃ k : Nat, k ≤ len ∧ s9 = .int .i64 (k : Int) ∧ w = wr ∧ Hid (Rises n (L.take k))) (fun _ _ s9 _ => (len - (intOf s9)).toNat)
  case atStart => exact ⟨0, Nat.zero_le _, rfl, rfl, Lib.hid ⟨by simp, by simp⟩⟩
  case round =>
    obtain ⟨k, hk, rfl, rfl, HK⟩ := hrel
    by_cases hlt : k < len
    · have hlz : (k : Int) < (len : Int) := by omega
      have hkL : k < L.length := by have := hl.out; omega
      obtain rfl := HS.out.ha (by omega)
      have bb := HS.out.hb (by omega)
      have c0 := HS.out.cell k hkL
      have HP := Lib.hid (fun h => rises_pre (n := n) (k := k + 1) (L := L) h)
      have HT := Lib.hid (show Rises n (L.take (k + 1)) ↔ Rises n (L.take k) ∧ (0 ≤ L[k]'hkL ∧ L[k]'hkL < (n : Int)) ∧ (∀ y, (L.take k).getLast? = some y → y < L[k]'hkL) by rw [List.take_succ_eq_append_getElem hkL, rises_snoc])
      have HE := Lib.hid (show exB (L[k]'hkL) n = true ↔ (0 ≤ L[k]'hkL ∧ L[k]'hkL < (n : Int)) by unfold exB; simp)
      have HC := Lib.hid (HG.out (L[k]'hkL) w)
      cases hq : exB (L[k]'hkL) n with
      | false =>
        have HN := Lib.hid (show ¬ Rises n L from HP.out (fun h => by have := HE.out.2 (HT.out.1 h).2.1; rw [hq] at this; cases this))
        rw [hq] at HC
        clear hq HE HT HP
        generalize L[k]'hkL = x at *
        go_wp2_with fail
        refine HC.out.mono ?_
        rintro e w1 ⟨rfl, rfl⟩
        go_wp2_with fail
        go_ret
        exact ⟨ret_bool (risesB_no HN.out).symm, rfl⟩
      | true =>
        have HQ := Lib.hid (HE.out.1 hq)
        rw [hq] at HC
        clear hq HE
        by_cases hk0 : k = 0
        · subst hk0
          have HR := Lib.hid (HT.out.2 ⟨HK.out, HQ.out, fun y hy => by simp at hy⟩)
          clear HT HP HQ
          generalize L[0]'hkL = x at *
          have c00 : w.cell? ⟨b, off, none⟩ = some (.int .i64 x) := by simpa using c0
          clear c0
          go_wp2_with fail
          refine HC.out.mono ?_
          rintro e w1 ⟨rfl, rfl⟩
          go_wp2_with fail
          go_roundw
          case rel => exact ⟨1, by omega, by go_num, by first | rfl | trivial, HR⟩
          case measure => simp [intOf]; omega
        · obtain ⟨j, rfl⟩ : ∃ j, k = j + 1 := ⟨k - 1, by omega⟩
          have c1 := HS.out.cell j (by omega)
          have HLt := Lib.hid (last_take (L := L) (k := j) (by omega))
          have hkd : decide (((j + 1 : Nat) : Int) > 0) = true := decide_eq_true (by omega)
          have hsb : ((j + 1 : Nat) : Int) - 1 = (j : Int) := by omega
          by_cases hle : L[j + 1]'hkL ≤ L[j]'(by omega)
          · have HN := Lib.hid (show ¬ Rises n L from HP.out (fun h => by have := (HT.out.1 h).2.2 _ HLt.out; omega))
            have hld : decide (L[j + 1]'hkL ≤ L[j]'(by omega)) = true := decide_eq_true hle
            clear HT HP HQ HLt
            generalize L[j + 1]'hkL = x at *
            generalize L[j]'(by omega) = y at *
            go_wp2_with fail
            refine HC.out.mono ?_
            rintro e w1 ⟨rfl, rfl⟩
            go_wp2_with fail
            go_ret
            exact ⟨ret_bool (risesB_no HN.out).symm, rfl⟩
          · have HR := Lib.hid (HT.out.2 ⟨HK.out, HQ.out, fun y hy => by rw [HLt.out] at hy; cases hy; omega⟩)
            have hld : decide (L[j + 1]'hkL ≤ L[j]'(by omega)) = false := decide_eq_false hle
            clear HT HP HQ HLt
            generalize L[j + 1]'hkL = x at *
            generalize L[j]'(by omega) = y at *
            go_wp2_with fail
            refine HC.out.mono ?_
            rintro e w1 ⟨rfl, rfl⟩
            go_wp2_with fail
            go_roundw
            case rel => exact ⟨j + 1 + 1, by omega, by go_num, by first | rfl | trivial, HR⟩
            case measure => simp [intOf]; omega
    · have hlz : ¬ (k : Int) < (len : Int) := by omega
      obtain rfl : k = len := by omega
      have HL := Lib.hid (show Rises n L by
        have := HK.out
        rwa [List.take_of_length_le (by have := hl.out; omega)] at this)
      go_wp2_with fail
      go_ret
      exact ⟨ret_bool (risesB_ok HL.out).symm, rfl⟩
set_option maxHeartbeats 1000000 in
set_option maxRecDepth 100000 in
theorem incP_any {a : Option Addr} {b off len cap : Nat} {L : List Int} {w : World} (h : SlI w a b off len cap L) (a2 : Option Addr) (n c2 : Nat) :
    Calls Try.prog 57 #[.slice a len cap, .slice a2 n c2] w fun e w' => e = .returned (.bool (risesB n L)) ∧ w = w' := by
  have HG := Lib.hid (fun x W => existsP_any x a2 n c2 W)
  have HS := Lib.hid h
  have hm := h.hmax
  have hcp := h.hcap
  have hl := Lib.hid h.hl
  unfold maxLen at hm
  clear h
  go_enter Try.func57, Try.ntmps57
  go_wp2_with fail
  go_loopw [5, 6, 9] (fun _ _ s9 wr => ∃ k : Nat, k ≤ len ∧ s9 = .int .i64 (k : Int) ∧ w = wr ∧ Hid (Rises n (L.take k))) (fun _ _ s9 _ => (len - (intOf s9)).toNat)
  case atStart => exact ⟨0, Nat.zero_le _, rfl, rfl, Lib.hid ⟨by simp, by simp⟩⟩
  case round =>
    obtain ⟨k, hk, rfl, rfl, HK⟩ := hrel
    by_cases hlt : k < len
    · have hlz : (k : Int) < (len : Int) := by omega
      have hkL : k < L.length := by have := hl.out; omega
      obtain rfl := HS.out.ha (by omega)
      have bb := HS.out.hb (by omega)
      have c0 := HS.out.cell k hkL
      have HP := Lib.hid (fun h => rises_pre (n := n) (k := k + 1) (L := L) h)
      have HT := Lib.hid (show Rises n (L.take (k + 1)) ↔ Rises n (L.take k) ∧ (0 ≤ L[k]'hkL ∧ L[k]'hkL < (n : Int)) ∧ (∀ y, (L.take k).getLast? = some y → y < L[k]'hkL) by rw [List.take_succ_eq_append_getElem hkL, rises_snoc])
      have HE := Lib.hid (show exB (L[k]'hkL) n = true ↔ (0 ≤ L[k]'hkL ∧ L[k]'hkL < (n : Int)) by unfold exB; simp)
      have HC := Lib.hid (HG.out (L[k]'hkL) w)
      cases hq : exB (L[k]'hkL) n with
      | false =>
        have HN := Lib.hid (show ¬ Rises n L from HP.out (fun h => by have := HE.out.2 (HT.out.1 h).2.1; rw [hq] at this; cases this))
        rw [hq] at HC
        clear hq HE HT HP
        generalize L[k]'hkL = x at *
        go_wp2_with fail
        refine HC.out.mono ?_
        rintro e w1 ⟨rfl, rfl⟩
        go_wp2_with fail
        go_ret
        exact ⟨ret_bool (risesB_no HN.out).symm, rfl⟩
      | true =>
        have HQ := Lib.hid (HE.out.1 hq)
        rw [hq] at HC
        clear hq HE
        by_cases hk0 : k = 0
        · subst hk0
          have HR := Lib.hid (HT.out.2 ⟨HK.out, HQ.out, fun y hy => by simp at hy⟩)
          clear HT HP HQ
          generalize L[0]'hkL = x at *
          have c00 : w.cell? ⟨b, off, none⟩ = some (.int .i64 x) := by simpa using c0
          clear c0
          go_wp2_with fail
          refine HC.out.mono ?_
          rintro e w1 ⟨rfl, rfl⟩
          go_wp2_with fail
          go_roundw
          case rel => exact ⟨1, by omega, by go_num, by first | rfl | trivial, HR⟩
          case measure => simp [intOf]; omega
        · obtain ⟨j, rfl⟩ : ∃ j, k = j + 1 := ⟨k - 1, by omega⟩
          have c1 := HS.out.cell j (by omega)
          have HLt := Lib.hid (last_take (L := L) (k := j) (by omega))
          have hkd : decide (((j + 1 : Nat) : Int) > 0) = true := decide_eq_true (by omega)
          have hsb : ((j + 1 : Nat) : Int) - 1 = (j : Int) := by omega
          by_cases hle : L[j + 1]'hkL ≤ L[j]'(by omega)
          · have HN := Lib.hid (show ¬ Rises n L from HP.out (fun h => by have := (HT.out.1 h).2.2 _ HLt.out; omega))
            have hld : decide (L[j + 1]'hkL ≤ L[j]'(by omega)) = true := decide_eq_true hle
            clear HT HP HQ HLt
            generalize L[j + 1]'hkL = x at *
            generalize L[j]'(by omega) = y at *
            go_wp2_with fail
            refine HC.out.mono ?_
            rintro e w1 ⟨rfl, rfl⟩
            go_wp2_with fail
            go_ret
            exact ⟨ret_bool (risesB_no HN.out).symm, rfl⟩
          · have HR := Lib.hid (HT.out.2 ⟨HK.out, HQ.out, fun y hy => by rw [HLt.out] at hy; cases hy; omega⟩)
            have hld : decide (L[j + 1]'hkL ≤ L[j]'(by omega)) = false := decide_eq_false hle
            clear HT HP HQ HLt
            generalize L[j + 1]'hkL = x at *
            generalize L[j]'(by omega) = y at *
            go_wp2_with fail
            refine HC.out.mono ?_
            rintro e w1 ⟨rfl, rfl⟩
            go_wp2_with fail
            go_roundw
            case rel => exact ⟨j + 1 + 1, by omega, by go_num, by first | rfl | trivial, HR⟩
            case measure => simp [intOf]; omega
    · have hlz : ¬ (k : Int) < (len : Int) := by omega
      obtain rfl : k = len := by omega
      have HL := Lib.hid (show Rises n L by
        have := HK.out
        rwa [List.take_of_length_le (by have := hl.out; omega)] at this)
      go_wp2_with fail
      go_ret
      exact ⟨ret_bool (risesB_ok HL.out).symm, rfl⟩
end Go.Proofs.Ytpcdbnlljdfogaa
