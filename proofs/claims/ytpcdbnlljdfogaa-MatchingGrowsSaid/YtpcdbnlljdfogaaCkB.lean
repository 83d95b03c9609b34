/- Contracts of layer 7: dangling edges. -/
import Derived.Test.YtpcdbnlljdfogaaCkA
set_option linter.unusedSimpArgs false
set_option linter.unusedVariables false
namespace Go.Proofs.Ytpcdbnlljdfogaa
open Go.RowKit

set_option maxHeartbeats 1000000 in
set_option maxRecDepth 100000 in
theorem idxD_any {a : Option Addr} {b off len cap : Nat} {L : List (Int × Int)} {w : World} (g : Gph) (gb : Nat) (h : SlP w a b off len cap L) (hg : GbAt w gb g) :
    Calls Try.prog 56 #[.slice a len cap, .func (.func 35) #[] #[.pointer (some ⟨gb, 0, none⟩)]] w fun e w' => (∃ z : Int, e = .returned (.int .i64 z) ∧ decide (0 ≤ z) = L.any (dangl g.L.length g.R.length)) ∧ Below w.heap.size w w' := by
  have HG := Lib.hid (fun e W (hW : GbAt W gb g) => dang_any e g gb W hW)
  have HS := Lib.hid h
  have HB := Lib.hid hg
  have hm := h.hmax
  have hcp := h.hcap
  have hl := h.hl
  unfold maxLen at hm
  generalize dangl g.L.length g.R.length = p at *
  clear h hg
  go_enter Try.func56, Try.ntmps56
  go_wp2_with fail
  go_loopw [5, 8] (fun _ s8 wr => ∃ k : Nat, k ≤ len ∧ s8 = .int .i64 (k : Int) ∧ Hid (Below w.heap.size w wr) ∧ Hid ((L.take k).any p = false)) (fun _ s8 _ => (len - (intOf s8)).toNat)
  case atStart => exact ⟨0, Nat.zero_le _, rfl, Lib.hid (Below.refl _ _), Lib.hid rfl⟩
  case round =>
    obtain ⟨k, hk, rfl, HW, HK⟩ := hrel
    have HSW := Lib.hid (HS.out.keep HW.out)
    have HBW := Lib.hid (HB.out.keep HW.out)
    have hsz : w.heap.size ≤ wr.heap.size := HW.out.size
    by_cases hlt : k < len
    · have hlz : (k : Int) < (len : Int) := by omega
      have hkL : k < L.length := by omega
      obtain rfl := HSW.out.ha (by omega)
      have bb := HSW.out.hb (by omega)
      have c0 := HSW.out.c0 k hkL
      have c1 := HSW.out.c1 k hkL
      have HTK := Lib.hid (show (L.take (k + 1)).any p = p (L[k]'hkL) by rw [any_take hkL, HK.out]; simp)
      have HAL := Lib.hid (fun h => any_hit (p := p) hkL h)
      generalize L[k]'hkL = x at *
      have HC := Lib.hid (HG.out x wr HBW.out)
      go_wp2_with fail
      refine HC.out.mono ?_
      rintro e w1 ⟨rfl, hb1⟩
      clear c0 c1 HC
      have HW1 := Lib.hid (HW.out.trans (hb1.mono hsz))
      clear hb1
      cases hq : p x with
      | true =>
        go_wp2_with fail
        go_ret
        exact ⟨⟨_, rfl, by rw [HAL.out hq]; simp⟩, HW1.out⟩
      | false =>
        have HQ := Lib.hid hq
        clear hq
        go_wp2_with fail
        go_roundw
        case rel => exact ⟨k + 1, by omega, by go_num, HW1, Lib.hid (by rw [HTK.out, HQ.out])⟩
        case measure => simp [intOf]; omega
    · have hlz : ¬ (k : Int) < (len : Int) := by omega
      obtain rfl : k = len := by omega
      have HL := Lib.hid (show L.any p = false by
        have := HK.out
        rwa [List.take_of_length_le (by omega)] at this)
      go_wp2_with fail
      go_ret
      exact ⟨⟨_, rfl, by rw [HL.out]; rfl⟩, HW.out⟩
set_option maxHeartbeats 1000000 in
set_option maxRecDepth 100000 in
theorem contD_any {a : Option Addr} {b off len cap : Nat} {L : List (Int × Int)} {w : World} (g : Gph) (gb : Nat) (h : SlP w a b off len cap L) (hg : GbAt w gb g) :
    Calls Try.prog 37 #[.slice a len cap, .func (.func 35) #[] #[.pointer (some ⟨gb, 0, none⟩)]] w fun e w' => e = .returned (.bool (L.any (dangl g.L.length g.R.length))) ∧ Below w.heap.size w w' := by
  have HI := Lib.hid (idxD_any g gb h hg)
  clear h hg
  generalize L.any (dangl g.L.length g.R.length) = r at *
  go_enter Try.func37, Try.ntmps37
  go_wp2_with fail
  refine HI.out.mono ?_
  rintro e w1 ⟨⟨z, rfl, hz⟩, hb⟩
  have hz2 : decide (z ≥ 0) = r := hz
  have HB := Lib.hid hb
  clear hb
  go_wp2_with fail
  go_ret
  exact ⟨ret_bool (by first | exact hz2 | (simp [← hz2]; done)), HB.out⟩
end Go.Proofs.Ytpcdbnlljdfogaa
