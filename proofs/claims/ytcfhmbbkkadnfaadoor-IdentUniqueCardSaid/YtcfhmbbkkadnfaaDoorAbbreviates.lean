/- The law IdentAbbreviates: its walk. -/
import Derived.Test.YtcfhmbbkkadnfaaDoorRAbb
set_option linter.unusedSimpArgs false
set_option linter.unusedVariables false
namespace Go.Proofs.YtcfhmbbkkadnfaaDoor
open Go.RowKit

set_option maxHeartbeats 1000000 in
set_option maxRecDepth 100000 in
theorem abb_bad {a : Option Addr} {b off len cap : Nat} {L : List ByteArray} {w : World} (h : SlS w a b off len cap L) (hs : srtL L = false) (least : Int) :
    Calls Tryd.prog 40 #[.slice a len cap, .int .i64 least] w fun e w' => e = .returned (.tuple #[.slice none 0 0, .int .i64 1]) ∧ ∃ n, w' = w.drewN n := by
  have HS := Lib.hid h
  clear h
  go_enter Tryd.func40, Tryd.ntmps40
  go_wp2_with fail
  refine (sorted_any HS.out).mono ?_
  rw [hs]
  rintro e w1 ⟨rfl, n, rfl⟩
  go_wp2
  go_ret2
  exact ⟨rfl, n, rfl⟩
set_option maxHeartbeats 1000000 in
set_option maxRecDepth 100000 in
theorem abb_range {a : Option Addr} {b off len cap : Nat} {L : List ByteArray} {w : World} (h : SlS w a b off len cap L) (hs : srtL L = true) (least : Int) (hl : least < 1) :
    Calls Tryd.prog 40 #[.slice a len cap, .int .i64 least] w fun e w' => e = .returned (.tuple #[.slice none 0 0, .int .i64 5]) ∧ ∃ n, w' = w.drewN n := by
  have HS := Lib.hid h
  have k1 : decide (least < 1) = true := decide_eq_true hl
  clear h
  go_enter Tryd.func40, Tryd.ntmps40
  go_wp2_with fail
  refine (sorted_any HS.out).mono ?_
  rw [hs]
  rintro e w1 ⟨rfl, n, rfl⟩
  go_wp2
  go_ret2
  exact ⟨rfl, n, rfl⟩

set_option maxHeartbeats 1000000 in
set_option maxRecDepth 100000 in
theorem abbreviates_out {a : Option Addr} {b off len cap : Nat} {L : List ByteArray} {w : World} (h : SlS w a b off len cap L) (hs : smallB L = false) (least : Int) :
    Calls Tryd.prog 9 #[.slice a len cap, .int .i64 least] w fun e w' => e = .returned (.bool true) ∧ Below w.heap.size w w' := by
  have HS := Lib.hid h
  clear h
  go_enter Tryd.func9, Tryd.ntmps9
  go_wp2_with fail
  refine (awake_any _).mono ?_
  rintro e w1 ⟨rfl, hb⟩
  have HB := Lib.hid hb
  have HS1 := Lib.hid (HS.out.keep hb)
  clear hb
  go_wp2_with fail
  refine (small_any HS1.out).mono ?_
  rw [hs]
  rintro e w2 ⟨rfl, rfl⟩
  go_wp2
  go_ret
  exact ⟨rfl, HB.out⟩
set_option maxHeartbeats 1000000 in
set_option maxRecDepth 100000 in
theorem abbreviates_bad {a : Option Addr} {b off len cap : Nat} {L : List ByteArray} {w : World} (h : SlS w a b off len cap L) (hs : smallB L = true) (hq : srtL L = false) (least : Int) :
    Calls Tryd.prog 9 #[.slice a len cap, .int .i64 least] w fun e w' => e = .returned (.bool true) ∧ Below w.heap.size w w' := by
  have HS := Lib.hid h
  clear h
  go_enter Tryd.func9, Tryd.ntmps9
  go_wp2_with fail
  refine (awake_any _).mono ?_
  rintro e w1 ⟨rfl, hb⟩
  have HB := Lib.hid hb
  have HS1 := Lib.hid (HS.out.keep hb)
  clear hb
  go_wp2_with fail
  refine (small_any HS1.out).mono ?_
  rw [hs]
  rintro e w2 ⟨rfl, rfl⟩
  go_wp2_with fail
  refine (abb_bad HS1.out hq least).mono ?_
  rintro e w3 ⟨rfl, n, rfl⟩
  have HS3 := Lib.hid (HS1.out.drewN n)
  have HB3 := Lib.hid (bel_drewN HB.out n)
  clear HS1 HB
  generalize World.drewN _ n = w4 at *
  go_wp2_with fail
  refine (rsorted_any HS3.out).mono ?_
  rw [hq]
  rintro e w5 ⟨rfl, m, rfl⟩
  have HB5 := Lib.hid (bel_drewN HB3.out m)
  generalize World.drewN _ m = w6 at *
  go_wp2
  go_ret
  exact ⟨rfl, HB5.out⟩
set_option maxHeartbeats 1000000 in
set_option maxRecDepth 100000 in
theorem abbreviates_range {a : Option Addr} {b off len cap : Nat} {L : List ByteArray} {w : World} (h : SlS w a b off len cap L) (hs : smallB L = true) (hq : srtL L = true) (least : Int) (hl : least < 1) :
    Calls Tryd.prog 9 #[.slice a len cap, .int .i64 least] w fun e w' => e = .returned (.bool true) ∧ Below w.heap.size w w' := by
  have HS := Lib.hid h
  clear h
  go_enter Tryd.func9, Tryd.ntmps9
  go_wp2_with fail
  refine (awake_any _).mono ?_
  rintro e w1 ⟨rfl, hb⟩
  have HB := Lib.hid hb
  have HS1 := Lib.hid (HS.out.keep hb)
  clear hb
  go_wp2_with fail
  refine (small_any HS1.out).mono ?_
  rw [hs]
  rintro e w2 ⟨rfl, rfl⟩
  go_wp2_with fail
  refine (abb_range HS1.out hq least hl).mono ?_
  rintro e w3 ⟨rfl, n, rfl⟩
  have HS3 := Lib.hid (HS1.out.drewN n)
  have HB3 := Lib.hid (bel_drewN HB.out n)
  clear HS1 HB
  generalize World.drewN _ n = w4 at *
  go_wp2_with fail
  refine (rsorted_any HS3.out).mono ?_
  rw [hq]
  rintro e w5 ⟨rfl, m, rfl⟩
  have HB5 := Lib.hid (bel_drewN HB3.out m)
  generalize World.drewN _ m = w6 at *
  go_wp2
  go_ret
  exact ⟨rfl, HB5.out⟩

set_option maxHeartbeats 2000000 in
set_option maxRecDepth 100000 in
theorem abbreviates_in {a : Option Addr} {b off len cap : Nat} {L : List ByteArray} {w : World} (h : SlS w a b off len cap L) (hs : smallB L = true) (hq : srtL L = true) (l : Nat) (h1 : 1 ≤ l) (h2 : l ≤ 9223372036854775807) :
    Calls Tryd.prog 9 #[.slice a len cap, .int .i64 (l : Int)] w fun e w' => e = .returned (.bool true) ∧ Below w.heap.size w w' := by
  obtain ⟨hz1, hz2⟩ := small_len hs
  have HS := Lib.hid h
  have hlen : len ≤ 60 := by rw [← h.hl]; exact hz1
  have hcap := h.hcap
  have hmax := h.hmax
  unfold maxLen at hmax
  have HL := Lib.hid h.hl
  have HZ2 := Lib.hid hz2
  have k1 : ¬ (l : Int) < 1 := by omega
  have k2 : decide ((l : Int) < 1) = false := decide_eq_false k1
  clear h hz1 hz2
  go_enter Tryd.func9, Tryd.ntmps9
  go_wp2_with fail
  refine (awake_any _).mono ?_
  rintro e w1 ⟨rfl, hb⟩
  have HB := Lib.hid hb
  have HS1 := Lib.hid (HS.out.keep hb)
  clear hb
  go_wp2_with fail
  refine (small_any HS1.out).mono ?_
  rw [hs]
  rintro e w2 ⟨rfl, rfl⟩
  go_wp2_with fail
  refine (abb_any HS1.out (by omega) (fun x hx => Nat.le_trans (HZ2.out x hx) (by omega)) hq (l : Int) (by omega) (by omega)).mono ?_
  rintro e w3 ⟨g, rfl, ho, hg, hb⟩
  have HS3 := Lib.hid (HS1.out.keep hb)
  have HB3 := Lib.hid (HB.out.trans (hb.mono HB.out.size))
  have HO3 := Lib.hid ho
  rw [HL.out] at HO3 ⊢
  clear hb hg ho HS1 HB HS
  go_wp2_with fail
  refine (rsorted_any HS3.out).mono ?_
  rw [hq]
  rintro e w5 ⟨rfl, m, rfl⟩
  have HS5 := Lib.hid (HS3.out.drewN m)
  have HB5 := Lib.hid (bel_drewN HB3.out m)
  have HO5 := Lib.hid (HO3.out.drewN m)
  clear HS3 HB3 HO3
  generalize World.drewN _ m = w6 at *
  have k3 : ((len : Int) != (len : Int)) = false := by simp
  go_wp2_with fail
  go_loopw [7] (fun s7 wr => ∃ (k m : Nat), k ≤ len ∧ s7 = .int .i64 (k : Int) ∧ w6.drewN m = wr) (fun s7 _ => (len - (intOf s7)).toNat)
  case atStart => exact ⟨0, 0, Nat.zero_le _, rfl, rfl⟩
  case round =>
    obtain ⟨k, m, hk, rfl, rfl⟩ := hrel
    have HSi := Lib.hid (HS5.out.drewN m)
    have HOi := Lib.hid (HO5.out.drewN m)
    have HBi := Lib.hid (bel_drewN HB5.out m)
    obtain ⟨wi, hwi⟩ : ∃ wi, w6.drewN m = wi := ⟨_, rfl⟩
    rw [hwi] at HSi HOi HBi ⊢
    have HWI := Lib.hid hwi
    clear hwi
    by_cases hlt : k < len
    · have l2 : (k : Int) < (len : Int) := by omega
      have hkL : k < L.length := by rw [HL.out]; exact hlt
      have hkA : k < (abbL L (l : Int)).length := by unfold abbL; rw [List.length_map, List.length_range]; exact hkL
      have c1 : wi.cell? ⟨g, k, none⟩ = some (.string (abbAt L (l : Int) k)) := by
        have := HOi.out.cell k hkA
        rw [Nat.zero_add] at this
        rw [this]
        simp [abbL]
      have HAB := Lib.hid (fun n => rabb_any (HSi.out.drewN n) HZ2.out hq k l hlt h1 h2)
      obtain ⟨R, hR⟩ : ∃ R, abbAt L (l : Int) k = R := ⟨_, rfl⟩
      rw [hR] at c1 HAB
      clear hR hkA
      have k4 : (R.toList == R.toList) = true := by simp
      go_wp2_with fail
      go_quiet ((first | (go_at_call 41; exact quietD (HAB.out _))))
      go_wp2_with fail
      go_roundw
      case rel => exact ⟨k + 1, m + nq, by omega, by go_num, by rw [← HWI.out, World.drewN_drewN]⟩
      case measure => simp [intOf]; omega
    · have l2 : ¬ (k : Int) < (len : Int) := by omega
      go_wp2
      go_ret
      exact ⟨rfl, HBi.out⟩
theorem abbreviates_walk {a : Option Addr} {b off len cap : Nat} {L : List ByteArray} {w : World} {least : Int} (h : SlS w a b off len cap L) (ll : -9223372036854775808 ≤ least) (ul : least ≤ 9223372036854775807) :
    Calls Tryd.prog 9 #[.slice a len cap, .int .i64 least] w fun e w' => e = .returned (.bool true) ∧ Below w.heap.size w w' := by
  cases hs : smallB L with
  | false => exact abbreviates_out h hs least
  | true =>
    cases hq : srtL L with
    | false => exact abbreviates_bad h hs hq least
    | true =>
      by_cases hl : least < 1
      · exact abbreviates_range h hs hq least hl
      · obtain ⟨l, rfl⟩ := Int.eq_ofNat_of_zero_le (show 0 ≤ least by omega)
        exact abbreviates_in h hs hq l (by omega) (by omega)
end Go.Proofs.YtcfhmbbkkadnfaaDoor
