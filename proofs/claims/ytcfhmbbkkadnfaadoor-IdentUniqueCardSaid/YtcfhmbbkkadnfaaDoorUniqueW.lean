/- The law IdentUnique: its walk. -/
import Derived.Test.YtcfhmbbkkadnfaaDoorUnique
set_option linter.unusedSimpArgs false
set_option linter.unusedVariables false
namespace Go.Proofs.YtcfhmbbkkadnfaaDoor
open Go.RowKit

set_option maxHeartbeats 1000000 in
set_option maxRecDepth 100000 in
theorem unique_out {a : Option Addr} {b off len cap : Nat} {L : List ByteArray} {w : World} (h : SlS w a b off len cap L) (hs : smallB L = false) (least : Int) :
    Calls Tryd.prog 10 #[.slice a len cap, .int .i64 least] w fun e w' => e = .returned (.bool true) ∧ Below w.heap.size w w' := by
  have HS := Lib.hid h
  clear h
  go_enter Tryd.func10, Tryd.ntmps10
  go_wp2_with fail
  refine (awake_any _).mono ?_
  rintro e w1 ⟨rfl, hb⟩
  have HB := Lib.hid hb
  have HS1 := Lib.hid (HS.out.keep hb)
  clear hb
  go_wp2_with fail
  refine (small_any HS1.out).mono ?_
  rw [hs]
  rintro e w2 ⟨rfl, rfl⟩
  go_wp2
  go_ret
  exact ⟨rfl, HB.out⟩
set_option maxHeartbeats 1000000 in
set_option maxRecDepth 100000 in
theorem unique_range {a : Option Addr} {b off len cap : Nat} {L : List ByteArray} {w : World} (h : SlS w a b off len cap L) (na : a = none → cap = 0) (hs : smallB L = true) (least : Int) (hl : least < 1) :
    Calls Tryd.prog 10 #[.slice a len cap, .int .i64 least] w fun e w' => e = .returned (.bool true) ∧ Below w.heap.size w w' := by
  obtain ⟨hz1, hz2⟩ := small_len hs
  have hlen : len ≤ 60 := by rw [← h.hl]; exact hz1
  have HS := Lib.hid h
  have hSs := set_srt L
  clear h hz1 hz2
  go_enter Tryd.func10, Tryd.ntmps10
  go_wp2_with fail
  refine (awake_any _).mono ?_
  rintro e w1 ⟨rfl, hb⟩
  have HB := Lib.hid hb
  have HS1 := Lib.hid (HS.out.keep hb)
  clear hb
  go_wp2_with fail
  refine (small_any HS1.out).mono ?_
  rw [hs]
  rintro e w2 ⟨rfl, rfl⟩
  go_wp2_with fail
  refine (set_any HS1.out na (by omega)).mono ?_
  rintro e w3 ⟨v, rfl, hown, hb⟩
  obtain ⟨aS, bS, cS, rfl, hsS, nS⟩ := own_any hown
  have HB3 := Lib.hid (HB.out.trans (hb.mono HB.out.size))
  have HS3 := Lib.hid hsS
  clear hown hb HB HS1 nS hsS
  obtain ⟨S, hS⟩ : ∃ S, setL L = S := ⟨_, rfl⟩
  rw [hS] at HS3 hSs ⊢
  clear hS
  go_wp2_with fail
  refine (abb_range HS3.out hSs least hl).mono ?_
  rintro e w4 ⟨rfl, n, rfl⟩
  have HB5 := Lib.hid (bel_drewN HB3.out n)
  generalize World.drewN _ n = w6 at *
  have k1 : decide (least < 1) = true := decide_eq_true hl
  go_wp2
  go_ret
  exact ⟨rfl, HB5.out⟩
theorem unique_walk {a : Option Addr} {b off len cap : Nat} {L : List ByteArray} {w : World} {least : Int} (h : SlS w a b off len cap L) (na : a = none → cap = 0) (ll : -9223372036854775808 ≤ least) (ul : least ≤ 9223372036854775807) :
    Calls Tryd.prog 10 #[.slice a len cap, .int .i64 least] w fun e w' => e = .returned (.bool true) ∧ Below w.heap.size w w' := by
  cases hs : smallB L with
  | false => exact unique_out h hs least
  | true =>
    by_cases hl : least < 1
    · exact unique_range h na hs least hl
    · obtain ⟨l, rfl⟩ := Int.eq_ofNat_of_zero_le (show 0 ≤ least by omega)
      exact unique_in h na hs l (by omega) (by omega)
end Go.Proofs.YtcfhmbbkkadnfaaDoor
