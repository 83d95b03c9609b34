/- The law IdentNatural: its walk. -/
import Derived.Test.YtpndapbflinhlaaDoorRNatural
set_option linter.unusedSimpArgs false
set_option linter.unusedVariables false
namespace Go.Proofs.YtpndapbflinhlaaDoor
open Go.RowKit

set_option maxHeartbeats 1000000 in
set_option maxRecDepth 100000 in
theorem natural_walk (a b : ByteArray) (ha : a.size ≤ 9223372036854775807) (hb : b.size ≤ 9223372036854775807) (w : World) :
    Calls Tryd.prog 6 #[.string a, .string b] w fun e w' => e = .returned (.bool true) ∧ Below w.heap.size w w' := by
  by_cases h1 : a.size > 1500
  · have k1 : decide ((a.size : Int) > 1500) = true := decide_eq_true (by omega)
    go_enter Tryd.func6, Tryd.ntmps6
    go_wp2_with fail
    refine (awake_any _).mono ?_
    rintro e w1 ⟨rfl, hbl⟩
    have HB := Lib.hid hbl
    clear hbl
    go_wp2
    go_ret
    exact ⟨rfl, HB.out⟩
  · have k1 : decide ((a.size : Int) > 1500) = false := decide_eq_false (by omega)
    by_cases h2 : b.size > 1500
    · have k2 : decide ((b.size : Int) > 1500) = true := decide_eq_true (by omega)
      go_enter Tryd.func6, Tryd.ntmps6
      go_wp2_with fail
      refine (awake_any _).mono ?_
      rintro e w1 ⟨rfl, hbl⟩
      have HB := Lib.hid hbl
      clear hbl
      go_wp2
      go_ret
      exact ⟨rfl, HB.out⟩
    · have k2 : decide ((b.size : Int) > 1500) = false := decide_eq_false (by omega)
      have H1 := Lib.hid (fun W => natural_any a b (by omega) (by omega) W)
      have H2 := Lib.hid (fun W => rnatural_any a b (by omega) (by omega) W)
      generalize natC a.data.toList b.data.toList = v at *
      go_enter Tryd.func6, Tryd.ntmps6
      go_wp2_with fail
      refine (awake_any _).mono ?_
      rintro e w1 ⟨rfl, hbl⟩
      have HB := Lib.hid hbl
      clear hbl
      go_wp2_with fail
      refine (H1.out _).mono ?_
      rintro e w2 ⟨rfl, hbl⟩
      have HB2 := Lib.hid (HB.out.trans (hbl.mono HB.out.size))
      clear hbl HB
      go_wp2_with fail
      refine (H2.out _).mono ?_
      rintro e w3 ⟨rfl, n, rfl⟩
      have HB3 := Lib.hid (bel_drewN HB2.out n)
      clear HB2
      generalize w2.drewN n = w4 at *
      go_wp2
      go_ret
      exact ⟨rfl, HB3.out⟩
end Go.Proofs.YtpndapbflinhlaaDoor
