/- The examples of the chapter on names: awake. -/
import Derived.Test.YtflpehpjemlphaaDoorEgs
set_option linter.unusedSimpArgs false
set_option linter.unusedVariables false
namespace Go.Proofs.YtflpehpjemlphaaDoor
open Go.RowKit

set_option maxHeartbeats 4000000 in
set_option maxRecDepth 100000 in
theorem awake_any (w : World) : Calls Tryd.prog 4 #[] w fun e w' => e = .returned (.bool true) ∧ Below w.heap.size w w' := by
  have HB0 := Lib.hid (Below.refl w.heap.size w)
  go_enter Tryd.func4, Tryd.ntmps4
  go_wp2_with fail
  refine (eg_abb w.heap.size _ (flip_lit (by simp [go_sem]) (by simp [go_sem]) (by simp [go_sem]) (by simp))).mono ?_
  rintro e w1 ⟨q, rfl, hs, hb⟩
  have HS1 := Lib.hid hs
  have HB1 := Lib.hid (show Below w.heap.size w w1 from (Below.alloc (Below.refl _ w) (Nat.le_refl _) _).trans (hb.mono (by simp)))
  clear hs hb HB0
  go_wp2_with fail
  refine (eg_n1 _).mono ?_
  rintro e w2 ⟨rfl, rfl⟩
  go_wp2_with fail
  refine (eg_n2 _).mono ?_
  rintro e w2 ⟨rfl, rfl⟩
  go_wp2_with fail
  refine (eg_c1 _).mono ?_
  rintro e w2 ⟨rfl, rfl⟩
  go_wp2_with fail
  refine (eg_c2 _).mono ?_
  rintro e w2 ⟨rfl, rfl⟩
  go_wp2_with fail
  refine (eg_t1 _).mono ?_
  rintro e w2 ⟨rfl, rfl⟩
  go_wp2_with fail
  refine (eg_t2 _).mono ?_
  rintro e w2 ⟨rfl, rfl⟩
  go_wp2_with fail
  refine (eg_f1 _).mono ?_
  rintro e w2 ⟨rfl, rfl⟩
  go_wp2_with fail
  refine (eg_b1 _).mono ?_
  rintro e w2 ⟨rfl, rfl⟩
  go_wp2_with fail
  refine (eg_nat1 _).mono ?_
  rintro e w2 ⟨rfl, hb⟩
  have HS2 := Lib.hid (HS1.out.keep hb)
  have HB2 := Lib.hid (HB1.out.trans (hb.mono HB1.out.size))
  clear hb HS1 HB1
  go_wp2_with fail
  refine (eg_nat2 _).mono ?_
  rintro e w3 ⟨rfl, hb⟩
  have HS3 := Lib.hid (HS2.out.keep hb)
  have HB3 := Lib.hid (HB2.out.trans (hb.mono HB2.out.size))
  clear hb HS2 HB2
  go_wp2_with fail
  have HS4 := Lib.hid (HS3.out.keep (Below.alloc (Below.refl _ w3) (Nat.le_refl _) (.cells #[.string ⟨#[102, 108, 105]⟩, .string ⟨#[102, 108, 111]⟩, .string ⟨#[118]⟩] 9)))
  refine (eg_same q w3.heap.size _ HS4.out (fli_lit (by simp [go_sem]) (by simp [go_sem]) (by simp [go_sem]) (by simp))).mono ?_
  rintro e w4 ⟨rfl, n, rfl⟩
  have HS5 := Lib.hid (HS4.out.drewN n)
  have HB5 := Lib.hid (bel_drewN (Below.alloc HB3.out HB3.out.size (.cells #[.string ⟨#[102, 108, 105]⟩, .string ⟨#[102, 108, 111]⟩, .string ⟨#[118]⟩] 9)) n)
  clear HS3 HB3 HS4
  generalize World.drewN _ n = w5 at *
  go_wp2_with fail
  refine (eg_has q _ HS5.out).mono ?_
  rintro e w6 ⟨rfl, rfl⟩
  go_wp2
  go_ret
  exact ⟨rfl, HB5.out⟩
end Go.Proofs.YtflpehpjemlphaaDoor
