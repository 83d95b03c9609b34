/- The examples of the chapter on encodings: awake. -/
import Derived.Test.YtljeialaefmbmaaDoorEgs
set_option linter.unusedSimpArgs false
set_option linter.unusedVariables false
namespace Go.Proofs.YtljeialaefmbmaaDoor
open Go.RowKit

set_option maxHeartbeats 4000000 in
set_option maxRecDepth 100000 in
theorem awake_any (w : World) : Calls Tryd.prog 4 #[] w fun e w' => e = .returned (.bool true) ∧ Below w.heap.size w w' := by
  have HW0 := Lib.hid (wat_new w 28)
  have HB0 := Lib.hid (show Below w.heap.size w (w.alloc (.cells #[.pointer none, .int .i64 0, .int .i64 0] 28)) from (by repeat (first | with_reducible exact Below.refl _ _ | (with_reducible refine Below.setCell ?_ (by first | exact Nat.le_refl _ | omega | (simp; done) | (simp; omega)) _) | (with_reducible refine Below.alloc ?_ (by first | exact Nat.le_refl _ | omega | (simp; done) | (simp; omega)) _) | with_reducible refine Below.drew ?_ | with_reducible refine bel_drewN ?_ _ | (with_reducible refine bel_by (by with_reducible assumption) (by first | exact Nat.le_refl _ | omega | (simp; done) | (simp; omega)) ?_))))
  go_enter Tryd.func4, Tryd.ntmps4
  go_wp2_with fail
  refine (eg_w1 _ _ HW0.out).mono ?_
  rintro e w1 ⟨rfl, hW, hb⟩
  have HW1 := Lib.hid hW
  have HB1 := Lib.hid (hb.below HB0.out (Nat.le_refl _) (Nat.le_refl _))
  clear hW hb HW0 HB0
  go_wp2_with fail
  refine (eg_w2 _ _ HW1.out).mono ?_
  rintro e w2 ⟨rfl, hW, hb⟩
  have HW2 := Lib.hid hW
  have HB2 := Lib.hid (hb.below HB1.out (Nat.le_refl _) (Nat.le_refl _))
  clear hW hb HW1 HB1
  go_wp2_with fail
  refine (eg_w3 _ _ HW2.out).mono ?_
  rintro e w3 ⟨rfl, hW, hb⟩
  have HW3 := Lib.hid hW
  have HB3 := Lib.hid (hb.below HB2.out (Nat.le_refl _) (Nat.le_refl _))
  clear hW hb HW2 HB2
  go_wp2_with fail
  refine (eg_w4 _ _ HW3.out).mono ?_
  rintro e w4 ⟨rfl, hW, hb⟩
  have HW4 := Lib.hid hW
  have HB4 := Lib.hid (hb.below HB3.out (Nat.le_refl _) (Nat.le_refl _))
  clear hW hb HW3 HB3
  go_wp2_with fail
  refine (eg_w5 _ _ HW4.out).mono ?_
  rintro e w5 ⟨rfl, hb⟩
  have HW5 := Lib.hid (HW4.out.below hb)
  have HB5 := Lib.hid (HB4.out.trans (hb.mono HB4.out.size))
  clear hb HW4 HB4
  go_wp2_with fail
  refine (eg_w6 _ _ HW5.out).mono ?_
  rintro e w6 ⟨rfl, rfl⟩
  clear HW5
  go_wp2_with fail
  refine (eg_new _).mono ?_
  rintro e w6 ⟨rfl, hR, hb⟩
  have HR6 := Lib.hid hR
  have HB6 := Lib.hid (HB5.out.trans (hb.mono HB5.out.size))
  have HS := Lib.hid HB5.out.size
  clear hR hb HB5
  generalize w5.heap.size = rb at *
  go_wp2_with fail
  refine (eg_r1 _ _ HR6.out).mono ?_
  rintro e w7 ⟨rfl, hR, hb⟩
  have HR7 := Lib.hid hR
  have HB7 := Lib.hid (hb.below HB6.out HS.out (Nat.le_refl _))
  clear hR hb HR6 HB6
  go_wp2_with fail
  refine (eg_r2 _ _ HR7.out).mono ?_
  rintro e w8 ⟨rfl, hR, hb⟩
  have HR8 := Lib.hid hR
  have HB8 := Lib.hid (hb.below HB7.out HS.out (Nat.le_refl _))
  clear hR hb HR7 HB7
  go_wp2_with fail
  refine (eg_r3 _ _ HR8.out).mono ?_
  rintro e wx ⟨rfl, n, rfl⟩
  have HR9 := Lib.hid (HR8.out.drewN n)
  have HB9 := Lib.hid (bel_drewN HB8.out n)
  generalize w8.drewN n = w9 at *
  clear HR8 HB8
  go_wp2_with fail
  refine (rdOff_any _ _ _ HR9.out).mono ?_
  rintro e wx ⟨rfl, rfl⟩
  go_wp2_with fail
  refine (eg_r4 _ _ HR9.out).mono ?_
  rintro e w10 ⟨rfl, hR, hb⟩
  have HR10 := Lib.hid hR
  have HB10 := Lib.hid (hb.below HB9.out HS.out (Nat.le_refl _))
  clear hR hb HR9 HB9
  go_wp2_with fail
  refine (eg_skip _).mono ?_
  rintro e w11 ⟨rfl, hb⟩
  have HR11 := Lib.hid (HR10.out.below hb)
  have HB11 := Lib.hid (HB10.out.trans (hb.mono HB10.out.size))
  clear hb HR10 HB10
  go_wp2_with fail
  refine (eg_split _).mono ?_
  rintro e w12 ⟨g, cap, rfl, hcap, hmax, hc, hb⟩
  have HR12 := Lib.hid (HR11.out.below hb)
  have HB12 := Lib.hid (HB11.out.trans (hb.mono HB11.out.size))
  clear hb HR11 HB11
  go_wp2_with fail
  refine (eg_r5 _ _ HR12.out).mono ?_
  rintro e wx ⟨rfl, n2, rfl⟩
  have hc2 : (w12.drewN n2).cell? ⟨g, 1, none⟩ = some (.string ⟨#[108, 101]⟩) := by simpa using hc
  have HB13 := Lib.hid (bel_drewN HB12.out n2)
  clear hc HR12 HB12
  generalize w12.drewN n2 = w13 at *
  go_wp2_with fail
  refine (eg_depth _).mono ?_
  rintro e w14 ⟨rfl, hb⟩
  have HB14 := Lib.hid (HB13.out.trans (hb.mono HB13.out.size))
  clear hb HB13 hc2
  go_wp2_with fail
  refine (eg_valid _).mono ?_
  rintro e w15 ⟨rfl, hb⟩
  have HB15 := Lib.hid (HB14.out.trans (hb.mono HB14.out.size))
  clear hb HB14
  go_wp2_with fail
  refine (eg_invalid _).mono ?_
  rintro e w16 ⟨rfl, hb⟩
  have HB16 := Lib.hid (HB15.out.trans (hb.mono HB15.out.size))
  clear hb HB15
  go_wp2
  go_ret
  exact ⟨rfl, HB16.out⟩
end Go.Proofs.YtljeialaefmbmaaDoor
