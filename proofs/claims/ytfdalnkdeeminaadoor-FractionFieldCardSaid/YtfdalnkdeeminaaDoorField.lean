/- The law FractionField: its walk. -/
import Derived.Test.YtfdalnkdeeminaaDoorFld
import Derived.Test.YtfdalnkdeeminaaDoorNumJ
import Derived.Test.YtfdalnkdeeminaaDoorAwake
set_option linter.unusedSimpArgs false
set_option linter.unusedVariables false
namespace Go.Proofs.YtfdalnkdeeminaaDoor
open Go.RowKit

set_option maxHeartbeats 8000000 in
set_option maxRecDepth 100000 in
theorem field_no1 (an ad bn bd cn cd : Int) (A1 : -9223372036854775808 ≤ an) (A2 : an ≤ 9223372036854775807) (A3 : -9223372036854775808 ≤ ad) (A4 : ad ≤ 9223372036854775807) (B1 : -9223372036854775808 ≤ bn) (B2 : bn ≤ 9223372036854775807) (B3 : -9223372036854775808 ≤ bd) (B4 : bd ≤ 9223372036854775807) (D1 : -9223372036854775808 ≤ cn) (D2 : cn ≤ 9223372036854775807) (D3 : -9223372036854775808 ≤ cd) (D4 : cd ≤ 9223372036854775807) (av : vldI an ad = false) (w : World) (ht : TabW w) :
    Calls Tryd.prog 6 #[.agg #[.int .i64 an, .int .i64 ad], .agg #[.int .i64 bn, .int .i64 bd], .agg #[.int .i64 cn, .int .i64 cd]] w fun e w' => e = .returned (.bool true) ∧ Below w.heap.size w w' := by
  have W1 : Wf64 (an, ad) := ⟨A1, A2, A3, A4⟩
  have W2 : Wf64 (bn, bd) := ⟨B1, B2, B3, B4⟩
  have W3 : Wf64 (cn, cd) := ⟨D1, D2, D3, D4⟩
  have HT := Lib.hid ht
  clear ht
  have VA := fun W => valid_any an ad A1 A2 A3 A4 W
  have VB := fun W => valid_any bn bd B1 B2 B3 B4 W
  have VC := fun W => valid_any cn cd D1 D2 D3 D4 W
  clear W1 W2 W3
  rw [av] at VA
  have HVA := Lib.hid VA
  clear VA VB VC av A1 A2 A3 A4 B1 B2 B3 B4 D1 D2 D3 D4
  go_enter Tryd.func6, Tryd.ntmps6
  go_wp2_with fail
  have hK : Below w.heap.size w (((w.alloc (.cells #[.int .i64 an, .int .i64 ad] 23)).alloc (.cells #[.int .i64 bn, .int .i64 bd] 23)).alloc (.cells #[.int .i64 cn, .int .i64 cd] 23)) := (by repeat (first | with_reducible exact Below.refl _ _ | (with_reducible refine Below.setCell ?_ (by first | exact Nat.le_refl _ | omega | (simp; done) | (simp; omega)) _) | (with_reducible refine Below.alloc ?_ (by first | exact Nat.le_refl _ | omega | (simp; done) | (simp; omega)) _) | with_reducible refine Below.drew ?_ | with_reducible refine bel_drewN ?_ _ | (with_reducible refine bel_by (by with_reducible assumption) (by first | exact Nat.le_refl _ | omega | (simp; done) | (simp; omega)) ?_)))
  have hB := hK
  have c1_0_0 : (((w.alloc (.cells #[.int .i64 an, .int .i64 ad] 23)).alloc (.cells #[.int .i64 bn, .int .i64 bd] 23)).alloc (.cells #[.int .i64 cn, .int .i64 cd] 23)).cell? ⟨w.heap.size, 0, none⟩ = some (.int .i64 an) := by simp [go_sem]
  have c1_0_1 : (((w.alloc (.cells #[.int .i64 an, .int .i64 ad] 23)).alloc (.cells #[.int .i64 bn, .int .i64 bd] 23)).alloc (.cells #[.int .i64 cn, .int .i64 cd] 23)).cell? ⟨w.heap.size, 1, none⟩ = some (.int .i64 ad) := by simp [go_sem]
  have c1_1_0 : (((w.alloc (.cells #[.int .i64 an, .int .i64 ad] 23)).alloc (.cells #[.int .i64 bn, .int .i64 bd] 23)).alloc (.cells #[.int .i64 cn, .int .i64 cd] 23)).cell? ⟨w.heap.size + 1, 0, none⟩ = some (.int .i64 bn) := by simp [go_sem]
  have c1_1_1 : (((w.alloc (.cells #[.int .i64 an, .int .i64 ad] 23)).alloc (.cells #[.int .i64 bn, .int .i64 bd] 23)).alloc (.cells #[.int .i64 cn, .int .i64 cd] 23)).cell? ⟨w.heap.size + 1, 1, none⟩ = some (.int .i64 bd) := by simp [go_sem]
  have c1_2_0 : (((w.alloc (.cells #[.int .i64 an, .int .i64 ad] 23)).alloc (.cells #[.int .i64 bn, .int .i64 bd] 23)).alloc (.cells #[.int .i64 cn, .int .i64 cd] 23)).cell? ⟨w.heap.size + 1 + 1, 0, none⟩ = some (.int .i64 cn) := by simp [go_sem]
  have c1_2_1 : (((w.alloc (.cells #[.int .i64 an, .int .i64 ad] 23)).alloc (.cells #[.int .i64 bn, .int .i64 bd] 23)).alloc (.cells #[.int .i64 cn, .int .i64 cd] 23)).cell? ⟨w.heap.size + 1 + 1, 1, none⟩ = some (.int .i64 cd) := by simp [go_sem]
  have hz : (((w.alloc (.cells #[.int .i64 an, .int .i64 ad] 23)).alloc (.cells #[.int .i64 bn, .int .i64 bd] 23)).alloc (.cells #[.int .i64 cn, .int .i64 cd] 23)).heap.size = w.heap.size + 3 := by simp
  generalize (((w.alloc (.cells #[.int .i64 an, .int .i64 ad] 23)).alloc (.cells #[.int .i64 bn, .int .i64 bd] 23)).alloc (.cells #[.int .i64 cn, .int .i64 cd] 23)) = wA1 at hB hK hz c1_0_0 c1_0_1 c1_1_0 c1_1_1 c1_2_0 c1_2_1 ⊢
  clear hK
  have lt_c1_0_0 : w.heap.size < wA1.heap.size := by omega
  have lt_c1_0_1 : w.heap.size < wA1.heap.size := by omega
  have lt_c1_1_0 : w.heap.size + 1 < wA1.heap.size := by omega
  have lt_c1_1_1 : w.heap.size + 1 < wA1.heap.size := by omega
  have lt_c1_2_0 : w.heap.size + 1 + 1 < wA1.heap.size := by omega
  have lt_c1_2_1 : w.heap.size + 1 + 1 < wA1.heap.size := by omega
  have HB := Lib.hid hB
  clear hB hz
  refine (HVA.out _).mono ?_
  rintro e w1 ⟨rfl, hb⟩
  have c1_0_0 := (hb.cell (p := ⟨w.heap.size, 0, none⟩) lt_c1_0_0).trans c1_0_0
  have c1_0_1 := (hb.cell (p := ⟨w.heap.size, 1, none⟩) lt_c1_0_1).trans c1_0_1
  have c1_1_0 := (hb.cell (p := ⟨w.heap.size + 1, 0, none⟩) lt_c1_1_0).trans c1_1_0
  have c1_1_1 := (hb.cell (p := ⟨w.heap.size + 1, 1, none⟩) lt_c1_1_1).trans c1_1_1
  have c1_2_0 := (hb.cell (p := ⟨w.heap.size + 1 + 1, 0, none⟩) lt_c1_2_0).trans c1_2_0
  have c1_2_1 := (hb.cell (p := ⟨w.heap.size + 1 + 1, 1, none⟩) lt_c1_2_1).trans c1_2_1
  have hz := bsize hb
  try simp at hz
  have lt_c1_0_0 : w.heap.size < w1.heap.size := by omega
  have lt_c1_0_1 : w.heap.size < w1.heap.size := by omega
  have lt_c1_1_0 : w.heap.size + 1 < w1.heap.size := by omega
  have lt_c1_1_1 : w.heap.size + 1 < w1.heap.size := by omega
  have lt_c1_2_0 : w.heap.size + 1 + 1 < w1.heap.size := by omega
  have lt_c1_2_1 : w.heap.size + 1 + 1 < w1.heap.size := by omega
  have hB := HB.out.trans (hb.mono HB.out.size)
  clear HB
  have HB := Lib.hid hB
  clear hB
  clear hb hz
  clear c1_0_0 lt_c1_0_0 c1_0_1 lt_c1_0_1 c1_1_0 lt_c1_1_0 c1_1_1 lt_c1_1_1 c1_2_0 lt_c1_2_0 c1_2_1 lt_c1_2_1
  go_wp2_with fail
  have hT := HT.out.below HB.out
  refine (awake_any _ hT).mono ?_
  rintro e w2 ⟨rfl, hb⟩
  have hz := bsize hb
  try simp at hz
  have hB := HB.out.trans (hb.mono HB.out.size)
  clear HB
  have HB := Lib.hid hB
  clear hB
  clear hb hz
  go_wp2
  go_ret
  have hB := HB.out
  exact ⟨rfl, (by repeat (first | with_reducible exact Below.refl _ _ | (with_reducible refine Below.setCell ?_ (by first | exact Nat.le_refl _ | omega | (simp; done) | (simp; omega)) _) | (with_reducible refine Below.alloc ?_ (by first | exact Nat.le_refl _ | omega | (simp; done) | (simp; omega)) _) | with_reducible refine Below.drew ?_ | with_reducible refine bel_drewN ?_ _ | (with_reducible refine bel_by (by with_reducible assumption) (by first | exact Nat.le_refl _ | omega | (simp; done) | (simp; omega)) ?_)))⟩

set_option maxHeartbeats 8000000 in
set_option maxRecDepth 100000 in
theorem field_no2 (an ad bn bd cn cd : Int) (A1 : -9223372036854775808 ≤ an) (A2 : an ≤ 9223372036854775807) (A3 : -9223372036854775808 ≤ ad) (A4 : ad ≤ 9223372036854775807) (B1 : -9223372036854775808 ≤ bn) (B2 : bn ≤ 9223372036854775807) (B3 : -9223372036854775808 ≤ bd) (B4 : bd ≤ 9223372036854775807) (D1 : -9223372036854775808 ≤ cn) (D2 : cn ≤ 9223372036854775807) (D3 : -9223372036854775808 ≤ cd) (D4 : cd ≤ 9223372036854775807) (av : vldI an ad = true) (bv : vldI bn bd = false) (w : World) (ht : TabW w) :
    Calls Tryd.prog 6 #[.agg #[.int .i64 an, .int .i64 ad], .agg #[.int .i64 bn, .int .i64 bd], .agg #[.int .i64 cn, .int .i64 cd]] w fun e w' => e = .returned (.bool true) ∧ Below w.heap.size w w' := by
  have W1 : Wf64 (an, ad) := ⟨A1, A2, A3, A4⟩
  have W2 : Wf64 (bn, bd) := ⟨B1, B2, B3, B4⟩
  have W3 : Wf64 (cn, cd) := ⟨D1, D2, D3, D4⟩
  have HT := Lib.hid ht
  clear ht
  have VA := fun W => valid_any an ad A1 A2 A3 A4 W
  have VB := fun W => valid_any bn bd B1 B2 B3 B4 W
  have VC := fun W => valid_any cn cd D1 D2 D3 D4 W
  clear W1 W2 W3
  rw [av] at VA
  have HVA := Lib.hid VA
  rw [bv] at VB
  have HVB := Lib.hid VB
  clear VA VB VC av bv A1 A2 A3 A4 B1 B2 B3 B4 D1 D2 D3 D4
  go_enter Tryd.func6, Tryd.ntmps6
  go_wp2_with fail
  have hK : Below w.heap.size w (((w.alloc (.cells #[.int .i64 an, .int .i64 ad] 23)).alloc (.cells #[.int .i64 bn, .int .i64 bd] 23)).alloc (.cells #[.int .i64 cn, .int .i64 cd] 23)) := (by repeat (first | with_reducible exact Below.refl _ _ | (with_reducible refine Below.setCell ?_ (by first | exact Nat.le_refl _ | omega | (simp; done) | (simp; omega)) _) | (with_reducible refine Below.alloc ?_ (by first | exact Nat.le_refl _ | omega | (simp; done) | (simp; omega)) _) | with_reducible refine Below.drew ?_ | with_reducible refine bel_drewN ?_ _ | (with_reducible refine bel_by (by with_reducible assumption) (by first | exact Nat.le_refl _ | omega | (simp; done) | (simp; omega)) ?_)))
  have hB := hK
  have c1_0_0 : (((w.alloc (.cells #[.int .i64 an, .int .i64 ad] 23)).alloc (.cells #[.int .i64 bn, .int .i64 bd] 23)).alloc (.cells #[.int .i64 cn, .int .i64 cd] 23)).cell? ⟨w.heap.size, 0, none⟩ = some (.int .i64 an) := by simp [go_sem]
  have c1_0_1 : (((w.alloc (.cells #[.int .i64 an, .int .i64 ad] 23)).alloc (.cells #[.int .i64 bn, .int .i64 bd] 23)).alloc (.cells #[.int .i64 cn, .int .i64 cd] 23)).cell? ⟨w.heap.size, 1, none⟩ = some (.int .i64 ad) := by simp [go_sem]
  have c1_1_0 : (((w.alloc (.cells #[.int .i64 an, .int .i64 ad] 23)).alloc (.cells #[.int .i64 bn, .int .i64 bd] 23)).alloc (.cells #[.int .i64 cn, .int .i64 cd] 23)).cell? ⟨w.heap.size + 1, 0, none⟩ = some (.int .i64 bn) := by simp [go_sem]
  have c1_1_1 : (((w.alloc (.cells #[.int .i64 an, .int .i64 ad] 23)).alloc (.cells #[.int .i64 bn, .int .i64 bd] 23)).alloc (.cells #[.int .i64 cn, .int .i64 cd] 23)).cell? ⟨w.heap.size + 1, 1, none⟩ = some (.int .i64 bd) := by simp [go_sem]
  have c1_2_0 : (((w.alloc (.cells #[.int .i64 an, .int .i64 ad] 23)).alloc (.cells #[.int .i64 bn, .int .i64 bd] 23)).alloc (.cells #[.int .i64 cn, .int .i64 cd] 23)).cell? ⟨w.heap.size + 1 + 1, 0, none⟩ = some (.int .i64 cn) := by simp [go_sem]
  have c1_2_1 : (((w.alloc (.cells #[.int .i64 an, .int .i64 ad] 23)).alloc (.cells #[.int .i64 bn, .int .i64 bd] 23)).alloc (.cells #[.int .i64 cn, .int .i64 cd] 23)).cell? ⟨w.heap.size + 1 + 1, 1, none⟩ = some (.int .i64 cd) := by simp [go_sem]
  have hz : (((w.alloc (.cells #[.int .i64 an, .int .i64 ad] 23)).alloc (.cells #[.int .i64 bn, .int .i64 bd] 23)).alloc (.cells #[.int .i64 cn, .int .i64 cd] 23)).heap.size = w.heap.size + 3 := by simp
  generalize (((w.alloc (.cells #[.int .i64 an, .int .i64 ad] 23)).alloc (.cells #[.int .i64 bn, .int .i64 bd] 23)).alloc (.cells #[.int .i64 cn, .int .i64 cd] 23)) = wA1 at hB hK hz c1_0_0 c1_0_1 c1_1_0 c1_1_1 c1_2_0 c1_2_1 ⊢
  clear hK
  have lt_c1_0_0 : w.heap.size < wA1.heap.size := by omega
  have lt_c1_0_1 : w.heap.size < wA1.heap.size := by omega
  have lt_c1_1_0 : w.heap.size + 1 < wA1.heap.size := by omega
  have lt_c1_1_1 : w.heap.size + 1 < wA1.heap.size := by omega
  have lt_c1_2_0 : w.heap.size + 1 + 1 < wA1.heap.size := by omega
  have lt_c1_2_1 : w.heap.size + 1 + 1 < wA1.heap.size := by omega
  have HB := Lib.hid hB
  clear hB hz
  refine (HVA.out _).mono ?_
  rintro e w1 ⟨rfl, hb⟩
  have c1_0_0 := (hb.cell (p := ⟨w.heap.size, 0, none⟩) lt_c1_0_0).trans c1_0_0
  have c1_0_1 := (hb.cell (p := ⟨w.heap.size, 1, none⟩) lt_c1_0_1).trans c1_0_1
  have c1_1_0 := (hb.cell (p := ⟨w.heap.size + 1, 0, none⟩) lt_c1_1_0).trans c1_1_0
  have c1_1_1 := (hb.cell (p := ⟨w.heap.size + 1, 1, none⟩) lt_c1_1_1).trans c1_1_1
  have c1_2_0 := (hb.cell (p := ⟨w.heap.size + 1 + 1, 0, none⟩) lt_c1_2_0).trans c1_2_0
  have c1_2_1 := (hb.cell (p := ⟨w.heap.size + 1 + 1, 1, none⟩) lt_c1_2_1).trans c1_2_1
  have hz := bsize hb
  try simp at hz
  have lt_c1_0_0 : w.heap.size < w1.heap.size := by omega
  have lt_c1_0_1 : w.heap.size < w1.heap.size := by omega
  have lt_c1_1_0 : w.heap.size + 1 < w1.heap.size := by omega
  have lt_c1_1_1 : w.heap.size + 1 < w1.heap.size := by omega
  have lt_c1_2_0 : w.heap.size + 1 + 1 < w1.heap.size := by omega
  have lt_c1_2_1 : w.heap.size + 1 + 1 < w1.heap.size := by omega
  have hB := HB.out.trans (hb.mono HB.out.size)
  clear HB
  have HB := Lib.hid hB
  clear hB
  clear hb hz
  go_wp2_with fail
  refine (HVB.out _).mono ?_
  rintro e w2 ⟨rfl, hb⟩
  have c1_0_0 := (hb.cell (p := ⟨w.heap.size, 0, none⟩) lt_c1_0_0).trans c1_0_0
  have c1_0_1 := (hb.cell (p := ⟨w.heap.size, 1, none⟩) lt_c1_0_1).trans c1_0_1
  have c1_1_0 := (hb.cell (p := ⟨w.heap.size + 1, 0, none⟩) lt_c1_1_0).trans c1_1_0
  have c1_1_1 := (hb.cell (p := ⟨w.heap.size + 1, 1, none⟩) lt_c1_1_1).trans c1_1_1
  have c1_2_0 := (hb.cell (p := ⟨w.heap.size + 1 + 1, 0, none⟩) lt_c1_2_0).trans c1_2_0
  have c1_2_1 := (hb.cell (p := ⟨w.heap.size + 1 + 1, 1, none⟩) lt_c1_2_1).trans c1_2_1
  have hz := bsize hb
  try simp at hz
  have lt_c1_0_0 : w.heap.size < w2.heap.size := by omega
  have lt_c1_0_1 : w.heap.size < w2.heap.size := by omega
  have lt_c1_1_0 : w.heap.size + 1 < w2.heap.size := by omega
  have lt_c1_1_1 : w.heap.size + 1 < w2.heap.size := by omega
  have lt_c1_2_0 : w.heap.size + 1 + 1 < w2.heap.size := by omega
  have lt_c1_2_1 : w.heap.size + 1 + 1 < w2.heap.size := by omega
  have hB := HB.out.trans (hb.mono HB.out.size)
  clear HB
  have HB := Lib.hid hB
  clear hB
  clear hb hz
  clear c1_0_0 lt_c1_0_0 c1_0_1 lt_c1_0_1 c1_1_0 lt_c1_1_0 c1_1_1 lt_c1_1_1 c1_2_0 lt_c1_2_0 c1_2_1 lt_c1_2_1
  go_wp2_with fail
  have hT := HT.out.below HB.out
  refine (awake_any _ hT).mono ?_
  rintro e w3 ⟨rfl, hb⟩
  have hz := bsize hb
  try simp at hz
  have hB := HB.out.trans (hb.mono HB.out.size)
  clear HB
  have HB := Lib.hid hB
  clear hB
  clear hb hz
  go_wp2
  go_ret
  have hB := HB.out
  exact ⟨rfl, (by repeat (first | with_reducible exact Below.refl _ _ | (with_reducible refine Below.setCell ?_ (by first | exact Nat.le_refl _ | omega | (simp; done) | (simp; omega)) _) | (with_reducible refine Below.alloc ?_ (by first | exact Nat.le_refl _ | omega | (simp; done) | (simp; omega)) _) | with_reducible refine Below.drew ?_ | with_reducible refine bel_drewN ?_ _ | (with_reducible refine bel_by (by with_reducible assumption) (by first | exact Nat.le_refl _ | omega | (simp; done) | (simp; omega)) ?_)))⟩

set_option maxHeartbeats 8000000 in
set_option maxRecDepth 100000 in
theorem field_no3 (an ad bn bd cn cd : Int) (A1 : -9223372036854775808 ≤ an) (A2 : an ≤ 9223372036854775807) (A3 : -9223372036854775808 ≤ ad) (A4 : ad ≤ 9223372036854775807) (B1 : -9223372036854775808 ≤ bn) (B2 : bn ≤ 9223372036854775807) (B3 : -9223372036854775808 ≤ bd) (B4 : bd ≤ 9223372036854775807) (D1 : -9223372036854775808 ≤ cn) (D2 : cn ≤ 9223372036854775807) (D3 : -9223372036854775808 ≤ cd) (D4 : cd ≤ 9223372036854775807) (av : vldI an ad = true) (bv : vldI bn bd = true) (cv : vldI cn cd = false) (w : World) (ht : TabW w) :
    Calls Tryd.prog 6 #[.agg #[.int .i64 an, .int .i64 ad], .agg #[.int .i64 bn, .int .i64 bd], .agg #[.int .i64 cn, .int .i64 cd]] w fun e w' => e = .returned (.bool true) ∧ Below w.heap.size w w' := by
  have W1 : Wf64 (an, ad) := ⟨A1, A2, A3, A4⟩
  have W2 : Wf64 (bn, bd) := ⟨B1, B2, B3, B4⟩
  have W3 : Wf64 (cn, cd) := ⟨D1, D2, D3, D4⟩
  have HT := Lib.hid ht
  clear ht
  have VA := fun W => valid_any an ad A1 A2 A3 A4 W
  have VB := fun W => valid_any bn bd B1 B2 B3 B4 W
  have VC := fun W => valid_any cn cd D1 D2 D3 D4 W
  clear W1 W2 W3
  rw [av] at VA
  have HVA := Lib.hid VA
  rw [bv] at VB
  have HVB := Lib.hid VB
  rw [cv] at VC
  have HVC := Lib.hid VC
  clear VA VB VC av bv cv A1 A2 A3 A4 B1 B2 B3 B4 D1 D2 D3 D4
  go_enter Tryd.func6, Tryd.ntmps6
  go_wp2_with fail
  have hK : Below w.heap.size w (((w.alloc (.cells #[.int .i64 an, .int .i64 ad] 23)).alloc (.cells #[.int .i64 bn, .int .i64 bd] 23)).alloc (.cells #[.int .i64 cn, .int .i64 cd] 23)) := (by repeat (first | with_reducible exact Below.refl _ _ | (with_reducible refine Below.setCell ?_ (by first | exact Nat.le_refl _ | omega | (simp; done) | (simp; omega)) _) | (with_reducible refine Below.alloc ?_ (by first | exact Nat.le_refl _ | omega | (simp; done) | (simp; omega)) _) | with_reducible refine Below.drew ?_ | with_reducible refine bel_drewN ?_ _ | (with_reducible refine bel_by (by with_reducible assumption) (by first | exact Nat.le_refl _ | omega | (simp; done) | (simp; omega)) ?_)))
  have hB := hK
  have c1_0_0 : (((w.alloc (.cells #[.int .i64 an, .int .i64 ad] 23)).alloc (.cells #[.int .i64 bn, .int .i64 bd] 23)).alloc (.cells #[.int .i64 cn, .int .i64 cd] 23)).cell? ⟨w.heap.size, 0, none⟩ = some (.int .i64 an) := by simp [go_sem]
  have c1_0_1 : (((w.alloc (.cells #[.int .i64 an, .int .i64 ad] 23)).alloc (.cells #[.int .i64 bn, .int .i64 bd] 23)).alloc (.cells #[.int .i64 cn, .int .i64 cd] 23)).cell? ⟨w.heap.size, 1, none⟩ = some (.int .i64 ad) := by simp [go_sem]
  have c1_1_0 : (((w.alloc (.cells #[.int .i64 an, .int .i64 ad] 23)).alloc (.cells #[.int .i64 bn, .int .i64 bd] 23)).alloc (.cells #[.int .i64 cn, .int .i64 cd] 23)).cell? ⟨w.heap.size + 1, 0, none⟩ = some (.int .i64 bn) := by simp [go_sem]
  have c1_1_1 : (((w.alloc (.cells #[.int .i64 an, .int .i64 ad] 23)).alloc (.cells #[.int .i64 bn, .int .i64 bd] 23)).alloc (.cells #[.int .i64 cn, .int .i64 cd] 23)).cell? ⟨w.heap.size + 1, 1, none⟩ = some (.int .i64 bd) := by simp [go_sem]
  have c1_2_0 : (((w.alloc (.cells #[.int .i64 an, .int .i64 ad] 23)).alloc (.cells #[.int .i64 bn, .int .i64 bd] 23)).alloc (.cells #[.int .i64 cn, .int .i64 cd] 23)).cell? ⟨w.heap.size + 1 + 1, 0, none⟩ = some (.int .i64 cn) := by simp [go_sem]
  have c1_2_1 : (((w.alloc (.cells #[.int .i64 an, .int .i64 ad] 23)).alloc (.cells #[.int .i64 bn, .int .i64 bd] 23)).alloc (.cells #[.int .i64 cn, .int .i64 cd] 23)).cell? ⟨w.heap.size + 1 + 1, 1, none⟩ = some (.int .i64 cd) := by simp [go_sem]
  have hz : (((w.alloc (.cells #[.int .i64 an, .int .i64 ad] 23)).alloc (.cells #[.int .i64 bn, .int .i64 bd] 23)).alloc (.cells #[.int .i64 cn, .int .i64 cd] 23)).heap.size = w.heap.size + 3 := by simp
  generalize (((w.alloc (.cells #[.int .i64 an, .int .i64 ad] 23)).alloc (.cells #[.int .i64 bn, .int .i64 bd] 23)).alloc (.cells #[.int .i64 cn, .int .i64 cd] 23)) = wA1 at hB hK hz c1_0_0 c1_0_1 c1_1_0 c1_1_1 c1_2_0 c1_2_1 ⊢
  clear hK
  have lt_c1_0_0 : w.heap.size < wA1.heap.size := by omega
  have lt_c1_0_1 : w.heap.size < wA1.heap.size := by omega
  have lt_c1_1_0 : w.heap.size + 1 < wA1.heap.size := by omega
  have lt_c1_1_1 : w.heap.size + 1 < wA1.heap.size := by omega
  have lt_c1_2_0 : w.heap.size + 1 + 1 < wA1.heap.size := by omega
  have lt_c1_2_1 : w.heap.size + 1 + 1 < wA1.heap.size := by omega
  have HB := Lib.hid hB
  clear hB hz
  refine (HVA.out _).mono ?_
  rintro e w1 ⟨rfl, hb⟩
  have c1_0_0 := (hb.cell (p := ⟨w.heap.size, 0, none⟩) lt_c1_0_0).trans c1_0_0
  have c1_0_1 := (hb.cell (p := ⟨w.heap.size, 1, none⟩) lt_c1_0_1).trans c1_0_1
  have c1_1_0 := (hb.cell (p := ⟨w.heap.size + 1, 0, none⟩) lt_c1_1_0).trans c1_1_0
  have c1_1_1 := (hb.cell (p := ⟨w.heap.size + 1, 1, none⟩) lt_c1_1_1).trans c1_1_1
  have c1_2_0 := (hb.cell (p := ⟨w.heap.size + 1 + 1, 0, none⟩) lt_c1_2_0).trans c1_2_0
  have c1_2_1 := (hb.cell (p := ⟨w.heap.size + 1 + 1, 1, none⟩) lt_c1_2_1).trans c1_2_1
  have hz := bsize hb
  try simp at hz
  have lt_c1_0_0 : w.heap.size < w1.heap.size := by omega
  have lt_c1_0_1 : w.heap.size < w1.heap.size := by omega
  have lt_c1_1_0 : w.heap.size + 1 < w1.heap.size := by omega
  have lt_c1_1_1 : w.heap.size + 1 < w1.heap.size := by omega
  have lt_c1_2_0 : w.heap.size + 1 + 1 < w1.heap.size := by omega
  have lt_c1_2_1 : w.heap.size + 1 + 1 < w1.heap.size := by omega
  have hB := HB.out.trans (hb.mono HB.out.size)
  clear HB
  have HB := Lib.hid hB
  clear hB
  clear hb hz
  go_wp2_with fail
  refine (HVB.out _).mono ?_
  rintro e w2 ⟨rfl, hb⟩
  have c1_0_0 := (hb.cell (p := ⟨w.heap.size, 0, none⟩) lt_c1_0_0).trans c1_0_0
  have c1_0_1 := (hb.cell (p := ⟨w.heap.size, 1, none⟩) lt_c1_0_1).trans c1_0_1
  have c1_1_0 := (hb.cell (p := ⟨w.heap.size + 1, 0, none⟩) lt_c1_1_0).trans c1_1_0
  have c1_1_1 := (hb.cell (p := ⟨w.heap.size + 1, 1, none⟩) lt_c1_1_1).trans c1_1_1
  have c1_2_0 := (hb.cell (p := ⟨w.heap.size + 1 + 1, 0, none⟩) lt_c1_2_0).trans c1_2_0
  have c1_2_1 := (hb.cell (p := ⟨w.heap.size + 1 + 1, 1, none⟩) lt_c1_2_1).trans c1_2_1
  have hz := bsize hb
  try simp at hz
  have lt_c1_0_0 : w.heap.size < w2.heap.size := by omega
  have lt_c1_0_1 : w.heap.size < w2.heap.size := by omega
  have lt_c1_1_0 : w.heap.size + 1 < w2.heap.size := by omega
  have lt_c1_1_1 : w.heap.size + 1 < w2.heap.size := by omega
  have lt_c1_2_0 : w.heap.size + 1 + 1 < w2.heap.size := by omega
  have lt_c1_2_1 : w.heap.size + 1 + 1 < w2.heap.size := by omega
  have hB := HB.out.trans (hb.mono HB.out.size)
  clear HB
  have HB := Lib.hid hB
  clear hB
  clear hb hz
  go_wp2_with fail
  refine (HVC.out _).mono ?_
  rintro e w3 ⟨rfl, hb⟩
  have c1_0_0 := (hb.cell (p := ⟨w.heap.size, 0, none⟩) lt_c1_0_0).trans c1_0_0
  have c1_0_1 := (hb.cell (p := ⟨w.heap.size, 1, none⟩) lt_c1_0_1).trans c1_0_1
  have c1_1_0 := (hb.cell (p := ⟨w.heap.size + 1, 0, none⟩) lt_c1_1_0).trans c1_1_0
  have c1_1_1 := (hb.cell (p := ⟨w.heap.size + 1, 1, none⟩) lt_c1_1_1).trans c1_1_1
  have c1_2_0 := (hb.cell (p := ⟨w.heap.size + 1 + 1, 0, none⟩) lt_c1_2_0).trans c1_2_0
  have c1_2_1 := (hb.cell (p := ⟨w.heap.size + 1 + 1, 1, none⟩) lt_c1_2_1).trans c1_2_1
  have hz := bsize hb
  try simp at hz
  have lt_c1_0_0 : w.heap.size < w3.heap.size := by omega
  have lt_c1_0_1 : w.heap.size < w3.heap.size := by omega
  have lt_c1_1_0 : w.heap.size + 1 < w3.heap.size := by omega
  have lt_c1_1_1 : w.heap.size + 1 < w3.heap.size := by omega
  have lt_c1_2_0 : w.heap.size + 1 + 1 < w3.heap.size := by omega
  have lt_c1_2_1 : w.heap.size + 1 + 1 < w3.heap.size := by omega
  have hB := HB.out.trans (hb.mono HB.out.size)
  clear HB
  have HB := Lib.hid hB
  clear hB
  clear hb hz
  clear c1_0_0 lt_c1_0_0 c1_0_1 lt_c1_0_1 c1_1_0 lt_c1_1_0 c1_1_1 lt_c1_1_1 c1_2_0 lt_c1_2_0 c1_2_1 lt_c1_2_1
  go_wp2_with fail
  have hT := HT.out.below HB.out
  refine (awake_any _ hT).mono ?_
  rintro e w4 ⟨rfl, hb⟩
  have hz := bsize hb
  try simp at hz
  have hB := HB.out.trans (hb.mono HB.out.size)
  clear HB
  have HB := Lib.hid hB
  clear hB
  clear hb hz
  go_wp2
  go_ret
  have hB := HB.out
  exact ⟨rfl, (by repeat (first | with_reducible exact Below.refl _ _ | (with_reducible refine Below.setCell ?_ (by first | exact Nat.le_refl _ | omega | (simp; done) | (simp; omega)) _) | (with_reducible refine Below.alloc ?_ (by first | exact Nat.le_refl _ | omega | (simp; done) | (simp; omega)) _) | with_reducible refine Below.drew ?_ | with_reducible refine bel_drewN ?_ _ | (with_reducible refine bel_by (by with_reducible assumption) (by first | exact Nat.le_refl _ | omega | (simp; done) | (simp; omega)) ?_)))⟩

set_option maxHeartbeats 8000000 in
set_option maxRecDepth 100000 in
theorem field_yes (an ad bn bd cn cd : Int) (A1 : -9223372036854775808 ≤ an) (A2 : an ≤ 9223372036854775807) (A3 : -9223372036854775808 ≤ ad) (A4 : ad ≤ 9223372036854775807) (B1 : -9223372036854775808 ≤ bn) (B2 : bn ≤ 9223372036854775807) (B3 : -9223372036854775808 ≤ bd) (B4 : bd ≤ 9223372036854775807) (D1 : -9223372036854775808 ≤ cn) (D2 : cn ≤ 9223372036854775807) (D3 : -9223372036854775808 ≤ cd) (D4 : cd ≤ 9223372036854775807) (av : vldI an ad = true) (bv : vldI bn bd = true) (cv : vldI cn cd = true) (w : World) (ht : TabW w) :
    Calls Tryd.prog 6 #[.agg #[.int .i64 an, .int .i64 ad], .agg #[.int .i64 bn, .int .i64 bd], .agg #[.int .i64 cn, .int .i64 cd]] w fun e w' => e = .returned (.bool true) ∧ Below w.heap.size w w' := by
  have W1 : Wf64 (an, ad) := ⟨A1, A2, A3, A4⟩
  have W2 : Wf64 (bn, bd) := ⟨B1, B2, B3, B4⟩
  have W3 : Wf64 (cn, cd) := ⟨D1, D2, D3, D4⟩
  have HT := Lib.hid ht
  clear ht
  have VA := fun W => valid_any an ad A1 A2 A3 A4 W
  have VB := fun W => valid_any bn bd B1 B2 B3 B4 W
  have VC := fun W => valid_any cn cd D1 D2 D3 D4 W
  have C1 := fun W => add_any an ad bn bd W1 W2 W
  have C2 := fun W => add_any bn bd an ad W2 W1 W
  rw [add_comm' bn bd an ad] at C2
  have C3 := fun W => add_any bn bd cn cd W2 W3 W
  have C4 := fun W => add_any (addS an ad bn bd).1 (addS an ad bn bd).2.1 cn cd (add_wf an ad bn bd) W3 W
  have C5 : (addS an ad bn bd).2.2 = 0 → (addS bn bd cn cd).2.2 = 0 → ∀ W, Calls Tryd.prog 22 #[.agg #[.int .i64 an, .int .i64 ad], .agg #[.int .i64 (addS bn bd cn cd).1, .int .i64 (addS bn bd cn cd).2.1]] W fun e w' => e = .returned (fracE (addS (addS an ad bn bd).1 (addS an ad bn bd).2.1 cn cd)) ∧ Below W.heap.size W w' := by
    intro h1 h3 W
    rw [add_assoc' av bv cv h1 h3]
    exact add_any an ad (addS bn bd cn cd).1 (addS bn bd cn cd).2.1 W1 (add_wf bn bd cn cd) W
  have C6 := fun W => sub_any (addS an ad bn bd).1 (addS an ad bn bd).2.1 bn bd (add_wf an ad bn bd) W2 W
  have H6 := sub_back' (an := an) (ad := ad) (bn := bn) (bd := bd) av bv
  have C7 := fun W => mul_any an ad bn bd W1 W2 W
  have C8 := fun W => mul_any bn bd an ad W2 W1 W
  rw [mul_comm' bn bd an ad] at C8
  have C9 := fun W => mul_any an ad cn cd W1 W3 W
  have C10 := fun W => mul_any an ad (addS bn bd cn cd).1 (addS bn bd cn cd).2.1 W1 (add_wf bn bd cn cd) W
  have C11 := fun W => div_any (mulS an ad bn bd).1 (mulS an ad bn bd).2.1 bn bd (mul_wf an ad bn bd) W2 W
  have H11 := div_back' (an := an) (ad := ad) (bn := bn) (bd := bd) av bv
  have C12 : (addS bn bd cn cd).2.2 = 0 → (mulS an ad bn bd).2.2 = 0 → (mulS an ad cn cd).2.2 = 0 → ∀ W, Calls Tryd.prog 22 #[.agg #[.int .i64 (mulS an ad bn bd).1, .int .i64 (mulS an ad bn bd).2.1], .agg #[.int .i64 (mulS an ad cn cd).1, .int .i64 (mulS an ad cn cd).2.1]] W fun e w' => e = .returned (fracE (mulS an ad (addS bn bd cn cd).1 (addS bn bd cn cd).2.1)) ∧ Below W.heap.size W w' := by
    intro h3 h4 h6 W
    rw [← distrib' av bv cv h3 h4 h6]
    exact add_any (mulS an ad bn bd).1 (mulS an ad bn bd).2.1 (mulS an ad cn cd).1 (mulS an ad cn cd).2.1 (mul_wf an ad bn bd) (mul_wf an ad cn cd) W
  generalize addS (addS an ad bn bd).1 (addS an ad bn bd).2.1 cn cd = t5 at *
  generalize subS (addS an ad bn bd).1 (addS an ad bn bd).2.1 bn bd = u at *
  generalize mulS an ad (addS bn bd cn cd).1 (addS bn bd cn cd).2.1 = s at *
  generalize divS (mulS an ad bn bd).1 (mulS an ad bn bd).2.1 bn bd = q at *
  generalize addS an ad bn bd = t1 at *
  generalize addS bn bd cn cd = t3 at *
  generalize mulS an ad bn bd = p at *
  generalize mulS an ad cn cd = r at *
  rw [av] at VA
  have HVA := Lib.hid VA
  rw [bv] at VB
  have HVB := Lib.hid VB
  rw [cv] at VC
  have HVC := Lib.hid VC
  have K1 := Lib.hid C1
  have K2 := Lib.hid C2
  have K3 := Lib.hid C3
  have K4 := Lib.hid C4
  have K5 := Lib.hid C5
  have K6 := Lib.hid C6
  have K7 := Lib.hid C7
  have K8 := Lib.hid C8
  have K9 := Lib.hid C9
  have K10 := Lib.hid C10
  have K11 := Lib.hid C11
  have K12 := Lib.hid C12
  have K6' := Lib.hid H6
  have K11' := Lib.hid H11
  clear VA VB VC av bv cv W1 W2 W3 H6 H11 C1 C2 C3 C4 C5 C6 C7 C8 C9 C10 C11 C12 A1 A2 A3 A4 B1 B2 B3 B4 D1 D2 D3 D4
  go_enter Tryd.func6, Tryd.ntmps6
  go_wp2_with fail
  have hK : Below w.heap.size w (((w.alloc (.cells #[.int .i64 an, .int .i64 ad] 23)).alloc (.cells #[.int .i64 bn, .int .i64 bd] 23)).alloc (.cells #[.int .i64 cn, .int .i64 cd] 23)) := (by repeat (first | with_reducible exact Below.refl _ _ | (with_reducible refine Below.setCell ?_ (by first | exact Nat.le_refl _ | omega | (simp; done) | (simp; omega)) _) | (with_reducible refine Below.alloc ?_ (by first | exact Nat.le_refl _ | omega | (simp; done) | (simp; omega)) _) | with_reducible refine Below.drew ?_ | with_reducible refine bel_drewN ?_ _ | (with_reducible refine bel_by (by with_reducible assumption) (by first | exact Nat.le_refl _ | omega | (simp; done) | (simp; omega)) ?_)))
  have hB := hK
  have c1_0_0 : (((w.alloc (.cells #[.int .i64 an, .int .i64 ad] 23)).alloc (.cells #[.int .i64 bn, .int .i64 bd] 23)).alloc (.cells #[.int .i64 cn, .int .i64 cd] 23)).cell? ⟨w.heap.size, 0, none⟩ = some (.int .i64 an) := by simp [go_sem]
  have c1_0_1 : (((w.alloc (.cells #[.int .i64 an, .int .i64 ad] 23)).alloc (.cells #[.int .i64 bn, .int .i64 bd] 23)).alloc (.cells #[.int .i64 cn, .int .i64 cd] 23)).cell? ⟨w.heap.size, 1, none⟩ = some (.int .i64 ad) := by simp [go_sem]
  have c1_1_0 : (((w.alloc (.cells #[.int .i64 an, .int .i64 ad] 23)).alloc (.cells #[.int .i64 bn, .int .i64 bd] 23)).alloc (.cells #[.int .i64 cn, .int .i64 cd] 23)).cell? ⟨w.heap.size + 1, 0, none⟩ = some (.int .i64 bn) := by simp [go_sem]
  have c1_1_1 : (((w.alloc (.cells #[.int .i64 an, .int .i64 ad] 23)).alloc (.cells #[.int .i64 bn, .int .i64 bd] 23)).alloc (.cells #[.int .i64 cn, .int .i64 cd] 23)).cell? ⟨w.heap.size + 1, 1, none⟩ = some (.int .i64 bd) := by simp [go_sem]
  have c1_2_0 : (((w.alloc (.cells #[.int .i64 an, .int .i64 ad] 23)).alloc (.cells #[.int .i64 bn, .int .i64 bd] 23)).alloc (.cells #[.int .i64 cn, .int .i64 cd] 23)).cell? ⟨w.heap.size + 1 + 1, 0, none⟩ = some (.int .i64 cn) := by simp [go_sem]
  have c1_2_1 : (((w.alloc (.cells #[.int .i64 an, .int .i64 ad] 23)).alloc (.cells #[.int .i64 bn, .int .i64 bd] 23)).alloc (.cells #[.int .i64 cn, .int .i64 cd] 23)).cell? ⟨w.heap.size + 1 + 1, 1, none⟩ = some (.int .i64 cd) := by simp [go_sem]
  have hz : (((w.alloc (.cells #[.int .i64 an, .int .i64 ad] 23)).alloc (.cells #[.int .i64 bn, .int .i64 bd] 23)).alloc (.cells #[.int .i64 cn, .int .i64 cd] 23)).heap.size = w.heap.size + 3 := by simp
  generalize (((w.alloc (.cells #[.int .i64 an, .int .i64 ad] 23)).alloc (.cells #[.int .i64 bn, .int .i64 bd] 23)).alloc (.cells #[.int .i64 cn, .int .i64 cd] 23)) = wA1 at hB hK hz c1_0_0 c1_0_1 c1_1_0 c1_1_1 c1_2_0 c1_2_1 ⊢
  clear hK
  have lt_c1_0_0 : w.heap.size < wA1.heap.size := by omega
  have lt_c1_0_1 : w.heap.size < wA1.heap.size := by omega
  have lt_c1_1_0 : w.heap.size + 1 < wA1.heap.size := by omega
  have lt_c1_1_1 : w.heap.size + 1 < wA1.heap.size := by omega
  have lt_c1_2_0 : w.heap.size + 1 + 1 < wA1.heap.size := by omega
  have lt_c1_2_1 : w.heap.size + 1 + 1 < wA1.heap.size := by omega
  have HB := Lib.hid hB
  clear hB hz
  refine (HVA.out _).mono ?_
  rintro e w1 ⟨rfl, hb⟩
  have c1_0_0 := (hb.cell (p := ⟨w.heap.size, 0, none⟩) lt_c1_0_0).trans c1_0_0
  have c1_0_1 := (hb.cell (p := ⟨w.heap.size, 1, none⟩) lt_c1_0_1).trans c1_0_1
  have c1_1_0 := (hb.cell (p := ⟨w.heap.size + 1, 0, none⟩) lt_c1_1_0).trans c1_1_0
  have c1_1_1 := (hb.cell (p := ⟨w.heap.size + 1, 1, none⟩) lt_c1_1_1).trans c1_1_1
  have c1_2_0 := (hb.cell (p := ⟨w.heap.size + 1 + 1, 0, none⟩) lt_c1_2_0).trans c1_2_0
  have c1_2_1 := (hb.cell (p := ⟨w.heap.size + 1 + 1, 1, none⟩) lt_c1_2_1).trans c1_2_1
  have hz := bsize hb
  try simp at hz
  have lt_c1_0_0 : w.heap.size < w1.heap.size := by omega
  have lt_c1_0_1 : w.heap.size < w1.heap.size := by omega
  have lt_c1_1_0 : w.heap.size + 1 < w1.heap.size := by omega
  have lt_c1_1_1 : w.heap.size + 1 < w1.heap.size := by omega
  have lt_c1_2_0 : w.heap.size + 1 + 1 < w1.heap.size := by omega
  have lt_c1_2_1 : w.heap.size + 1 + 1 < w1.heap.size := by omega
  have hB := HB.out.trans (hb.mono HB.out.size)
  clear HB
  have HB := Lib.hid hB
  clear hB
  clear hb hz
  go_wp2_with fail
  refine (HVB.out _).mono ?_
  rintro e w2 ⟨rfl, hb⟩
  have c1_0_0 := (hb.cell (p := ⟨w.heap.size, 0, none⟩) lt_c1_0_0).trans c1_0_0
  have c1_0_1 := (hb.cell (p := ⟨w.heap.size, 1, none⟩) lt_c1_0_1).trans c1_0_1
  have c1_1_0 := (hb.cell (p := ⟨w.heap.size + 1, 0, none⟩) lt_c1_1_0).trans c1_1_0
  have c1_1_1 := (hb.cell (p := ⟨w.heap.size + 1, 1, none⟩) lt_c1_1_1).trans c1_1_1
  have c1_2_0 := (hb.cell (p := ⟨w.heap.size + 1 + 1, 0, none⟩) lt_c1_2_0).trans c1_2_0
  have c1_2_1 := (hb.cell (p := ⟨w.heap.size + 1 + 1, 1, none⟩) lt_c1_2_1).trans c1_2_1
  have hz := bsize hb
  try simp at hz
  have lt_c1_0_0 : w.heap.size < w2.heap.size := by omega
  have lt_c1_0_1 : w.heap.size < w2.heap.size := by omega
  have lt_c1_1_0 : w.heap.size + 1 < w2.heap.size := by omega
  have lt_c1_1_1 : w.heap.size + 1 < w2.heap.size := by omega
  have lt_c1_2_0 : w.heap.size + 1 + 1 < w2.heap.size := by omega
  have lt_c1_2_1 : w.heap.size + 1 + 1 < w2.heap.size := by omega
  have hB := HB.out.trans (hb.mono HB.out.size)
  clear HB
  have HB := Lib.hid hB
  clear hB
  clear hb hz
  go_wp2_with fail
  refine (HVC.out _).mono ?_
  rintro e w3 ⟨rfl, hb⟩
  have c1_0_0 := (hb.cell (p := ⟨w.heap.size, 0, none⟩) lt_c1_0_0).trans c1_0_0
  have c1_0_1 := (hb.cell (p := ⟨w.heap.size, 1, none⟩) lt_c1_0_1).trans c1_0_1
  have c1_1_0 := (hb.cell (p := ⟨w.heap.size + 1, 0, none⟩) lt_c1_1_0).trans c1_1_0
  have c1_1_1 := (hb.cell (p := ⟨w.heap.size + 1, 1, none⟩) lt_c1_1_1).trans c1_1_1
  have c1_2_0 := (hb.cell (p := ⟨w.heap.size + 1 + 1, 0, none⟩) lt_c1_2_0).trans c1_2_0
  have c1_2_1 := (hb.cell (p := ⟨w.heap.size + 1 + 1, 1, none⟩) lt_c1_2_1).trans c1_2_1
  have hz := bsize hb
  try simp at hz
  have lt_c1_0_0 : w.heap.size < w3.heap.size := by omega
  have lt_c1_0_1 : w.heap.size < w3.heap.size := by omega
  have lt_c1_1_0 : w.heap.size + 1 < w3.heap.size := by omega
  have lt_c1_1_1 : w.heap.size + 1 < w3.heap.size := by omega
  have lt_c1_2_0 : w.heap.size + 1 + 1 < w3.heap.size := by omega
  have lt_c1_2_1 : w.heap.size + 1 + 1 < w3.heap.size := by omega
  have hB := HB.out.trans (hb.mono HB.out.size)
  clear HB
  have HB := Lib.hid hB
  clear hB
  clear hb hz
  go_wp2_with fail
  refine (K1.out _).mono ?_
  rintro e w4 ⟨rfl, hb⟩
  have c1_0_0 := (hb.cell (p := ⟨w.heap.size, 0, none⟩) lt_c1_0_0).trans c1_0_0
  have c1_0_1 := (hb.cell (p := ⟨w.heap.size, 1, none⟩) lt_c1_0_1).trans c1_0_1
  have c1_1_0 := (hb.cell (p := ⟨w.heap.size + 1, 0, none⟩) lt_c1_1_0).trans c1_1_0
  have c1_1_1 := (hb.cell (p := ⟨w.heap.size + 1, 1, none⟩) lt_c1_1_1).trans c1_1_1
  have c1_2_0 := (hb.cell (p := ⟨w.heap.size + 1 + 1, 0, none⟩) lt_c1_2_0).trans c1_2_0
  have c1_2_1 := (hb.cell (p := ⟨w.heap.size + 1 + 1, 1, none⟩) lt_c1_2_1).trans c1_2_1
  have hz := bsize hb
  try simp at hz
  have lt_c1_0_0 : w.heap.size < w4.heap.size := by omega
  have lt_c1_0_1 : w.heap.size < w4.heap.size := by omega
  have lt_c1_1_0 : w.heap.size + 1 < w4.heap.size := by omega
  have lt_c1_1_1 : w.heap.size + 1 < w4.heap.size := by omega
  have lt_c1_2_0 : w.heap.size + 1 + 1 < w4.heap.size := by omega
  have lt_c1_2_1 : w.heap.size + 1 + 1 < w4.heap.size := by omega
  have hB := HB.out.trans (hb.mono HB.out.size)
  clear HB
  have HB := Lib.hid hB
  clear hB
  clear hb hz
  go_wp2_with fail
  have hP := HB.out
  have hK : Below w4.heap.size w4 (w4.alloc (.cells #[.int .i64 t1.1, .int .i64 t1.2.1] 23)) := (by repeat (first | with_reducible exact Below.refl _ _ | (with_reducible refine Below.setCell ?_ (by first | exact Nat.le_refl _ | omega | (simp; done) | (simp; omega)) _) | (with_reducible refine Below.alloc ?_ (by first | exact Nat.le_refl _ | omega | (simp; done) | (simp; omega)) _) | with_reducible refine Below.drew ?_ | with_reducible refine bel_drewN ?_ _ | (with_reducible refine bel_by (by with_reducible assumption) (by first | exact Nat.le_refl _ | omega | (simp; done) | (simp; omega)) ?_)))
  have hB : Below w.heap.size w (w4.alloc (.cells #[.int .i64 t1.1, .int .i64 t1.2.1] 23)) := hP.trans (hK.mono hP.size)
  have c1_0_0 : (w4.alloc (.cells #[.int .i64 t1.1, .int .i64 t1.2.1] 23)).cell? ⟨w.heap.size, 0, none⟩ = some (.int .i64 an) := (hK.cell (p := ⟨w.heap.size, 0, none⟩) lt_c1_0_0).trans c1_0_0
  have c1_0_1 : (w4.alloc (.cells #[.int .i64 t1.1, .int .i64 t1.2.1] 23)).cell? ⟨w.heap.size, 1, none⟩ = some (.int .i64 ad) := (hK.cell (p := ⟨w.heap.size, 1, none⟩) lt_c1_0_1).trans c1_0_1
  have c1_1_0 : (w4.alloc (.cells #[.int .i64 t1.1, .int .i64 t1.2.1] 23)).cell? ⟨w.heap.size + 1, 0, none⟩ = some (.int .i64 bn) := (hK.cell (p := ⟨w.heap.size + 1, 0, none⟩) lt_c1_1_0).trans c1_1_0
  have c1_1_1 : (w4.alloc (.cells #[.int .i64 t1.1, .int .i64 t1.2.1] 23)).cell? ⟨w.heap.size + 1, 1, none⟩ = some (.int .i64 bd) := (hK.cell (p := ⟨w.heap.size + 1, 1, none⟩) lt_c1_1_1).trans c1_1_1
  have c1_2_0 : (w4.alloc (.cells #[.int .i64 t1.1, .int .i64 t1.2.1] 23)).cell? ⟨w.heap.size + 1 + 1, 0, none⟩ = some (.int .i64 cn) := (hK.cell (p := ⟨w.heap.size + 1 + 1, 0, none⟩) lt_c1_2_0).trans c1_2_0
  have c1_2_1 : (w4.alloc (.cells #[.int .i64 t1.1, .int .i64 t1.2.1] 23)).cell? ⟨w.heap.size + 1 + 1, 1, none⟩ = some (.int .i64 cd) := (hK.cell (p := ⟨w.heap.size + 1 + 1, 1, none⟩) lt_c1_2_1).trans c1_2_1
  have c5_0_0 : (w4.alloc (.cells #[.int .i64 t1.1, .int .i64 t1.2.1] 23)).cell? ⟨w4.heap.size, 0, none⟩ = some (.int .i64 t1.1) := by simp [go_sem]
  have c5_0_1 : (w4.alloc (.cells #[.int .i64 t1.1, .int .i64 t1.2.1] 23)).cell? ⟨w4.heap.size, 1, none⟩ = some (.int .i64 t1.2.1) := by simp [go_sem]
  have hz : (w4.alloc (.cells #[.int .i64 t1.1, .int .i64 t1.2.1] 23)).heap.size = w4.heap.size + 1 := by simp
  generalize (w4.alloc (.cells #[.int .i64 t1.1, .int .i64 t1.2.1] 23)) = wA5 at hB hK hz c1_0_0 c1_0_1 c1_1_0 c1_1_1 c1_2_0 c1_2_1 c5_0_0 c5_0_1 ⊢
  clear hK
  have lt_c1_0_0 : w.heap.size < wA5.heap.size := by omega
  have lt_c1_0_1 : w.heap.size < wA5.heap.size := by omega
  have lt_c1_1_0 : w.heap.size + 1 < wA5.heap.size := by omega
  have lt_c1_1_1 : w.heap.size + 1 < wA5.heap.size := by omega
  have lt_c1_2_0 : w.heap.size + 1 + 1 < wA5.heap.size := by omega
  have lt_c1_2_1 : w.heap.size + 1 + 1 < wA5.heap.size := by omega
  have lt_c5_0_0 : w4.heap.size < wA5.heap.size := by omega
  have lt_c5_0_1 : w4.heap.size < wA5.heap.size := by omega
  clear hP HB
  have HB := Lib.hid hB
  clear hB hz
  refine (K2.out _).mono ?_
  rintro e w5 ⟨rfl, hb⟩
  have c1_0_0 := (hb.cell (p := ⟨w.heap.size, 0, none⟩) lt_c1_0_0).trans c1_0_0
  have c1_0_1 := (hb.cell (p := ⟨w.heap.size, 1, none⟩) lt_c1_0_1).trans c1_0_1
  have c1_1_0 := (hb.cell (p := ⟨w.heap.size + 1, 0, none⟩) lt_c1_1_0).trans c1_1_0
  have c1_1_1 := (hb.cell (p := ⟨w.heap.size + 1, 1, none⟩) lt_c1_1_1).trans c1_1_1
  have c1_2_0 := (hb.cell (p := ⟨w.heap.size + 1 + 1, 0, none⟩) lt_c1_2_0).trans c1_2_0
  have c1_2_1 := (hb.cell (p := ⟨w.heap.size + 1 + 1, 1, none⟩) lt_c1_2_1).trans c1_2_1
  have c5_0_0 := (hb.cell (p := ⟨w4.heap.size, 0, none⟩) lt_c5_0_0).trans c5_0_0
  have c5_0_1 := (hb.cell (p := ⟨w4.heap.size, 1, none⟩) lt_c5_0_1).trans c5_0_1
  have hz := bsize hb
  try simp at hz
  have lt_c1_0_0 : w.heap.size < w5.heap.size := by omega
  have lt_c1_0_1 : w.heap.size < w5.heap.size := by omega
  have lt_c1_1_0 : w.heap.size + 1 < w5.heap.size := by omega
  have lt_c1_1_1 : w.heap.size + 1 < w5.heap.size := by omega
  have lt_c1_2_0 : w.heap.size + 1 + 1 < w5.heap.size := by omega
  have lt_c1_2_1 : w.heap.size + 1 + 1 < w5.heap.size := by omega
  have lt_c5_0_0 : w4.heap.size < w5.heap.size := by omega
  have lt_c5_0_1 : w4.heap.size < w5.heap.size := by omega
  have hB := HB.out.trans (hb.mono HB.out.size)
  clear HB
  have HB := Lib.hid hB
  clear hB
  clear hb hz
  go_wp2_with fail
  have hP := HB.out
  have hK : Below w5.heap.size w5 (w5.alloc (.cells #[.int .i64 t1.1, .int .i64 t1.2.1] 23)) := (by repeat (first | with_reducible exact Below.refl _ _ | (with_reducible refine Below.setCell ?_ (by first | exact Nat.le_refl _ | omega | (simp; done) | (simp; omega)) _) | (with_reducible refine Below.alloc ?_ (by first | exact Nat.le_refl _ | omega | (simp; done) | (simp; omega)) _) | with_reducible refine Below.drew ?_ | with_reducible refine bel_drewN ?_ _ | (with_reducible refine bel_by (by with_reducible assumption) (by first | exact Nat.le_refl _ | omega | (simp; done) | (simp; omega)) ?_)))
  have hB : Below w.heap.size w (w5.alloc (.cells #[.int .i64 t1.1, .int .i64 t1.2.1] 23)) := hP.trans (hK.mono hP.size)
  have c1_0_0 : (w5.alloc (.cells #[.int .i64 t1.1, .int .i64 t1.2.1] 23)).cell? ⟨w.heap.size, 0, none⟩ = some (.int .i64 an) := (hK.cell (p := ⟨w.heap.size, 0, none⟩) lt_c1_0_0).trans c1_0_0
  have c1_0_1 : (w5.alloc (.cells #[.int .i64 t1.1, .int .i64 t1.2.1] 23)).cell? ⟨w.heap.size, 1, none⟩ = some (.int .i64 ad) := (hK.cell (p := ⟨w.heap.size, 1, none⟩) lt_c1_0_1).trans c1_0_1
  have c1_1_0 : (w5.alloc (.cells #[.int .i64 t1.1, .int .i64 t1.2.1] 23)).cell? ⟨w.heap.size + 1, 0, none⟩ = some (.int .i64 bn) := (hK.cell (p := ⟨w.heap.size + 1, 0, none⟩) lt_c1_1_0).trans c1_1_0
  have c1_1_1 : (w5.alloc (.cells #[.int .i64 t1.1, .int .i64 t1.2.1] 23)).cell? ⟨w.heap.size + 1, 1, none⟩ = some (.int .i64 bd) := (hK.cell (p := ⟨w.heap.size + 1, 1, none⟩) lt_c1_1_1).trans c1_1_1
  have c1_2_0 : (w5.alloc (.cells #[.int .i64 t1.1, .int .i64 t1.2.1] 23)).cell? ⟨w.heap.size + 1 + 1, 0, none⟩ = some (.int .i64 cn) := (hK.cell (p := ⟨w.heap.size + 1 + 1, 0, none⟩) lt_c1_2_0).trans c1_2_0
  have c1_2_1 : (w5.alloc (.cells #[.int .i64 t1.1, .int .i64 t1.2.1] 23)).cell? ⟨w.heap.size + 1 + 1, 1, none⟩ = some (.int .i64 cd) := (hK.cell (p := ⟨w.heap.size + 1 + 1, 1, none⟩) lt_c1_2_1).trans c1_2_1
  have c5_0_0 : (w5.alloc (.cells #[.int .i64 t1.1, .int .i64 t1.2.1] 23)).cell? ⟨w4.heap.size, 0, none⟩ = some (.int .i64 t1.1) := (hK.cell (p := ⟨w4.heap.size, 0, none⟩) lt_c5_0_0).trans c5_0_0
  have c5_0_1 : (w5.alloc (.cells #[.int .i64 t1.1, .int .i64 t1.2.1] 23)).cell? ⟨w4.heap.size, 1, none⟩ = some (.int .i64 t1.2.1) := (hK.cell (p := ⟨w4.heap.size, 1, none⟩) lt_c5_0_1).trans c5_0_1
  have c6_0_0 : (w5.alloc (.cells #[.int .i64 t1.1, .int .i64 t1.2.1] 23)).cell? ⟨w5.heap.size, 0, none⟩ = some (.int .i64 t1.1) := by simp [go_sem]
  have c6_0_1 : (w5.alloc (.cells #[.int .i64 t1.1, .int .i64 t1.2.1] 23)).cell? ⟨w5.heap.size, 1, none⟩ = some (.int .i64 t1.2.1) := by simp [go_sem]
  have hz : (w5.alloc (.cells #[.int .i64 t1.1, .int .i64 t1.2.1] 23)).heap.size = w5.heap.size + 1 := by simp
  generalize (w5.alloc (.cells #[.int .i64 t1.1, .int .i64 t1.2.1] 23)) = wA6 at hB hK hz c1_0_0 c1_0_1 c1_1_0 c1_1_1 c1_2_0 c1_2_1 c5_0_0 c5_0_1 c6_0_0 c6_0_1 ⊢
  clear hK
  have lt_c1_0_0 : w.heap.size < wA6.heap.size := by omega
  have lt_c1_0_1 : w.heap.size < wA6.heap.size := by omega
  have lt_c1_1_0 : w.heap.size + 1 < wA6.heap.size := by omega
  have lt_c1_1_1 : w.heap.size + 1 < wA6.heap.size := by omega
  have lt_c1_2_0 : w.heap.size + 1 + 1 < wA6.heap.size := by omega
  have lt_c1_2_1 : w.heap.size + 1 + 1 < wA6.heap.size := by omega
  have lt_c5_0_0 : w4.heap.size < wA6.heap.size := by omega
  have lt_c5_0_1 : w4.heap.size < wA6.heap.size := by omega
  have lt_c6_0_0 : w5.heap.size < wA6.heap.size := by omega
  have lt_c6_0_1 : w5.heap.size < wA6.heap.size := by omega
  clear hP HB
  have HB := Lib.hid hB
  clear hB hz
  refine (K3.out _).mono ?_
  rintro e w6 ⟨rfl, hb⟩
  have c1_0_0 := (hb.cell (p := ⟨w.heap.size, 0, none⟩) lt_c1_0_0).trans c1_0_0
  have c1_0_1 := (hb.cell (p := ⟨w.heap.size, 1, none⟩) lt_c1_0_1).trans c1_0_1
  have c1_1_0 := (hb.cell (p := ⟨w.heap.size + 1, 0, none⟩) lt_c1_1_0).trans c1_1_0
  have c1_1_1 := (hb.cell (p := ⟨w.heap.size + 1, 1, none⟩) lt_c1_1_1).trans c1_1_1
  have c1_2_0 := (hb.cell (p := ⟨w.heap.size + 1 + 1, 0, none⟩) lt_c1_2_0).trans c1_2_0
  have c1_2_1 := (hb.cell (p := ⟨w.heap.size + 1 + 1, 1, none⟩) lt_c1_2_1).trans c1_2_1
  have c5_0_0 := (hb.cell (p := ⟨w4.heap.size, 0, none⟩) lt_c5_0_0).trans c5_0_0
  have c5_0_1 := (hb.cell (p := ⟨w4.heap.size, 1, none⟩) lt_c5_0_1).trans c5_0_1
  have c6_0_0 := (hb.cell (p := ⟨w5.heap.size, 0, none⟩) lt_c6_0_0).trans c6_0_0
  have c6_0_1 := (hb.cell (p := ⟨w5.heap.size, 1, none⟩) lt_c6_0_1).trans c6_0_1
  have hz := bsize hb
  try simp at hz
  have lt_c1_0_0 : w.heap.size < w6.heap.size := by omega
  have lt_c1_0_1 : w.heap.size < w6.heap.size := by omega
  have lt_c1_1_0 : w.heap.size + 1 < w6.heap.size := by omega
  have lt_c1_1_1 : w.heap.size + 1 < w6.heap.size := by omega
  have lt_c1_2_0 : w.heap.size + 1 + 1 < w6.heap.size := by omega
  have lt_c1_2_1 : w.heap.size + 1 + 1 < w6.heap.size := by omega
  have lt_c5_0_0 : w4.heap.size < w6.heap.size := by omega
  have lt_c5_0_1 : w4.heap.size < w6.heap.size := by omega
  have lt_c6_0_0 : w5.heap.size < w6.heap.size := by omega
  have lt_c6_0_1 : w5.heap.size < w6.heap.size := by omega
  have hB := HB.out.trans (hb.mono HB.out.size)
  clear HB
  have HB := Lib.hid hB
  clear hB
  clear hb hz
  go_upto_region 8 with fail
  have hP := HB.out
  have hK : Below w6.heap.size w6 (w6.alloc (.cells #[.int .i64 t3.1, .int .i64 t3.2.1] 23)) := (by repeat (first | with_reducible exact Below.refl _ _ | (with_reducible refine Below.setCell ?_ (by first | exact Nat.le_refl _ | omega | (simp; done) | (simp; omega)) _) | (with_reducible refine Below.alloc ?_ (by first | exact Nat.le_refl _ | omega | (simp; done) | (simp; omega)) _) | with_reducible refine Below.drew ?_ | with_reducible refine bel_drewN ?_ _ | (with_reducible refine bel_by (by with_reducible assumption) (by first | exact Nat.le_refl _ | omega | (simp; done) | (simp; omega)) ?_)))
  have hB : Below w.heap.size w (w6.alloc (.cells #[.int .i64 t3.1, .int .i64 t3.2.1] 23)) := hP.trans (hK.mono hP.size)
  have c1_0_0 : (w6.alloc (.cells #[.int .i64 t3.1, .int .i64 t3.2.1] 23)).cell? ⟨w.heap.size, 0, none⟩ = some (.int .i64 an) := (hK.cell (p := ⟨w.heap.size, 0, none⟩) lt_c1_0_0).trans c1_0_0
  have c1_0_1 : (w6.alloc (.cells #[.int .i64 t3.1, .int .i64 t3.2.1] 23)).cell? ⟨w.heap.size, 1, none⟩ = some (.int .i64 ad) := (hK.cell (p := ⟨w.heap.size, 1, none⟩) lt_c1_0_1).trans c1_0_1
  have c1_1_0 : (w6.alloc (.cells #[.int .i64 t3.1, .int .i64 t3.2.1] 23)).cell? ⟨w.heap.size + 1, 0, none⟩ = some (.int .i64 bn) := (hK.cell (p := ⟨w.heap.size + 1, 0, none⟩) lt_c1_1_0).trans c1_1_0
  have c1_1_1 : (w6.alloc (.cells #[.int .i64 t3.1, .int .i64 t3.2.1] 23)).cell? ⟨w.heap.size + 1, 1, none⟩ = some (.int .i64 bd) := (hK.cell (p := ⟨w.heap.size + 1, 1, none⟩) lt_c1_1_1).trans c1_1_1
  have c1_2_0 : (w6.alloc (.cells #[.int .i64 t3.1, .int .i64 t3.2.1] 23)).cell? ⟨w.heap.size + 1 + 1, 0, none⟩ = some (.int .i64 cn) := (hK.cell (p := ⟨w.heap.size + 1 + 1, 0, none⟩) lt_c1_2_0).trans c1_2_0
  have c1_2_1 : (w6.alloc (.cells #[.int .i64 t3.1, .int .i64 t3.2.1] 23)).cell? ⟨w.heap.size + 1 + 1, 1, none⟩ = some (.int .i64 cd) := (hK.cell (p := ⟨w.heap.size + 1 + 1, 1, none⟩) lt_c1_2_1).trans c1_2_1
  have c5_0_0 : (w6.alloc (.cells #[.int .i64 t3.1, .int .i64 t3.2.1] 23)).cell? ⟨w4.heap.size, 0, none⟩ = some (.int .i64 t1.1) := (hK.cell (p := ⟨w4.heap.size, 0, none⟩) lt_c5_0_0).trans c5_0_0
  have c5_0_1 : (w6.alloc (.cells #[.int .i64 t3.1, .int .i64 t3.2.1] 23)).cell? ⟨w4.heap.size, 1, none⟩ = some (.int .i64 t1.2.1) := (hK.cell (p := ⟨w4.heap.size, 1, none⟩) lt_c5_0_1).trans c5_0_1
  have c6_0_0 : (w6.alloc (.cells #[.int .i64 t3.1, .int .i64 t3.2.1] 23)).cell? ⟨w5.heap.size, 0, none⟩ = some (.int .i64 t1.1) := (hK.cell (p := ⟨w5.heap.size, 0, none⟩) lt_c6_0_0).trans c6_0_0
  have c6_0_1 : (w6.alloc (.cells #[.int .i64 t3.1, .int .i64 t3.2.1] 23)).cell? ⟨w5.heap.size, 1, none⟩ = some (.int .i64 t1.2.1) := (hK.cell (p := ⟨w5.heap.size, 1, none⟩) lt_c6_0_1).trans c6_0_1
  have c7_0_0 : (w6.alloc (.cells #[.int .i64 t3.1, .int .i64 t3.2.1] 23)).cell? ⟨w6.heap.size, 0, none⟩ = some (.int .i64 t3.1) := by simp [go_sem]
  have c7_0_1 : (w6.alloc (.cells #[.int .i64 t3.1, .int .i64 t3.2.1] 23)).cell? ⟨w6.heap.size, 1, none⟩ = some (.int .i64 t3.2.1) := by simp [go_sem]
  have hz : (w6.alloc (.cells #[.int .i64 t3.1, .int .i64 t3.2.1] 23)).heap.size = w6.heap.size + 1 := by simp
  generalize (w6.alloc (.cells #[.int .i64 t3.1, .int .i64 t3.2.1] 23)) = wA7 at hB hK hz c1_0_0 c1_0_1 c1_1_0 c1_1_1 c1_2_0 c1_2_1 c5_0_0 c5_0_1 c6_0_0 c6_0_1 c7_0_0 c7_0_1 ⊢
  clear hK
  have lt_c1_0_0 : w.heap.size < wA7.heap.size := by omega
  have lt_c1_0_1 : w.heap.size < wA7.heap.size := by omega
  have lt_c1_1_0 : w.heap.size + 1 < wA7.heap.size := by omega
  have lt_c1_1_1 : w.heap.size + 1 < wA7.heap.size := by omega
  have lt_c1_2_0 : w.heap.size + 1 + 1 < wA7.heap.size := by omega
  have lt_c1_2_1 : w.heap.size + 1 + 1 < wA7.heap.size := by omega
  have lt_c5_0_0 : w4.heap.size < wA7.heap.size := by omega
  have lt_c5_0_1 : w4.heap.size < wA7.heap.size := by omega
  have lt_c6_0_0 : w5.heap.size < wA7.heap.size := by omega
  have lt_c6_0_1 : w5.heap.size < wA7.heap.size := by omega
  have lt_c7_0_0 : w6.heap.size < wA7.heap.size := by omega
  have lt_c7_0_1 : w6.heap.size < wA7.heap.size := by omega
  clear hP HB
  have HB := Lib.hid hB
  clear hB hz
  go_cut [76] (fun s76 wx => s76 = .bool ((t1.2.2 == 0) && (t3.2.2 == 0)) ∧ wA7 = wx)
  case first =>
    cases h1 : (t1.2.2 == 0) <;> cases h3 : (t3.2.2 == 0)
    all_goals
      go_wp2_with fail
      go_meet
      exact ⟨by simp [h1, h3], rfl⟩
  obtain ⟨rfl, rfl⟩ := hcut
  as_aux_lemma =>
    go_upto_if 76 with fail
    go_cut [] (fun wx => Below w.heap.size w wx ∧ wx.cell? ⟨w.heap.size, 0, none⟩ = some (.int .i64 an) ∧ wx.cell? ⟨w.heap.size, 1, none⟩ = some (.int .i64 ad) ∧ wx.cell? ⟨w.heap.size + 1, 0, none⟩ = some (.int .i64 bn) ∧ wx.cell? ⟨w.heap.size + 1, 1, none⟩ = some (.int .i64 bd) ∧ wx.cell? ⟨w.heap.size + 1 + 1, 0, none⟩ = some (.int .i64 cn) ∧ wx.cell? ⟨w.heap.size + 1 + 1, 1, none⟩ = some (.int .i64 cd) ∧ wx.cell? ⟨w4.heap.size, 0, none⟩ = some (.int .i64 t1.1) ∧ wx.cell? ⟨w4.heap.size, 1, none⟩ = some (.int .i64 t1.2.1) ∧ wx.cell? ⟨w5.heap.size, 0, none⟩ = some (.int .i64 t1.1) ∧ wx.cell? ⟨w5.heap.size, 1, none⟩ = some (.int .i64 t1.2.1) ∧ wx.cell? ⟨w6.heap.size, 0, none⟩ = some (.int .i64 t3.1) ∧ wx.cell? ⟨w6.heap.size, 1, none⟩ = some (.int .i64 t3.2.1) ∧ w.heap.size < wx.heap.size ∧ w.heap.size + 1 < wx.heap.size ∧ w.heap.size + 1 + 1 < wx.heap.size ∧ w4.heap.size < wx.heap.size ∧ w5.heap.size < wx.heap.size ∧ w6.heap.size < wx.heap.size)
    case first =>
      cases h1 : (t1.2.2 == 0) <;> cases h3 : (t3.2.2 == 0)
      case true.true =>
        as_aux_lemma =>
          have C5 := K5.out (by simpa using h1) (by simpa using h3)
          have K5 := Lib.hid C5
          clear C5
          go_wp2_with fail
          refine (K4.out _).mono ?_
          rintro e w8 ⟨rfl, hb⟩
          have c1_0_0 := (hb.cell (p := ⟨w.heap.size, 0, none⟩) lt_c1_0_0).trans c1_0_0
          have c1_0_1 := (hb.cell (p := ⟨w.heap.size, 1, none⟩) lt_c1_0_1).trans c1_0_1
          have c1_1_0 := (hb.cell (p := ⟨w.heap.size + 1, 0, none⟩) lt_c1_1_0).trans c1_1_0
          have c1_1_1 := (hb.cell (p := ⟨w.heap.size + 1, 1, none⟩) lt_c1_1_1).trans c1_1_1
          have c1_2_0 := (hb.cell (p := ⟨w.heap.size + 1 + 1, 0, none⟩) lt_c1_2_0).trans c1_2_0
          have c1_2_1 := (hb.cell (p := ⟨w.heap.size + 1 + 1, 1, none⟩) lt_c1_2_1).trans c1_2_1
          have c5_0_0 := (hb.cell (p := ⟨w4.heap.size, 0, none⟩) lt_c5_0_0).trans c5_0_0
          have c5_0_1 := (hb.cell (p := ⟨w4.heap.size, 1, none⟩) lt_c5_0_1).trans c5_0_1
          have c6_0_0 := (hb.cell (p := ⟨w5.heap.size, 0, none⟩) lt_c6_0_0).trans c6_0_0
          have c6_0_1 := (hb.cell (p := ⟨w5.heap.size, 1, none⟩) lt_c6_0_1).trans c6_0_1
          have c7_0_0 := (hb.cell (p := ⟨w6.heap.size, 0, none⟩) lt_c7_0_0).trans c7_0_0
          have c7_0_1 := (hb.cell (p := ⟨w6.heap.size, 1, none⟩) lt_c7_0_1).trans c7_0_1
          have hz := bsize hb
          try simp at hz
          have lt_c1_0_0 : w.heap.size < w8.heap.size := by omega
          have lt_c1_0_1 : w.heap.size < w8.heap.size := by omega
          have lt_c1_1_0 : w.heap.size + 1 < w8.heap.size := by omega
          have lt_c1_1_1 : w.heap.size + 1 < w8.heap.size := by omega
          have lt_c1_2_0 : w.heap.size + 1 + 1 < w8.heap.size := by omega
          have lt_c1_2_1 : w.heap.size + 1 + 1 < w8.heap.size := by omega
          have lt_c5_0_0 : w4.heap.size < w8.heap.size := by omega
          have lt_c5_0_1 : w4.heap.size < w8.heap.size := by omega
          have lt_c6_0_0 : w5.heap.size < w8.heap.size := by omega
          have lt_c6_0_1 : w5.heap.size < w8.heap.size := by omega
          have lt_c7_0_0 : w6.heap.size < w8.heap.size := by omega
          have lt_c7_0_1 : w6.heap.size < w8.heap.size := by omega
          have hB := HB.out.trans (hb.mono HB.out.size)
          clear HB
          have HB := Lib.hid hB
          clear hB
          clear hb hz
          go_wp2_with fail
          have hP := HB.out
          have hK : Below w8.heap.size w8 (w8.alloc (.cells #[.int .i64 t5.1, .int .i64 t5.2.1] 23)) := (by repeat (first | with_reducible exact Below.refl _ _ | (with_reducible refine Below.setCell ?_ (by first | exact Nat.le_refl _ | omega | (simp; done) | (simp; omega)) _) | (with_reducible refine Below.alloc ?_ (by first | exact Nat.le_refl _ | omega | (simp; done) | (simp; omega)) _) | with_reducible refine Below.drew ?_ | with_reducible refine bel_drewN ?_ _ | (with_reducible refine bel_by (by with_reducible assumption) (by first | exact Nat.le_refl _ | omega | (simp; done) | (simp; omega)) ?_)))
          have hB : Below w.heap.size w (w8.alloc (.cells #[.int .i64 t5.1, .int .i64 t5.2.1] 23)) := hP.trans (hK.mono hP.size)
          have c1_0_0 : (w8.alloc (.cells #[.int .i64 t5.1, .int .i64 t5.2.1] 23)).cell? ⟨w.heap.size, 0, none⟩ = some (.int .i64 an) := (hK.cell (p := ⟨w.heap.size, 0, none⟩) lt_c1_0_0).trans c1_0_0
          have c1_0_1 : (w8.alloc (.cells #[.int .i64 t5.1, .int .i64 t5.2.1] 23)).cell? ⟨w.heap.size, 1, none⟩ = some (.int .i64 ad) := (hK.cell (p := ⟨w.heap.size, 1, none⟩) lt_c1_0_1).trans c1_0_1
          have c1_1_0 : (w8.alloc (.cells #[.int .i64 t5.1, .int .i64 t5.2.1] 23)).cell? ⟨w.heap.size + 1, 0, none⟩ = some (.int .i64 bn) := (hK.cell (p := ⟨w.heap.size + 1, 0, none⟩) lt_c1_1_0).trans c1_1_0
          have c1_1_1 : (w8.alloc (.cells #[.int .i64 t5.1, .int .i64 t5.2.1] 23)).cell? ⟨w.heap.size + 1, 1, none⟩ = some (.int .i64 bd) := (hK.cell (p := ⟨w.heap.size + 1, 1, none⟩) lt_c1_1_1).trans c1_1_1
          have c1_2_0 : (w8.alloc (.cells #[.int .i64 t5.1, .int .i64 t5.2.1] 23)).cell? ⟨w.heap.size + 1 + 1, 0, none⟩ = some (.int .i64 cn) := (hK.cell (p := ⟨w.heap.size + 1 + 1, 0, none⟩) lt_c1_2_0).trans c1_2_0
          have c1_2_1 : (w8.alloc (.cells #[.int .i64 t5.1, .int .i64 t5.2.1] 23)).cell? ⟨w.heap.size + 1 + 1, 1, none⟩ = some (.int .i64 cd) := (hK.cell (p := ⟨w.heap.size + 1 + 1, 1, none⟩) lt_c1_2_1).trans c1_2_1
          have c5_0_0 : (w8.alloc (.cells #[.int .i64 t5.1, .int .i64 t5.2.1] 23)).cell? ⟨w4.heap.size, 0, none⟩ = some (.int .i64 t1.1) := (hK.cell (p := ⟨w4.heap.size, 0, none⟩) lt_c5_0_0).trans c5_0_0
          have c5_0_1 : (w8.alloc (.cells #[.int .i64 t5.1, .int .i64 t5.2.1] 23)).cell? ⟨w4.heap.size, 1, none⟩ = some (.int .i64 t1.2.1) := (hK.cell (p := ⟨w4.heap.size, 1, none⟩) lt_c5_0_1).trans c5_0_1
          have c6_0_0 : (w8.alloc (.cells #[.int .i64 t5.1, .int .i64 t5.2.1] 23)).cell? ⟨w5.heap.size, 0, none⟩ = some (.int .i64 t1.1) := (hK.cell (p := ⟨w5.heap.size, 0, none⟩) lt_c6_0_0).trans c6_0_0
          have c6_0_1 : (w8.alloc (.cells #[.int .i64 t5.1, .int .i64 t5.2.1] 23)).cell? ⟨w5.heap.size, 1, none⟩ = some (.int .i64 t1.2.1) := (hK.cell (p := ⟨w5.heap.size, 1, none⟩) lt_c6_0_1).trans c6_0_1
          have c7_0_0 : (w8.alloc (.cells #[.int .i64 t5.1, .int .i64 t5.2.1] 23)).cell? ⟨w6.heap.size, 0, none⟩ = some (.int .i64 t3.1) := (hK.cell (p := ⟨w6.heap.size, 0, none⟩) lt_c7_0_0).trans c7_0_0
          have c7_0_1 : (w8.alloc (.cells #[.int .i64 t5.1, .int .i64 t5.2.1] 23)).cell? ⟨w6.heap.size, 1, none⟩ = some (.int .i64 t3.2.1) := (hK.cell (p := ⟨w6.heap.size, 1, none⟩) lt_c7_0_1).trans c7_0_1
          have c9_0_0 : (w8.alloc (.cells #[.int .i64 t5.1, .int .i64 t5.2.1] 23)).cell? ⟨w8.heap.size, 0, none⟩ = some (.int .i64 t5.1) := by simp [go_sem]
          have c9_0_1 : (w8.alloc (.cells #[.int .i64 t5.1, .int .i64 t5.2.1] 23)).cell? ⟨w8.heap.size, 1, none⟩ = some (.int .i64 t5.2.1) := by simp [go_sem]
          have hz : (w8.alloc (.cells #[.int .i64 t5.1, .int .i64 t5.2.1] 23)).heap.size = w8.heap.size + 1 := by simp
          generalize (w8.alloc (.cells #[.int .i64 t5.1, .int .i64 t5.2.1] 23)) = wA9 at hB hK hz c1_0_0 c1_0_1 c1_1_0 c1_1_1 c1_2_0 c1_2_1 c5_0_0 c5_0_1 c6_0_0 c6_0_1 c7_0_0 c7_0_1 c9_0_0 c9_0_1 ⊢
          clear hK
          have lt_c1_0_0 : w.heap.size < wA9.heap.size := by omega
          have lt_c1_0_1 : w.heap.size < wA9.heap.size := by omega
          have lt_c1_1_0 : w.heap.size + 1 < wA9.heap.size := by omega
          have lt_c1_1_1 : w.heap.size + 1 < wA9.heap.size := by omega
          have lt_c1_2_0 : w.heap.size + 1 + 1 < wA9.heap.size := by omega
          have lt_c1_2_1 : w.heap.size + 1 + 1 < wA9.heap.size := by omega
          have lt_c5_0_0 : w4.heap.size < wA9.heap.size := by omega
          have lt_c5_0_1 : w4.heap.size < wA9.heap.size := by omega
          have lt_c6_0_0 : w5.heap.size < wA9.heap.size := by omega
          have lt_c6_0_1 : w5.heap.size < wA9.heap.size := by omega
          have lt_c7_0_0 : w6.heap.size < wA9.heap.size := by omega
          have lt_c7_0_1 : w6.heap.size < wA9.heap.size := by omega
          have lt_c9_0_0 : w8.heap.size < wA9.heap.size := by omega
          have lt_c9_0_1 : w8.heap.size < wA9.heap.size := by omega
          clear hP HB
          have HB := Lib.hid hB
          clear hB hz
          refine (K5.out _).mono ?_
          rintro e w9 ⟨rfl, hb⟩
          have c1_0_0 := (hb.cell (p := ⟨w.heap.size, 0, none⟩) lt_c1_0_0).trans c1_0_0
          have c1_0_1 := (hb.cell (p := ⟨w.heap.size, 1, none⟩) lt_c1_0_1).trans c1_0_1
          have c1_1_0 := (hb.cell (p := ⟨w.heap.size + 1, 0, none⟩) lt_c1_1_0).trans c1_1_0
          have c1_1_1 := (hb.cell (p := ⟨w.heap.size + 1, 1, none⟩) lt_c1_1_1).trans c1_1_1
          have c1_2_0 := (hb.cell (p := ⟨w.heap.size + 1 + 1, 0, none⟩) lt_c1_2_0).trans c1_2_0
          have c1_2_1 := (hb.cell (p := ⟨w.heap.size + 1 + 1, 1, none⟩) lt_c1_2_1).trans c1_2_1
          have c5_0_0 := (hb.cell (p := ⟨w4.heap.size, 0, none⟩) lt_c5_0_0).trans c5_0_0
          have c5_0_1 := (hb.cell (p := ⟨w4.heap.size, 1, none⟩) lt_c5_0_1).trans c5_0_1
          have c6_0_0 := (hb.cell (p := ⟨w5.heap.size, 0, none⟩) lt_c6_0_0).trans c6_0_0
          have c6_0_1 := (hb.cell (p := ⟨w5.heap.size, 1, none⟩) lt_c6_0_1).trans c6_0_1
          have c7_0_0 := (hb.cell (p := ⟨w6.heap.size, 0, none⟩) lt_c7_0_0).trans c7_0_0
          have c7_0_1 := (hb.cell (p := ⟨w6.heap.size, 1, none⟩) lt_c7_0_1).trans c7_0_1
          have c9_0_0 := (hb.cell (p := ⟨w8.heap.size, 0, none⟩) lt_c9_0_0).trans c9_0_0
          have c9_0_1 := (hb.cell (p := ⟨w8.heap.size, 1, none⟩) lt_c9_0_1).trans c9_0_1
          have hz := bsize hb
          try simp at hz
          have lt_c1_0_0 : w.heap.size < w9.heap.size := by omega
          have lt_c1_0_1 : w.heap.size < w9.heap.size := by omega
          have lt_c1_1_0 : w.heap.size + 1 < w9.heap.size := by omega
          have lt_c1_1_1 : w.heap.size + 1 < w9.heap.size := by omega
          have lt_c1_2_0 : w.heap.size + 1 + 1 < w9.heap.size := by omega
          have lt_c1_2_1 : w.heap.size + 1 + 1 < w9.heap.size := by omega
          have lt_c5_0_0 : w4.heap.size < w9.heap.size := by omega
          have lt_c5_0_1 : w4.heap.size < w9.heap.size := by omega
          have lt_c6_0_0 : w5.heap.size < w9.heap.size := by omega
          have lt_c6_0_1 : w5.heap.size < w9.heap.size := by omega
          have lt_c7_0_0 : w6.heap.size < w9.heap.size := by omega
          have lt_c7_0_1 : w6.heap.size < w9.heap.size := by omega
          have lt_c9_0_0 : w8.heap.size < w9.heap.size := by omega
          have lt_c9_0_1 : w8.heap.size < w9.heap.size := by omega
          have hB := HB.out.trans (hb.mono HB.out.size)
          clear HB
          have HB := Lib.hid hB
          clear hB
          clear hb hz
          go_wp2_with fail
          have hP := HB.out
          have hK : Below w9.heap.size w9 (w9.alloc (.cells #[.int .i64 t5.1, .int .i64 t5.2.1] 23)) := (by repeat (first | with_reducible exact Below.refl _ _ | (with_reducible refine Below.setCell ?_ (by first | exact Nat.le_refl _ | omega | (simp; done) | (simp; omega)) _) | (with_reducible refine Below.alloc ?_ (by first | exact Nat.le_refl _ | omega | (simp; done) | (simp; omega)) _) | with_reducible refine Below.drew ?_ | with_reducible refine bel_drewN ?_ _ | (with_reducible refine bel_by (by with_reducible assumption) (by first | exact Nat.le_refl _ | omega | (simp; done) | (simp; omega)) ?_)))
          have hB : Below w.heap.size w (w9.alloc (.cells #[.int .i64 t5.1, .int .i64 t5.2.1] 23)) := hP.trans (hK.mono hP.size)
          have c1_0_0 : (w9.alloc (.cells #[.int .i64 t5.1, .int .i64 t5.2.1] 23)).cell? ⟨w.heap.size, 0, none⟩ = some (.int .i64 an) := (hK.cell (p := ⟨w.heap.size, 0, none⟩) lt_c1_0_0).trans c1_0_0
          have c1_0_1 : (w9.alloc (.cells #[.int .i64 t5.1, .int .i64 t5.2.1] 23)).cell? ⟨w.heap.size, 1, none⟩ = some (.int .i64 ad) := (hK.cell (p := ⟨w.heap.size, 1, none⟩) lt_c1_0_1).trans c1_0_1
          have c1_1_0 : (w9.alloc (.cells #[.int .i64 t5.1, .int .i64 t5.2.1] 23)).cell? ⟨w.heap.size + 1, 0, none⟩ = some (.int .i64 bn) := (hK.cell (p := ⟨w.heap.size + 1, 0, none⟩) lt_c1_1_0).trans c1_1_0
          have c1_1_1 : (w9.alloc (.cells #[.int .i64 t5.1, .int .i64 t5.2.1] 23)).cell? ⟨w.heap.size + 1, 1, none⟩ = some (.int .i64 bd) := (hK.cell (p := ⟨w.heap.size + 1, 1, none⟩) lt_c1_1_1).trans c1_1_1
          have c1_2_0 : (w9.alloc (.cells #[.int .i64 t5.1, .int .i64 t5.2.1] 23)).cell? ⟨w.heap.size + 1 + 1, 0, none⟩ = some (.int .i64 cn) := (hK.cell (p := ⟨w.heap.size + 1 + 1, 0, none⟩) lt_c1_2_0).trans c1_2_0
          have c1_2_1 : (w9.alloc (.cells #[.int .i64 t5.1, .int .i64 t5.2.1] 23)).cell? ⟨w.heap.size + 1 + 1, 1, none⟩ = some (.int .i64 cd) := (hK.cell (p := ⟨w.heap.size + 1 + 1, 1, none⟩) lt_c1_2_1).trans c1_2_1
          have c5_0_0 : (w9.alloc (.cells #[.int .i64 t5.1, .int .i64 t5.2.1] 23)).cell? ⟨w4.heap.size, 0, none⟩ = some (.int .i64 t1.1) := (hK.cell (p := ⟨w4.heap.size, 0, none⟩) lt_c5_0_0).trans c5_0_0
          have c5_0_1 : (w9.alloc (.cells #[.int .i64 t5.1, .int .i64 t5.2.1] 23)).cell? ⟨w4.heap.size, 1, none⟩ = some (.int .i64 t1.2.1) := (hK.cell (p := ⟨w4.heap.size, 1, none⟩) lt_c5_0_1).trans c5_0_1
          have c6_0_0 : (w9.alloc (.cells #[.int .i64 t5.1, .int .i64 t5.2.1] 23)).cell? ⟨w5.heap.size, 0, none⟩ = some (.int .i64 t1.1) := (hK.cell (p := ⟨w5.heap.size, 0, none⟩) lt_c6_0_0).trans c6_0_0
          have c6_0_1 : (w9.alloc (.cells #[.int .i64 t5.1, .int .i64 t5.2.1] 23)).cell? ⟨w5.heap.size, 1, none⟩ = some (.int .i64 t1.2.1) := (hK.cell (p := ⟨w5.heap.size, 1, none⟩) lt_c6_0_1).trans c6_0_1
          have c7_0_0 : (w9.alloc (.cells #[.int .i64 t5.1, .int .i64 t5.2.1] 23)).cell? ⟨w6.heap.size, 0, none⟩ = some (.int .i64 t3.1) := (hK.cell (p := ⟨w6.heap.size, 0, none⟩) lt_c7_0_0).trans c7_0_0
          have c7_0_1 : (w9.alloc (.cells #[.int .i64 t5.1, .int .i64 t5.2.1] 23)).cell? ⟨w6.heap.size, 1, none⟩ = some (.int .i64 t3.2.1) := (hK.cell (p := ⟨w6.heap.size, 1, none⟩) lt_c7_0_1).trans c7_0_1
          have c9_0_0 : (w9.alloc (.cells #[.int .i64 t5.1, .int .i64 t5.2.1] 23)).cell? ⟨w8.heap.size, 0, none⟩ = some (.int .i64 t5.1) := (hK.cell (p := ⟨w8.heap.size, 0, none⟩) lt_c9_0_0).trans c9_0_0
          have c9_0_1 : (w9.alloc (.cells #[.int .i64 t5.1, .int .i64 t5.2.1] 23)).cell? ⟨w8.heap.size, 1, none⟩ = some (.int .i64 t5.2.1) := (hK.cell (p := ⟨w8.heap.size, 1, none⟩) lt_c9_0_1).trans c9_0_1
          have c10_0_0 : (w9.alloc (.cells #[.int .i64 t5.1, .int .i64 t5.2.1] 23)).cell? ⟨w9.heap.size, 0, none⟩ = some (.int .i64 t5.1) := by simp [go_sem]
          have c10_0_1 : (w9.alloc (.cells #[.int .i64 t5.1, .int .i64 t5.2.1] 23)).cell? ⟨w9.heap.size, 1, none⟩ = some (.int .i64 t5.2.1) := by simp [go_sem]
          have hz : (w9.alloc (.cells #[.int .i64 t5.1, .int .i64 t5.2.1] 23)).heap.size = w9.heap.size + 1 := by simp
          generalize (w9.alloc (.cells #[.int .i64 t5.1, .int .i64 t5.2.1] 23)) = wA10 at hB hK hz c1_0_0 c1_0_1 c1_1_0 c1_1_1 c1_2_0 c1_2_1 c5_0_0 c5_0_1 c6_0_0 c6_0_1 c7_0_0 c7_0_1 c9_0_0 c9_0_1 c10_0_0 c10_0_1 ⊢
          clear hK
          have lt_c1_0_0 : w.heap.size < wA10.heap.size := by omega
          have lt_c1_0_1 : w.heap.size < wA10.heap.size := by omega
          have lt_c1_1_0 : w.heap.size + 1 < wA10.heap.size := by omega
          have lt_c1_1_1 : w.heap.size + 1 < wA10.heap.size := by omega
          have lt_c1_2_0 : w.heap.size + 1 + 1 < wA10.heap.size := by omega
          have lt_c1_2_1 : w.heap.size + 1 + 1 < wA10.heap.size := by omega
          have lt_c5_0_0 : w4.heap.size < wA10.heap.size := by omega
          have lt_c5_0_1 : w4.heap.size < wA10.heap.size := by omega
          have lt_c6_0_0 : w5.heap.size < wA10.heap.size := by omega
          have lt_c6_0_1 : w5.heap.size < wA10.heap.size := by omega
          have lt_c7_0_0 : w6.heap.size < wA10.heap.size := by omega
          have lt_c7_0_1 : w6.heap.size < wA10.heap.size := by omega
          have lt_c9_0_0 : w8.heap.size < wA10.heap.size := by omega
          have lt_c9_0_1 : w8.heap.size < wA10.heap.size := by omega
          have lt_c10_0_0 : w9.heap.size < wA10.heap.size := by omega
          have lt_c10_0_1 : w9.heap.size < wA10.heap.size := by omega
          clear hP HB
          have HB := Lib.hid hB
          clear hB hz
          go_meet
          exact ⟨HB.out, c1_0_0, c1_0_1, c1_1_0, c1_1_1, c1_2_0, c1_2_1, c5_0_0, c5_0_1, c6_0_0, c6_0_1, c7_0_0, c7_0_1, lt_c1_0_0, lt_c1_1_0, lt_c1_2_0, lt_c5_0_0, lt_c6_0_0, lt_c7_0_0⟩
      all_goals
        go_wp2_with fail
        go_meet
        exact ⟨HB.out, c1_0_0, c1_0_1, c1_1_0, c1_1_1, c1_2_0, c1_2_1, c5_0_0, c5_0_1, c6_0_0, c6_0_1, c7_0_0, c7_0_1, lt_c1_0_0, lt_c1_1_0, lt_c1_2_0, lt_c5_0_0, lt_c6_0_0, lt_c7_0_0⟩
    obtain ⟨hB, c1_0_0, c1_0_1, c1_1_0, c1_1_1, c1_2_0, c1_2_1, c5_0_0, c5_0_1, c6_0_0, c6_0_1, c7_0_0, c7_0_1, lt_c1_0_0, lt_c1_1_0, lt_c1_2_0, lt_c5_0_0, lt_c6_0_0, lt_c7_0_0⟩ := hcut
    generalize wc = wc17 at *
    have lt_c1_0_1 := lt_c1_0_0
    have lt_c1_1_1 := lt_c1_1_0
    have lt_c1_2_1 := lt_c1_2_0
    have lt_c5_0_1 := lt_c5_0_0
    have lt_c6_0_1 := lt_c6_0_0
    have lt_c7_0_1 := lt_c7_0_0
    clear HB
    have HB := Lib.hid hB
    clear hB
    as_aux_lemma =>
      go_wp2_with fail
      refine (K6.out _).mono ?_
      rintro e w18 ⟨rfl, hb⟩
      have c1_0_0 := (hb.cell (p := ⟨w.heap.size, 0, none⟩) lt_c1_0_0).trans c1_0_0
      have c1_0_1 := (hb.cell (p := ⟨w.heap.size, 1, none⟩) lt_c1_0_1).trans c1_0_1
      have c1_1_0 := (hb.cell (p := ⟨w.heap.size + 1, 0, none⟩) lt_c1_1_0).trans c1_1_0
      have c1_1_1 := (hb.cell (p := ⟨w.heap.size + 1, 1, none⟩) lt_c1_1_1).trans c1_1_1
      have c1_2_0 := (hb.cell (p := ⟨w.heap.size + 1 + 1, 0, none⟩) lt_c1_2_0).trans c1_2_0
      have c1_2_1 := (hb.cell (p := ⟨w.heap.size + 1 + 1, 1, none⟩) lt_c1_2_1).trans c1_2_1
      have c5_0_0 := (hb.cell (p := ⟨w4.heap.size, 0, none⟩) lt_c5_0_0).trans c5_0_0
      have c5_0_1 := (hb.cell (p := ⟨w4.heap.size, 1, none⟩) lt_c5_0_1).trans c5_0_1
      have c6_0_0 := (hb.cell (p := ⟨w5.heap.size, 0, none⟩) lt_c6_0_0).trans c6_0_0
      have c6_0_1 := (hb.cell (p := ⟨w5.heap.size, 1, none⟩) lt_c6_0_1).trans c6_0_1
      have c7_0_0 := (hb.cell (p := ⟨w6.heap.size, 0, none⟩) lt_c7_0_0).trans c7_0_0
      have c7_0_1 := (hb.cell (p := ⟨w6.heap.size, 1, none⟩) lt_c7_0_1).trans c7_0_1
      have hz := bsize hb
      try simp at hz
      have lt_c1_0_0 : w.heap.size < w18.heap.size := by omega
      have lt_c1_0_1 : w.heap.size < w18.heap.size := by omega
      have lt_c1_1_0 : w.heap.size + 1 < w18.heap.size := by omega
      have lt_c1_1_1 : w.heap.size + 1 < w18.heap.size := by omega
      have lt_c1_2_0 : w.heap.size + 1 + 1 < w18.heap.size := by omega
      have lt_c1_2_1 : w.heap.size + 1 + 1 < w18.heap.size := by omega
      have lt_c5_0_0 : w4.heap.size < w18.heap.size := by omega
      have lt_c5_0_1 : w4.heap.size < w18.heap.size := by omega
      have lt_c6_0_0 : w5.heap.size < w18.heap.size := by omega
      have lt_c6_0_1 : w5.heap.size < w18.heap.size := by omega
      have lt_c7_0_0 : w6.heap.size < w18.heap.size := by omega
      have lt_c7_0_1 : w6.heap.size < w18.heap.size := by omega
      have hB := HB.out.trans (hb.mono HB.out.size)
      clear HB
      have HB := Lib.hid hB
      clear hB
      clear hb hz
      go_upto_region 14 with fail
      have hP := HB.out
      have hK : Below w18.heap.size w18 (w18.alloc (.cells #[.int .i64 u.1, .int .i64 u.2.1] 23)) := (by repeat (first | with_reducible exact Below.refl _ _ | (with_reducible refine Below.setCell ?_ (by first | exact Nat.le_refl _ | omega | (simp; done) | (simp; omega)) _) | (with_reducible refine Below.alloc ?_ (by first | exact Nat.le_refl _ | omega | (simp; done) | (simp; omega)) _) | with_reducible refine Below.drew ?_ | with_reducible refine bel_drewN ?_ _ | (with_reducible refine bel_by (by with_reducible assumption) (by first | exact Nat.le_refl _ | omega | (simp; done) | (simp; omega)) ?_)))
      have hB : Below w.heap.size w (w18.alloc (.cells #[.int .i64 u.1, .int .i64 u.2.1] 23)) := hP.trans (hK.mono hP.size)
      have c1_0_0 : (w18.alloc (.cells #[.int .i64 u.1, .int .i64 u.2.1] 23)).cell? ⟨w.heap.size, 0, none⟩ = some (.int .i64 an) := (hK.cell (p := ⟨w.heap.size, 0, none⟩) lt_c1_0_0).trans c1_0_0
      have c1_0_1 : (w18.alloc (.cells #[.int .i64 u.1, .int .i64 u.2.1] 23)).cell? ⟨w.heap.size, 1, none⟩ = some (.int .i64 ad) := (hK.cell (p := ⟨w.heap.size, 1, none⟩) lt_c1_0_1).trans c1_0_1
      have c1_1_0 : (w18.alloc (.cells #[.int .i64 u.1, .int .i64 u.2.1] 23)).cell? ⟨w.heap.size + 1, 0, none⟩ = some (.int .i64 bn) := (hK.cell (p := ⟨w.heap.size + 1, 0, none⟩) lt_c1_1_0).trans c1_1_0
      have c1_1_1 : (w18.alloc (.cells #[.int .i64 u.1, .int .i64 u.2.1] 23)).cell? ⟨w.heap.size + 1, 1, none⟩ = some (.int .i64 bd) := (hK.cell (p := ⟨w.heap.size + 1, 1, none⟩) lt_c1_1_1).trans c1_1_1
      have c1_2_0 : (w18.alloc (.cells #[.int .i64 u.1, .int .i64 u.2.1] 23)).cell? ⟨w.heap.size + 1 + 1, 0, none⟩ = some (.int .i64 cn) := (hK.cell (p := ⟨w.heap.size + 1 + 1, 0, none⟩) lt_c1_2_0).trans c1_2_0
      have c1_2_1 : (w18.alloc (.cells #[.int .i64 u.1, .int .i64 u.2.1] 23)).cell? ⟨w.heap.size + 1 + 1, 1, none⟩ = some (.int .i64 cd) := (hK.cell (p := ⟨w.heap.size + 1 + 1, 1, none⟩) lt_c1_2_1).trans c1_2_1
      have c5_0_0 : (w18.alloc (.cells #[.int .i64 u.1, .int .i64 u.2.1] 23)).cell? ⟨w4.heap.size, 0, none⟩ = some (.int .i64 t1.1) := (hK.cell (p := ⟨w4.heap.size, 0, none⟩) lt_c5_0_0).trans c5_0_0
      have c5_0_1 : (w18.alloc (.cells #[.int .i64 u.1, .int .i64 u.2.1] 23)).cell? ⟨w4.heap.size, 1, none⟩ = some (.int .i64 t1.2.1) := (hK.cell (p := ⟨w4.heap.size, 1, none⟩) lt_c5_0_1).trans c5_0_1
      have c6_0_0 : (w18.alloc (.cells #[.int .i64 u.1, .int .i64 u.2.1] 23)).cell? ⟨w5.heap.size, 0, none⟩ = some (.int .i64 t1.1) := (hK.cell (p := ⟨w5.heap.size, 0, none⟩) lt_c6_0_0).trans c6_0_0
      have c6_0_1 : (w18.alloc (.cells #[.int .i64 u.1, .int .i64 u.2.1] 23)).cell? ⟨w5.heap.size, 1, none⟩ = some (.int .i64 t1.2.1) := (hK.cell (p := ⟨w5.heap.size, 1, none⟩) lt_c6_0_1).trans c6_0_1
      have c7_0_0 : (w18.alloc (.cells #[.int .i64 u.1, .int .i64 u.2.1] 23)).cell? ⟨w6.heap.size, 0, none⟩ = some (.int .i64 t3.1) := (hK.cell (p := ⟨w6.heap.size, 0, none⟩) lt_c7_0_0).trans c7_0_0
      have c7_0_1 : (w18.alloc (.cells #[.int .i64 u.1, .int .i64 u.2.1] 23)).cell? ⟨w6.heap.size, 1, none⟩ = some (.int .i64 t3.2.1) := (hK.cell (p := ⟨w6.heap.size, 1, none⟩) lt_c7_0_1).trans c7_0_1
      have c19_0_0 : (w18.alloc (.cells #[.int .i64 u.1, .int .i64 u.2.1] 23)).cell? ⟨w18.heap.size, 0, none⟩ = some (.int .i64 u.1) := by simp [go_sem]
      have c19_0_1 : (w18.alloc (.cells #[.int .i64 u.1, .int .i64 u.2.1] 23)).cell? ⟨w18.heap.size, 1, none⟩ = some (.int .i64 u.2.1) := by simp [go_sem]
      have hz : (w18.alloc (.cells #[.int .i64 u.1, .int .i64 u.2.1] 23)).heap.size = w18.heap.size + 1 := by simp
      generalize (w18.alloc (.cells #[.int .i64 u.1, .int .i64 u.2.1] 23)) = wA19 at hB hK hz c1_0_0 c1_0_1 c1_1_0 c1_1_1 c1_2_0 c1_2_1 c5_0_0 c5_0_1 c6_0_0 c6_0_1 c7_0_0 c7_0_1 c19_0_0 c19_0_1 ⊢
      clear hK
      have lt_c1_0_0 : w.heap.size < wA19.heap.size := by omega
      have lt_c1_0_1 : w.heap.size < wA19.heap.size := by omega
      have lt_c1_1_0 : w.heap.size + 1 < wA19.heap.size := by omega
      have lt_c1_1_1 : w.heap.size + 1 < wA19.heap.size := by omega
      have lt_c1_2_0 : w.heap.size + 1 + 1 < wA19.heap.size := by omega
      have lt_c1_2_1 : w.heap.size + 1 + 1 < wA19.heap.size := by omega
      have lt_c5_0_0 : w4.heap.size < wA19.heap.size := by omega
      have lt_c5_0_1 : w4.heap.size < wA19.heap.size := by omega
      have lt_c6_0_0 : w5.heap.size < wA19.heap.size := by omega
      have lt_c6_0_1 : w5.heap.size < wA19.heap.size := by omega
      have lt_c7_0_0 : w6.heap.size < wA19.heap.size := by omega
      have lt_c7_0_1 : w6.heap.size < wA19.heap.size := by omega
      have lt_c19_0_0 : w18.heap.size < wA19.heap.size := by omega
      have lt_c19_0_1 : w18.heap.size < wA19.heap.size := by omega
      clear hP HB
      have HB := Lib.hid hB
      clear hB hz
      go_cut [113] (fun s113 wx => s113 = .bool false ∧ wA19 = wx)
      case first =>
        cases h1 : (t1.2.2 == 0)
        · have h1' : (t1.2.2 != 0) = true := by simp [bne, h1]
          go_wp2_with fail
          go_meet
          exact ⟨rfl, rfl⟩
        · have E := K6'.out (by simpa using h1)
          have e1 : u.1 = an := by rw [E]
          have e2 : u.2.1 = ad := by rw [E]
          have e3 : u.2.2 = 0 := by rw [E]
          clear E
          go_wp2_with fail
          go_meet
          exact ⟨rfl, rfl⟩
      obtain ⟨rfl, rfl⟩ := hcut
      as_aux_lemma =>
        go_wp2_with fail
        refine (K7.out _).mono ?_
        rintro e w20 ⟨rfl, hb⟩
        have c1_0_0 := (hb.cell (p := ⟨w.heap.size, 0, none⟩) lt_c1_0_0).trans c1_0_0
        have c1_0_1 := (hb.cell (p := ⟨w.heap.size, 1, none⟩) lt_c1_0_1).trans c1_0_1
        have c1_1_0 := (hb.cell (p := ⟨w.heap.size + 1, 0, none⟩) lt_c1_1_0).trans c1_1_0
        have c1_1_1 := (hb.cell (p := ⟨w.heap.size + 1, 1, none⟩) lt_c1_1_1).trans c1_1_1
        have c1_2_0 := (hb.cell (p := ⟨w.heap.size + 1 + 1, 0, none⟩) lt_c1_2_0).trans c1_2_0
        have c1_2_1 := (hb.cell (p := ⟨w.heap.size + 1 + 1, 1, none⟩) lt_c1_2_1).trans c1_2_1
        have c5_0_0 := (hb.cell (p := ⟨w4.heap.size, 0, none⟩) lt_c5_0_0).trans c5_0_0
        have c5_0_1 := (hb.cell (p := ⟨w4.heap.size, 1, none⟩) lt_c5_0_1).trans c5_0_1
        have c6_0_0 := (hb.cell (p := ⟨w5.heap.size, 0, none⟩) lt_c6_0_0).trans c6_0_0
        have c6_0_1 := (hb.cell (p := ⟨w5.heap.size, 1, none⟩) lt_c6_0_1).trans c6_0_1
        have c7_0_0 := (hb.cell (p := ⟨w6.heap.size, 0, none⟩) lt_c7_0_0).trans c7_0_0
        have c7_0_1 := (hb.cell (p := ⟨w6.heap.size, 1, none⟩) lt_c7_0_1).trans c7_0_1
        have c19_0_0 := (hb.cell (p := ⟨w18.heap.size, 0, none⟩) lt_c19_0_0).trans c19_0_0
        have c19_0_1 := (hb.cell (p := ⟨w18.heap.size, 1, none⟩) lt_c19_0_1).trans c19_0_1
        have hz := bsize hb
        try simp at hz
        have lt_c1_0_0 : w.heap.size < w20.heap.size := by omega
        have lt_c1_0_1 : w.heap.size < w20.heap.size := by omega
        have lt_c1_1_0 : w.heap.size + 1 < w20.heap.size := by omega
        have lt_c1_1_1 : w.heap.size + 1 < w20.heap.size := by omega
        have lt_c1_2_0 : w.heap.size + 1 + 1 < w20.heap.size := by omega
        have lt_c1_2_1 : w.heap.size + 1 + 1 < w20.heap.size := by omega
        have lt_c5_0_0 : w4.heap.size < w20.heap.size := by omega
        have lt_c5_0_1 : w4.heap.size < w20.heap.size := by omega
        have lt_c6_0_0 : w5.heap.size < w20.heap.size := by omega
        have lt_c6_0_1 : w5.heap.size < w20.heap.size := by omega
        have lt_c7_0_0 : w6.heap.size < w20.heap.size := by omega
        have lt_c7_0_1 : w6.heap.size < w20.heap.size := by omega
        have lt_c19_0_0 : w18.heap.size < w20.heap.size := by omega
        have lt_c19_0_1 : w18.heap.size < w20.heap.size := by omega
        have hB := HB.out.trans (hb.mono HB.out.size)
        clear HB
        have HB := Lib.hid hB
        clear hB
        clear hb hz
        go_wp2_with fail
        have hP := HB.out
        have hK : Below w20.heap.size w20 (w20.alloc (.cells #[.int .i64 p.1, .int .i64 p.2.1] 23)) := (by repeat (first | with_reducible exact Below.refl _ _ | (with_reducible refine Below.setCell ?_ (by first | exact Nat.le_refl _ | omega | (simp; done) | (simp; omega)) _) | (with_reducible refine Below.alloc ?_ (by first | exact Nat.le_refl _ | omega | (simp; done) | (simp; omega)) _) | with_reducible refine Below.drew ?_ | with_reducible refine bel_drewN ?_ _ | (with_reducible refine bel_by (by with_reducible assumption) (by first | exact Nat.le_refl _ | omega | (simp; done) | (simp; omega)) ?_)))
        have hB : Below w.heap.size w (w20.alloc (.cells #[.int .i64 p.1, .int .i64 p.2.1] 23)) := hP.trans (hK.mono hP.size)
        have c1_0_0 : (w20.alloc (.cells #[.int .i64 p.1, .int .i64 p.2.1] 23)).cell? ⟨w.heap.size, 0, none⟩ = some (.int .i64 an) := (hK.cell (p := ⟨w.heap.size, 0, none⟩) lt_c1_0_0).trans c1_0_0
        have c1_0_1 : (w20.alloc (.cells #[.int .i64 p.1, .int .i64 p.2.1] 23)).cell? ⟨w.heap.size, 1, none⟩ = some (.int .i64 ad) := (hK.cell (p := ⟨w.heap.size, 1, none⟩) lt_c1_0_1).trans c1_0_1
        have c1_1_0 : (w20.alloc (.cells #[.int .i64 p.1, .int .i64 p.2.1] 23)).cell? ⟨w.heap.size + 1, 0, none⟩ = some (.int .i64 bn) := (hK.cell (p := ⟨w.heap.size + 1, 0, none⟩) lt_c1_1_0).trans c1_1_0
        have c1_1_1 : (w20.alloc (.cells #[.int .i64 p.1, .int .i64 p.2.1] 23)).cell? ⟨w.heap.size + 1, 1, none⟩ = some (.int .i64 bd) := (hK.cell (p := ⟨w.heap.size + 1, 1, none⟩) lt_c1_1_1).trans c1_1_1
        have c1_2_0 : (w20.alloc (.cells #[.int .i64 p.1, .int .i64 p.2.1] 23)).cell? ⟨w.heap.size + 1 + 1, 0, none⟩ = some (.int .i64 cn) := (hK.cell (p := ⟨w.heap.size + 1 + 1, 0, none⟩) lt_c1_2_0).trans c1_2_0
        have c1_2_1 : (w20.alloc (.cells #[.int .i64 p.1, .int .i64 p.2.1] 23)).cell? ⟨w.heap.size + 1 + 1, 1, none⟩ = some (.int .i64 cd) := (hK.cell (p := ⟨w.heap.size + 1 + 1, 1, none⟩) lt_c1_2_1).trans c1_2_1
        have c5_0_0 : (w20.alloc (.cells #[.int .i64 p.1, .int .i64 p.2.1] 23)).cell? ⟨w4.heap.size, 0, none⟩ = some (.int .i64 t1.1) := (hK.cell (p := ⟨w4.heap.size, 0, none⟩) lt_c5_0_0).trans c5_0_0
        have c5_0_1 : (w20.alloc (.cells #[.int .i64 p.1, .int .i64 p.2.1] 23)).cell? ⟨w4.heap.size, 1, none⟩ = some (.int .i64 t1.2.1) := (hK.cell (p := ⟨w4.heap.size, 1, none⟩) lt_c5_0_1).trans c5_0_1
        have c6_0_0 : (w20.alloc (.cells #[.int .i64 p.1, .int .i64 p.2.1] 23)).cell? ⟨w5.heap.size, 0, none⟩ = some (.int .i64 t1.1) := (hK.cell (p := ⟨w5.heap.size, 0, none⟩) lt_c6_0_0).trans c6_0_0
        have c6_0_1 : (w20.alloc (.cells #[.int .i64 p.1, .int .i64 p.2.1] 23)).cell? ⟨w5.heap.size, 1, none⟩ = some (.int .i64 t1.2.1) := (hK.cell (p := ⟨w5.heap.size, 1, none⟩) lt_c6_0_1).trans c6_0_1
        have c7_0_0 : (w20.alloc (.cells #[.int .i64 p.1, .int .i64 p.2.1] 23)).cell? ⟨w6.heap.size, 0, none⟩ = some (.int .i64 t3.1) := (hK.cell (p := ⟨w6.heap.size, 0, none⟩) lt_c7_0_0).trans c7_0_0
        have c7_0_1 : (w20.alloc (.cells #[.int .i64 p.1, .int .i64 p.2.1] 23)).cell? ⟨w6.heap.size, 1, none⟩ = some (.int .i64 t3.2.1) := (hK.cell (p := ⟨w6.heap.size, 1, none⟩) lt_c7_0_1).trans c7_0_1
        have c19_0_0 : (w20.alloc (.cells #[.int .i64 p.1, .int .i64 p.2.1] 23)).cell? ⟨w18.heap.size, 0, none⟩ = some (.int .i64 u.1) := (hK.cell (p := ⟨w18.heap.size, 0, none⟩) lt_c19_0_0).trans c19_0_0
        have c19_0_1 : (w20.alloc (.cells #[.int .i64 p.1, .int .i64 p.2.1] 23)).cell? ⟨w18.heap.size, 1, none⟩ = some (.int .i64 u.2.1) := (hK.cell (p := ⟨w18.heap.size, 1, none⟩) lt_c19_0_1).trans c19_0_1
        have c21_0_0 : (w20.alloc (.cells #[.int .i64 p.1, .int .i64 p.2.1] 23)).cell? ⟨w20.heap.size, 0, none⟩ = some (.int .i64 p.1) := by simp [go_sem]
        have c21_0_1 : (w20.alloc (.cells #[.int .i64 p.1, .int .i64 p.2.1] 23)).cell? ⟨w20.heap.size, 1, none⟩ = some (.int .i64 p.2.1) := by simp [go_sem]
        have hz : (w20.alloc (.cells #[.int .i64 p.1, .int .i64 p.2.1] 23)).heap.size = w20.heap.size + 1 := by simp
        generalize (w20.alloc (.cells #[.int .i64 p.1, .int .i64 p.2.1] 23)) = wA21 at hB hK hz c1_0_0 c1_0_1 c1_1_0 c1_1_1 c1_2_0 c1_2_1 c5_0_0 c5_0_1 c6_0_0 c6_0_1 c7_0_0 c7_0_1 c19_0_0 c19_0_1 c21_0_0 c21_0_1 ⊢
        clear hK
        have lt_c1_0_0 : w.heap.size < wA21.heap.size := by omega
        have lt_c1_0_1 : w.heap.size < wA21.heap.size := by omega
        have lt_c1_1_0 : w.heap.size + 1 < wA21.heap.size := by omega
        have lt_c1_1_1 : w.heap.size + 1 < wA21.heap.size := by omega
        have lt_c1_2_0 : w.heap.size + 1 + 1 < wA21.heap.size := by omega
        have lt_c1_2_1 : w.heap.size + 1 + 1 < wA21.heap.size := by omega
        have lt_c5_0_0 : w4.heap.size < wA21.heap.size := by omega
        have lt_c5_0_1 : w4.heap.size < wA21.heap.size := by omega
        have lt_c6_0_0 : w5.heap.size < wA21.heap.size := by omega
        have lt_c6_0_1 : w5.heap.size < wA21.heap.size := by omega
        have lt_c7_0_0 : w6.heap.size < wA21.heap.size := by omega
        have lt_c7_0_1 : w6.heap.size < wA21.heap.size := by omega
        have lt_c19_0_0 : w18.heap.size < wA21.heap.size := by omega
        have lt_c19_0_1 : w18.heap.size < wA21.heap.size := by omega
        have lt_c21_0_0 : w20.heap.size < wA21.heap.size := by omega
        have lt_c21_0_1 : w20.heap.size < wA21.heap.size := by omega
        clear hP HB
        have HB := Lib.hid hB
        clear hB hz
        refine (K8.out _).mono ?_
        rintro e w21 ⟨rfl, hb⟩
        have c1_0_0 := (hb.cell (p := ⟨w.heap.size, 0, none⟩) lt_c1_0_0).trans c1_0_0
        have c1_0_1 := (hb.cell (p := ⟨w.heap.size, 1, none⟩) lt_c1_0_1).trans c1_0_1
        have c1_1_0 := (hb.cell (p := ⟨w.heap.size + 1, 0, none⟩) lt_c1_1_0).trans c1_1_0
        have c1_1_1 := (hb.cell (p := ⟨w.heap.size + 1, 1, none⟩) lt_c1_1_1).trans c1_1_1
        have c1_2_0 := (hb.cell (p := ⟨w.heap.size + 1 + 1, 0, none⟩) lt_c1_2_0).trans c1_2_0
        have c1_2_1 := (hb.cell (p := ⟨w.heap.size + 1 + 1, 1, none⟩) lt_c1_2_1).trans c1_2_1
        have c5_0_0 := (hb.cell (p := ⟨w4.heap.size, 0, none⟩) lt_c5_0_0).trans c5_0_0
        have c5_0_1 := (hb.cell (p := ⟨w4.heap.size, 1, none⟩) lt_c5_0_1).trans c5_0_1
        have c6_0_0 := (hb.cell (p := ⟨w5.heap.size, 0, none⟩) lt_c6_0_0).trans c6_0_0
        have c6_0_1 := (hb.cell (p := ⟨w5.heap.size, 1, none⟩) lt_c6_0_1).trans c6_0_1
        have c7_0_0 := (hb.cell (p := ⟨w6.heap.size, 0, none⟩) lt_c7_0_0).trans c7_0_0
        have c7_0_1 := (hb.cell (p := ⟨w6.heap.size, 1, none⟩) lt_c7_0_1).trans c7_0_1
        have c19_0_0 := (hb.cell (p := ⟨w18.heap.size, 0, none⟩) lt_c19_0_0).trans c19_0_0
        have c19_0_1 := (hb.cell (p := ⟨w18.heap.size, 1, none⟩) lt_c19_0_1).trans c19_0_1
        have c21_0_0 := (hb.cell (p := ⟨w20.heap.size, 0, none⟩) lt_c21_0_0).trans c21_0_0
        have c21_0_1 := (hb.cell (p := ⟨w20.heap.size, 1, none⟩) lt_c21_0_1).trans c21_0_1
        have hz := bsize hb
        try simp at hz
        have lt_c1_0_0 : w.heap.size < w21.heap.size := by omega
        have lt_c1_0_1 : w.heap.size < w21.heap.size := by omega
        have lt_c1_1_0 : w.heap.size + 1 < w21.heap.size := by omega
        have lt_c1_1_1 : w.heap.size + 1 < w21.heap.size := by omega
        have lt_c1_2_0 : w.heap.size + 1 + 1 < w21.heap.size := by omega
        have lt_c1_2_1 : w.heap.size + 1 + 1 < w21.heap.size := by omega
        have lt_c5_0_0 : w4.heap.size < w21.heap.size := by omega
        have lt_c5_0_1 : w4.heap.size < w21.heap.size := by omega
        have lt_c6_0_0 : w5.heap.size < w21.heap.size := by omega
        have lt_c6_0_1 : w5.heap.size < w21.heap.size := by omega
        have lt_c7_0_0 : w6.heap.size < w21.heap.size := by omega
        have lt_c7_0_1 : w6.heap.size < w21.heap.size := by omega
        have lt_c19_0_0 : w18.heap.size < w21.heap.size := by omega
        have lt_c19_0_1 : w18.heap.size < w21.heap.size := by omega
        have lt_c21_0_0 : w20.heap.size < w21.heap.size := by omega
        have lt_c21_0_1 : w20.heap.size < w21.heap.size := by omega
        have hB := HB.out.trans (hb.mono HB.out.size)
        clear HB
        have HB := Lib.hid hB
        clear hB
        clear hb hz
        go_wp2_with fail
        have hP := HB.out
        have hK : Below w21.heap.size w21 (w21.alloc (.cells #[.int .i64 p.1, .int .i64 p.2.1] 23)) := (by repeat (first | with_reducible exact Below.refl _ _ | (with_reducible refine Below.setCell ?_ (by first | exact Nat.le_refl _ | omega | (simp; done) | (simp; omega)) _) | (with_reducible refine Below.alloc ?_ (by first | exact Nat.le_refl _ | omega | (simp; done) | (simp; omega)) _) | with_reducible refine Below.drew ?_ | with_reducible refine bel_drewN ?_ _ | (with_reducible refine bel_by (by with_reducible assumption) (by first | exact Nat.le_refl _ | omega | (simp; done) | (simp; omega)) ?_)))
        have hB : Below w.heap.size w (w21.alloc (.cells #[.int .i64 p.1, .int .i64 p.2.1] 23)) := hP.trans (hK.mono hP.size)
        have c1_0_0 : (w21.alloc (.cells #[.int .i64 p.1, .int .i64 p.2.1] 23)).cell? ⟨w.heap.size, 0, none⟩ = some (.int .i64 an) := (hK.cell (p := ⟨w.heap.size, 0, none⟩) lt_c1_0_0).trans c1_0_0
        have c1_0_1 : (w21.alloc (.cells #[.int .i64 p.1, .int .i64 p.2.1] 23)).cell? ⟨w.heap.size, 1, none⟩ = some (.int .i64 ad) := (hK.cell (p := ⟨w.heap.size, 1, none⟩) lt_c1_0_1).trans c1_0_1
        have c1_1_0 : (w21.alloc (.cells #[.int .i64 p.1, .int .i64 p.2.1] 23)).cell? ⟨w.heap.size + 1, 0, none⟩ = some (.int .i64 bn) := (hK.cell (p := ⟨w.heap.size + 1, 0, none⟩) lt_c1_1_0).trans c1_1_0
        have c1_1_1 : (w21.alloc (.cells #[.int .i64 p.1, .int .i64 p.2.1] 23)).cell? ⟨w.heap.size + 1, 1, none⟩ = some (.int .i64 bd) := (hK.cell (p := ⟨w.heap.size + 1, 1, none⟩) lt_c1_1_1).trans c1_1_1
        have c1_2_0 : (w21.alloc (.cells #[.int .i64 p.1, .int .i64 p.2.1] 23)).cell? ⟨w.heap.size + 1 + 1, 0, none⟩ = some (.int .i64 cn) := (hK.cell (p := ⟨w.heap.size + 1 + 1, 0, none⟩) lt_c1_2_0).trans c1_2_0
        have c1_2_1 : (w21.alloc (.cells #[.int .i64 p.1, .int .i64 p.2.1] 23)).cell? ⟨w.heap.size + 1 + 1, 1, none⟩ = some (.int .i64 cd) := (hK.cell (p := ⟨w.heap.size + 1 + 1, 1, none⟩) lt_c1_2_1).trans c1_2_1
        have c5_0_0 : (w21.alloc (.cells #[.int .i64 p.1, .int .i64 p.2.1] 23)).cell? ⟨w4.heap.size, 0, none⟩ = some (.int .i64 t1.1) := (hK.cell (p := ⟨w4.heap.size, 0, none⟩) lt_c5_0_0).trans c5_0_0
        have c5_0_1 : (w21.alloc (.cells #[.int .i64 p.1, .int .i64 p.2.1] 23)).cell? ⟨w4.heap.size, 1, none⟩ = some (.int .i64 t1.2.1) := (hK.cell (p := ⟨w4.heap.size, 1, none⟩) lt_c5_0_1).trans c5_0_1
        have c6_0_0 : (w21.alloc (.cells #[.int .i64 p.1, .int .i64 p.2.1] 23)).cell? ⟨w5.heap.size, 0, none⟩ = some (.int .i64 t1.1) := (hK.cell (p := ⟨w5.heap.size, 0, none⟩) lt_c6_0_0).trans c6_0_0
        have c6_0_1 : (w21.alloc (.cells #[.int .i64 p.1, .int .i64 p.2.1] 23)).cell? ⟨w5.heap.size, 1, none⟩ = some (.int .i64 t1.2.1) := (hK.cell (p := ⟨w5.heap.size, 1, none⟩) lt_c6_0_1).trans c6_0_1
        have c7_0_0 : (w21.alloc (.cells #[.int .i64 p.1, .int .i64 p.2.1] 23)).cell? ⟨w6.heap.size, 0, none⟩ = some (.int .i64 t3.1) := (hK.cell (p := ⟨w6.heap.size, 0, none⟩) lt_c7_0_0).trans c7_0_0
        have c7_0_1 : (w21.alloc (.cells #[.int .i64 p.1, .int .i64 p.2.1] 23)).cell? ⟨w6.heap.size, 1, none⟩ = some (.int .i64 t3.2.1) := (hK.cell (p := ⟨w6.heap.size, 1, none⟩) lt_c7_0_1).trans c7_0_1
        have c19_0_0 : (w21.alloc (.cells #[.int .i64 p.1, .int .i64 p.2.1] 23)).cell? ⟨w18.heap.size, 0, none⟩ = some (.int .i64 u.1) := (hK.cell (p := ⟨w18.heap.size, 0, none⟩) lt_c19_0_0).trans c19_0_0
        have c19_0_1 : (w21.alloc (.cells #[.int .i64 p.1, .int .i64 p.2.1] 23)).cell? ⟨w18.heap.size, 1, none⟩ = some (.int .i64 u.2.1) := (hK.cell (p := ⟨w18.heap.size, 1, none⟩) lt_c19_0_1).trans c19_0_1
        have c21_0_0 : (w21.alloc (.cells #[.int .i64 p.1, .int .i64 p.2.1] 23)).cell? ⟨w20.heap.size, 0, none⟩ = some (.int .i64 p.1) := (hK.cell (p := ⟨w20.heap.size, 0, none⟩) lt_c21_0_0).trans c21_0_0
        have c21_0_1 : (w21.alloc (.cells #[.int .i64 p.1, .int .i64 p.2.1] 23)).cell? ⟨w20.heap.size, 1, none⟩ = some (.int .i64 p.2.1) := (hK.cell (p := ⟨w20.heap.size, 1, none⟩) lt_c21_0_1).trans c21_0_1
        have c22_0_0 : (w21.alloc (.cells #[.int .i64 p.1, .int .i64 p.2.1] 23)).cell? ⟨w21.heap.size, 0, none⟩ = some (.int .i64 p.1) := by simp [go_sem]
        have c22_0_1 : (w21.alloc (.cells #[.int .i64 p.1, .int .i64 p.2.1] 23)).cell? ⟨w21.heap.size, 1, none⟩ = some (.int .i64 p.2.1) := by simp [go_sem]
        have hz : (w21.alloc (.cells #[.int .i64 p.1, .int .i64 p.2.1] 23)).heap.size = w21.heap.size + 1 := by simp
        generalize (w21.alloc (.cells #[.int .i64 p.1, .int .i64 p.2.1] 23)) = wA22 at hB hK hz c1_0_0 c1_0_1 c1_1_0 c1_1_1 c1_2_0 c1_2_1 c5_0_0 c5_0_1 c6_0_0 c6_0_1 c7_0_0 c7_0_1 c19_0_0 c19_0_1 c21_0_0 c21_0_1 c22_0_0 c22_0_1 ⊢
        clear hK
        have lt_c1_0_0 : w.heap.size < wA22.heap.size := by omega
        have lt_c1_0_1 : w.heap.size < wA22.heap.size := by omega
        have lt_c1_1_0 : w.heap.size + 1 < wA22.heap.size := by omega
        have lt_c1_1_1 : w.heap.size + 1 < wA22.heap.size := by omega
        have lt_c1_2_0 : w.heap.size + 1 + 1 < wA22.heap.size := by omega
        have lt_c1_2_1 : w.heap.size + 1 + 1 < wA22.heap.size := by omega
        have lt_c5_0_0 : w4.heap.size < wA22.heap.size := by omega
        have lt_c5_0_1 : w4.heap.size < wA22.heap.size := by omega
        have lt_c6_0_0 : w5.heap.size < wA22.heap.size := by omega
        have lt_c6_0_1 : w5.heap.size < wA22.heap.size := by omega
        have lt_c7_0_0 : w6.heap.size < wA22.heap.size := by omega
        have lt_c7_0_1 : w6.heap.size < wA22.heap.size := by omega
        have lt_c19_0_0 : w18.heap.size < wA22.heap.size := by omega
        have lt_c19_0_1 : w18.heap.size < wA22.heap.size := by omega
        have lt_c21_0_0 : w20.heap.size < wA22.heap.size := by omega
        have lt_c21_0_1 : w20.heap.size < wA22.heap.size := by omega
        have lt_c22_0_0 : w21.heap.size < wA22.heap.size := by omega
        have lt_c22_0_1 : w21.heap.size < wA22.heap.size := by omega
        clear hP HB
        have HB := Lib.hid hB
        clear hB hz
        refine (K9.out _).mono ?_
        rintro e w22 ⟨rfl, hb⟩
        have c1_0_0 := (hb.cell (p := ⟨w.heap.size, 0, none⟩) lt_c1_0_0).trans c1_0_0
        have c1_0_1 := (hb.cell (p := ⟨w.heap.size, 1, none⟩) lt_c1_0_1).trans c1_0_1
        have c1_1_0 := (hb.cell (p := ⟨w.heap.size + 1, 0, none⟩) lt_c1_1_0).trans c1_1_0
        have c1_1_1 := (hb.cell (p := ⟨w.heap.size + 1, 1, none⟩) lt_c1_1_1).trans c1_1_1
        have c1_2_0 := (hb.cell (p := ⟨w.heap.size + 1 + 1, 0, none⟩) lt_c1_2_0).trans c1_2_0
        have c1_2_1 := (hb.cell (p := ⟨w.heap.size + 1 + 1, 1, none⟩) lt_c1_2_1).trans c1_2_1
        have c5_0_0 := (hb.cell (p := ⟨w4.heap.size, 0, none⟩) lt_c5_0_0).trans c5_0_0
        have c5_0_1 := (hb.cell (p := ⟨w4.heap.size, 1, none⟩) lt_c5_0_1).trans c5_0_1
        have c6_0_0 := (hb.cell (p := ⟨w5.heap.size, 0, none⟩) lt_c6_0_0).trans c6_0_0
        have c6_0_1 := (hb.cell (p := ⟨w5.heap.size, 1, none⟩) lt_c6_0_1).trans c6_0_1
        have c7_0_0 := (hb.cell (p := ⟨w6.heap.size, 0, none⟩) lt_c7_0_0).trans c7_0_0
        have c7_0_1 := (hb.cell (p := ⟨w6.heap.size, 1, none⟩) lt_c7_0_1).trans c7_0_1
        have c19_0_0 := (hb.cell (p := ⟨w18.heap.size, 0, none⟩) lt_c19_0_0).trans c19_0_0
        have c19_0_1 := (hb.cell (p := ⟨w18.heap.size, 1, none⟩) lt_c19_0_1).trans c19_0_1
        have c21_0_0 := (hb.cell (p := ⟨w20.heap.size, 0, none⟩) lt_c21_0_0).trans c21_0_0
        have c21_0_1 := (hb.cell (p := ⟨w20.heap.size, 1, none⟩) lt_c21_0_1).trans c21_0_1
        have c22_0_0 := (hb.cell (p := ⟨w21.heap.size, 0, none⟩) lt_c22_0_0).trans c22_0_0
        have c22_0_1 := (hb.cell (p := ⟨w21.heap.size, 1, none⟩) lt_c22_0_1).trans c22_0_1
        have hz := bsize hb
        try simp at hz
        have lt_c1_0_0 : w.heap.size < w22.heap.size := by omega
        have lt_c1_0_1 : w.heap.size < w22.heap.size := by omega
        have lt_c1_1_0 : w.heap.size + 1 < w22.heap.size := by omega
        have lt_c1_1_1 : w.heap.size + 1 < w22.heap.size := by omega
        have lt_c1_2_0 : w.heap.size + 1 + 1 < w22.heap.size := by omega
        have lt_c1_2_1 : w.heap.size + 1 + 1 < w22.heap.size := by omega
        have lt_c5_0_0 : w4.heap.size < w22.heap.size := by omega
        have lt_c5_0_1 : w4.heap.size < w22.heap.size := by omega
        have lt_c6_0_0 : w5.heap.size < w22.heap.size := by omega
        have lt_c6_0_1 : w5.heap.size < w22.heap.size := by omega
        have lt_c7_0_0 : w6.heap.size < w22.heap.size := by omega
        have lt_c7_0_1 : w6.heap.size < w22.heap.size := by omega
        have lt_c19_0_0 : w18.heap.size < w22.heap.size := by omega
        have lt_c19_0_1 : w18.heap.size < w22.heap.size := by omega
        have lt_c21_0_0 : w20.heap.size < w22.heap.size := by omega
        have lt_c21_0_1 : w20.heap.size < w22.heap.size := by omega
        have lt_c22_0_0 : w21.heap.size < w22.heap.size := by omega
        have lt_c22_0_1 : w21.heap.size < w22.heap.size := by omega
        have hB := HB.out.trans (hb.mono HB.out.size)
        clear HB
        have HB := Lib.hid hB
        clear hB
        clear hb hz
        as_aux_lemma =>
          go_wp2_with fail
          have hP := HB.out
          have hK : Below w22.heap.size w22 (w22.alloc (.cells #[.int .i64 r.1, .int .i64 r.2.1] 23)) := (by repeat (first | with_reducible exact Below.refl _ _ | (with_reducible refine Below.setCell ?_ (by first | exact Nat.le_refl _ | omega | (simp; done) | (simp; omega)) _) | (with_reducible refine Below.alloc ?_ (by first | exact Nat.le_refl _ | omega | (simp; done) | (simp; omega)) _) | with_reducible refine Below.drew ?_ | with_reducible refine bel_drewN ?_ _ | (with_reducible refine bel_by (by with_reducible assumption) (by first | exact Nat.le_refl _ | omega | (simp; done) | (simp; omega)) ?_)))
          have hB : Below w.heap.size w (w22.alloc (.cells #[.int .i64 r.1, .int .i64 r.2.1] 23)) := hP.trans (hK.mono hP.size)
          have c1_0_0 : (w22.alloc (.cells #[.int .i64 r.1, .int .i64 r.2.1] 23)).cell? ⟨w.heap.size, 0, none⟩ = some (.int .i64 an) := (hK.cell (p := ⟨w.heap.size, 0, none⟩) lt_c1_0_0).trans c1_0_0
          have c1_0_1 : (w22.alloc (.cells #[.int .i64 r.1, .int .i64 r.2.1] 23)).cell? ⟨w.heap.size, 1, none⟩ = some (.int .i64 ad) := (hK.cell (p := ⟨w.heap.size, 1, none⟩) lt_c1_0_1).trans c1_0_1
          have c1_1_0 : (w22.alloc (.cells #[.int .i64 r.1, .int .i64 r.2.1] 23)).cell? ⟨w.heap.size + 1, 0, none⟩ = some (.int .i64 bn) := (hK.cell (p := ⟨w.heap.size + 1, 0, none⟩) lt_c1_1_0).trans c1_1_0
          have c1_1_1 : (w22.alloc (.cells #[.int .i64 r.1, .int .i64 r.2.1] 23)).cell? ⟨w.heap.size + 1, 1, none⟩ = some (.int .i64 bd) := (hK.cell (p := ⟨w.heap.size + 1, 1, none⟩) lt_c1_1_1).trans c1_1_1
          have c1_2_0 : (w22.alloc (.cells #[.int .i64 r.1, .int .i64 r.2.1] 23)).cell? ⟨w.heap.size + 1 + 1, 0, none⟩ = some (.int .i64 cn) := (hK.cell (p := ⟨w.heap.size + 1 + 1, 0, none⟩) lt_c1_2_0).trans c1_2_0
          have c1_2_1 : (w22.alloc (.cells #[.int .i64 r.1, .int .i64 r.2.1] 23)).cell? ⟨w.heap.size + 1 + 1, 1, none⟩ = some (.int .i64 cd) := (hK.cell (p := ⟨w.heap.size + 1 + 1, 1, none⟩) lt_c1_2_1).trans c1_2_1
          have c5_0_0 : (w22.alloc (.cells #[.int .i64 r.1, .int .i64 r.2.1] 23)).cell? ⟨w4.heap.size, 0, none⟩ = some (.int .i64 t1.1) := (hK.cell (p := ⟨w4.heap.size, 0, none⟩) lt_c5_0_0).trans c5_0_0
          have c5_0_1 : (w22.alloc (.cells #[.int .i64 r.1, .int .i64 r.2.1] 23)).cell? ⟨w4.heap.size, 1, none⟩ = some (.int .i64 t1.2.1) := (hK.cell (p := ⟨w4.heap.size, 1, none⟩) lt_c5_0_1).trans c5_0_1
          have c6_0_0 : (w22.alloc (.cells #[.int .i64 r.1, .int .i64 r.2.1] 23)).cell? ⟨w5.heap.size, 0, none⟩ = some (.int .i64 t1.1) := (hK.cell (p := ⟨w5.heap.size, 0, none⟩) lt_c6_0_0).trans c6_0_0
          have c6_0_1 : (w22.alloc (.cells #[.int .i64 r.1, .int .i64 r.2.1] 23)).cell? ⟨w5.heap.size, 1, none⟩ = some (.int .i64 t1.2.1) := (hK.cell (p := ⟨w5.heap.size, 1, none⟩) lt_c6_0_1).trans c6_0_1
          have c7_0_0 : (w22.alloc (.cells #[.int .i64 r.1, .int .i64 r.2.1] 23)).cell? ⟨w6.heap.size, 0, none⟩ = some (.int .i64 t3.1) := (hK.cell (p := ⟨w6.heap.size, 0, none⟩) lt_c7_0_0).trans c7_0_0
          have c7_0_1 : (w22.alloc (.cells #[.int .i64 r.1, .int .i64 r.2.1] 23)).cell? ⟨w6.heap.size, 1, none⟩ = some (.int .i64 t3.2.1) := (hK.cell (p := ⟨w6.heap.size, 1, none⟩) lt_c7_0_1).trans c7_0_1
          have c19_0_0 : (w22.alloc (.cells #[.int .i64 r.1, .int .i64 r.2.1] 23)).cell? ⟨w18.heap.size, 0, none⟩ = some (.int .i64 u.1) := (hK.cell (p := ⟨w18.heap.size, 0, none⟩) lt_c19_0_0).trans c19_0_0
          have c19_0_1 : (w22.alloc (.cells #[.int .i64 r.1, .int .i64 r.2.1] 23)).cell? ⟨w18.heap.size, 1, none⟩ = some (.int .i64 u.2.1) := (hK.cell (p := ⟨w18.heap.size, 1, none⟩) lt_c19_0_1).trans c19_0_1
          have c21_0_0 : (w22.alloc (.cells #[.int .i64 r.1, .int .i64 r.2.1] 23)).cell? ⟨w20.heap.size, 0, none⟩ = some (.int .i64 p.1) := (hK.cell (p := ⟨w20.heap.size, 0, none⟩) lt_c21_0_0).trans c21_0_0
          have c21_0_1 : (w22.alloc (.cells #[.int .i64 r.1, .int .i64 r.2.1] 23)).cell? ⟨w20.heap.size, 1, none⟩ = some (.int .i64 p.2.1) := (hK.cell (p := ⟨w20.heap.size, 1, none⟩) lt_c21_0_1).trans c21_0_1
          have c22_0_0 : (w22.alloc (.cells #[.int .i64 r.1, .int .i64 r.2.1] 23)).cell? ⟨w21.heap.size, 0, none⟩ = some (.int .i64 p.1) := (hK.cell (p := ⟨w21.heap.size, 0, none⟩) lt_c22_0_0).trans c22_0_0
          have c22_0_1 : (w22.alloc (.cells #[.int .i64 r.1, .int .i64 r.2.1] 23)).cell? ⟨w21.heap.size, 1, none⟩ = some (.int .i64 p.2.1) := (hK.cell (p := ⟨w21.heap.size, 1, none⟩) lt_c22_0_1).trans c22_0_1
          have c23_0_0 : (w22.alloc (.cells #[.int .i64 r.1, .int .i64 r.2.1] 23)).cell? ⟨w22.heap.size, 0, none⟩ = some (.int .i64 r.1) := by simp [go_sem]
          have c23_0_1 : (w22.alloc (.cells #[.int .i64 r.1, .int .i64 r.2.1] 23)).cell? ⟨w22.heap.size, 1, none⟩ = some (.int .i64 r.2.1) := by simp [go_sem]
          have hz : (w22.alloc (.cells #[.int .i64 r.1, .int .i64 r.2.1] 23)).heap.size = w22.heap.size + 1 := by simp
          generalize (w22.alloc (.cells #[.int .i64 r.1, .int .i64 r.2.1] 23)) = wA23 at hB hK hz c1_0_0 c1_0_1 c1_1_0 c1_1_1 c1_2_0 c1_2_1 c5_0_0 c5_0_1 c6_0_0 c6_0_1 c7_0_0 c7_0_1 c19_0_0 c19_0_1 c21_0_0 c21_0_1 c22_0_0 c22_0_1 c23_0_0 c23_0_1 ⊢
          clear hK
          have lt_c1_0_0 : w.heap.size < wA23.heap.size := by omega
          have lt_c1_0_1 : w.heap.size < wA23.heap.size := by omega
          have lt_c1_1_0 : w.heap.size + 1 < wA23.heap.size := by omega
          have lt_c1_1_1 : w.heap.size + 1 < wA23.heap.size := by omega
          have lt_c1_2_0 : w.heap.size + 1 + 1 < wA23.heap.size := by omega
          have lt_c1_2_1 : w.heap.size + 1 + 1 < wA23.heap.size := by omega
          have lt_c5_0_0 : w4.heap.size < wA23.heap.size := by omega
          have lt_c5_0_1 : w4.heap.size < wA23.heap.size := by omega
          have lt_c6_0_0 : w5.heap.size < wA23.heap.size := by omega
          have lt_c6_0_1 : w5.heap.size < wA23.heap.size := by omega
          have lt_c7_0_0 : w6.heap.size < wA23.heap.size := by omega
          have lt_c7_0_1 : w6.heap.size < wA23.heap.size := by omega
          have lt_c19_0_0 : w18.heap.size < wA23.heap.size := by omega
          have lt_c19_0_1 : w18.heap.size < wA23.heap.size := by omega
          have lt_c21_0_0 : w20.heap.size < wA23.heap.size := by omega
          have lt_c21_0_1 : w20.heap.size < wA23.heap.size := by omega
          have lt_c22_0_0 : w21.heap.size < wA23.heap.size := by omega
          have lt_c22_0_1 : w21.heap.size < wA23.heap.size := by omega
          have lt_c23_0_0 : w22.heap.size < wA23.heap.size := by omega
          have lt_c23_0_1 : w22.heap.size < wA23.heap.size := by omega
          clear hP HB
          have HB := Lib.hid hB
          clear hB hz
          refine (K10.out _).mono ?_
          rintro e w23 ⟨rfl, hb⟩
          have c1_0_0 := (hb.cell (p := ⟨w.heap.size, 0, none⟩) lt_c1_0_0).trans c1_0_0
          have c1_0_1 := (hb.cell (p := ⟨w.heap.size, 1, none⟩) lt_c1_0_1).trans c1_0_1
          have c1_1_0 := (hb.cell (p := ⟨w.heap.size + 1, 0, none⟩) lt_c1_1_0).trans c1_1_0
          have c1_1_1 := (hb.cell (p := ⟨w.heap.size + 1, 1, none⟩) lt_c1_1_1).trans c1_1_1
          have c1_2_0 := (hb.cell (p := ⟨w.heap.size + 1 + 1, 0, none⟩) lt_c1_2_0).trans c1_2_0
          have c1_2_1 := (hb.cell (p := ⟨w.heap.size + 1 + 1, 1, none⟩) lt_c1_2_1).trans c1_2_1
          have c5_0_0 := (hb.cell (p := ⟨w4.heap.size, 0, none⟩) lt_c5_0_0).trans c5_0_0
          have c5_0_1 := (hb.cell (p := ⟨w4.heap.size, 1, none⟩) lt_c5_0_1).trans c5_0_1
          have c6_0_0 := (hb.cell (p := ⟨w5.heap.size, 0, none⟩) lt_c6_0_0).trans c6_0_0
          have c6_0_1 := (hb.cell (p := ⟨w5.heap.size, 1, none⟩) lt_c6_0_1).trans c6_0_1
          have c7_0_0 := (hb.cell (p := ⟨w6.heap.size, 0, none⟩) lt_c7_0_0).trans c7_0_0
          have c7_0_1 := (hb.cell (p := ⟨w6.heap.size, 1, none⟩) lt_c7_0_1).trans c7_0_1
          have c19_0_0 := (hb.cell (p := ⟨w18.heap.size, 0, none⟩) lt_c19_0_0).trans c19_0_0
          have c19_0_1 := (hb.cell (p := ⟨w18.heap.size, 1, none⟩) lt_c19_0_1).trans c19_0_1
          have c21_0_0 := (hb.cell (p := ⟨w20.heap.size, 0, none⟩) lt_c21_0_0).trans c21_0_0
          have c21_0_1 := (hb.cell (p := ⟨w20.heap.size, 1, none⟩) lt_c21_0_1).trans c21_0_1
          have c22_0_0 := (hb.cell (p := ⟨w21.heap.size, 0, none⟩) lt_c22_0_0).trans c22_0_0
          have c22_0_1 := (hb.cell (p := ⟨w21.heap.size, 1, none⟩) lt_c22_0_1).trans c22_0_1
          have c23_0_0 := (hb.cell (p := ⟨w22.heap.size, 0, none⟩) lt_c23_0_0).trans c23_0_0
          have c23_0_1 := (hb.cell (p := ⟨w22.heap.size, 1, none⟩) lt_c23_0_1).trans c23_0_1
          have hz := bsize hb
          try simp at hz
          have lt_c1_0_0 : w.heap.size < w23.heap.size := by omega
          have lt_c1_0_1 : w.heap.size < w23.heap.size := by omega
          have lt_c1_1_0 : w.heap.size + 1 < w23.heap.size := by omega
          have lt_c1_1_1 : w.heap.size + 1 < w23.heap.size := by omega
          have lt_c1_2_0 : w.heap.size + 1 + 1 < w23.heap.size := by omega
          have lt_c1_2_1 : w.heap.size + 1 + 1 < w23.heap.size := by omega
          have lt_c5_0_0 : w4.heap.size < w23.heap.size := by omega
          have lt_c5_0_1 : w4.heap.size < w23.heap.size := by omega
          have lt_c6_0_0 : w5.heap.size < w23.heap.size := by omega
          have lt_c6_0_1 : w5.heap.size < w23.heap.size := by omega
          have lt_c7_0_0 : w6.heap.size < w23.heap.size := by omega
          have lt_c7_0_1 : w6.heap.size < w23.heap.size := by omega
          have lt_c19_0_0 : w18.heap.size < w23.heap.size := by omega
          have lt_c19_0_1 : w18.heap.size < w23.heap.size := by omega
          have lt_c21_0_0 : w20.heap.size < w23.heap.size := by omega
          have lt_c21_0_1 : w20.heap.size < w23.heap.size := by omega
          have lt_c22_0_0 : w21.heap.size < w23.heap.size := by omega
          have lt_c22_0_1 : w21.heap.size < w23.heap.size := by omega
          have lt_c23_0_0 : w22.heap.size < w23.heap.size := by omega
          have lt_c23_0_1 : w22.heap.size < w23.heap.size := by omega
          have hB := HB.out.trans (hb.mono HB.out.size)
          clear HB
          have HB := Lib.hid hB
          clear hB
          clear hb hz
          go_wp2_with fail
          have hP := HB.out
          have hK : Below w23.heap.size w23 (w23.alloc (.cells #[.int .i64 s.1, .int .i64 s.2.1] 23)) := (by repeat (first | with_reducible exact Below.refl _ _ | (with_reducible refine Below.setCell ?_ (by first | exact Nat.le_refl _ | omega | (simp; done) | (simp; omega)) _) | (with_reducible refine Below.alloc ?_ (by first | exact Nat.le_refl _ | omega | (simp; done) | (simp; omega)) _) | with_reducible refine Below.drew ?_ | with_reducible refine bel_drewN ?_ _ | (with_reducible refine bel_by (by with_reducible assumption) (by first | exact Nat.le_refl _ | omega | (simp; done) | (simp; omega)) ?_)))
          have hB : Below w.heap.size w (w23.alloc (.cells #[.int .i64 s.1, .int .i64 s.2.1] 23)) := hP.trans (hK.mono hP.size)
          have c1_0_0 : (w23.alloc (.cells #[.int .i64 s.1, .int .i64 s.2.1] 23)).cell? ⟨w.heap.size, 0, none⟩ = some (.int .i64 an) := (hK.cell (p := ⟨w.heap.size, 0, none⟩) lt_c1_0_0).trans c1_0_0
          have c1_0_1 : (w23.alloc (.cells #[.int .i64 s.1, .int .i64 s.2.1] 23)).cell? ⟨w.heap.size, 1, none⟩ = some (.int .i64 ad) := (hK.cell (p := ⟨w.heap.size, 1, none⟩) lt_c1_0_1).trans c1_0_1
          have c1_1_0 : (w23.alloc (.cells #[.int .i64 s.1, .int .i64 s.2.1] 23)).cell? ⟨w.heap.size + 1, 0, none⟩ = some (.int .i64 bn) := (hK.cell (p := ⟨w.heap.size + 1, 0, none⟩) lt_c1_1_0).trans c1_1_0
          have c1_1_1 : (w23.alloc (.cells #[.int .i64 s.1, .int .i64 s.2.1] 23)).cell? ⟨w.heap.size + 1, 1, none⟩ = some (.int .i64 bd) := (hK.cell (p := ⟨w.heap.size + 1, 1, none⟩) lt_c1_1_1).trans c1_1_1
          have c1_2_0 : (w23.alloc (.cells #[.int .i64 s.1, .int .i64 s.2.1] 23)).cell? ⟨w.heap.size + 1 + 1, 0, none⟩ = some (.int .i64 cn) := (hK.cell (p := ⟨w.heap.size + 1 + 1, 0, none⟩) lt_c1_2_0).trans c1_2_0
          have c1_2_1 : (w23.alloc (.cells #[.int .i64 s.1, .int .i64 s.2.1] 23)).cell? ⟨w.heap.size + 1 + 1, 1, none⟩ = some (.int .i64 cd) := (hK.cell (p := ⟨w.heap.size + 1 + 1, 1, none⟩) lt_c1_2_1).trans c1_2_1
          have c5_0_0 : (w23.alloc (.cells #[.int .i64 s.1, .int .i64 s.2.1] 23)).cell? ⟨w4.heap.size, 0, none⟩ = some (.int .i64 t1.1) := (hK.cell (p := ⟨w4.heap.size, 0, none⟩) lt_c5_0_0).trans c5_0_0
          have c5_0_1 : (w23.alloc (.cells #[.int .i64 s.1, .int .i64 s.2.1] 23)).cell? ⟨w4.heap.size, 1, none⟩ = some (.int .i64 t1.2.1) := (hK.cell (p := ⟨w4.heap.size, 1, none⟩) lt_c5_0_1).trans c5_0_1
          have c6_0_0 : (w23.alloc (.cells #[.int .i64 s.1, .int .i64 s.2.1] 23)).cell? ⟨w5.heap.size, 0, none⟩ = some (.int .i64 t1.1) := (hK.cell (p := ⟨w5.heap.size, 0, none⟩) lt_c6_0_0).trans c6_0_0
          have c6_0_1 : (w23.alloc (.cells #[.int .i64 s.1, .int .i64 s.2.1] 23)).cell? ⟨w5.heap.size, 1, none⟩ = some (.int .i64 t1.2.1) := (hK.cell (p := ⟨w5.heap.size, 1, none⟩) lt_c6_0_1).trans c6_0_1
          have c7_0_0 : (w23.alloc (.cells #[.int .i64 s.1, .int .i64 s.2.1] 23)).cell? ⟨w6.heap.size, 0, none⟩ = some (.int .i64 t3.1) := (hK.cell (p := ⟨w6.heap.size, 0, none⟩) lt_c7_0_0).trans c7_0_0
          have c7_0_1 : (w23.alloc (.cells #[.int .i64 s.1, .int .i64 s.2.1] 23)).cell? ⟨w6.heap.size, 1, none⟩ = some (.int .i64 t3.2.1) := (hK.cell (p := ⟨w6.heap.size, 1, none⟩) lt_c7_0_1).trans c7_0_1
          have c19_0_0 : (w23.alloc (.cells #[.int .i64 s.1, .int .i64 s.2.1] 23)).cell? ⟨w18.heap.size, 0, none⟩ = some (.int .i64 u.1) := (hK.cell (p := ⟨w18.heap.size, 0, none⟩) lt_c19_0_0).trans c19_0_0
          have c19_0_1 : (w23.alloc (.cells #[.int .i64 s.1, .int .i64 s.2.1] 23)).cell? ⟨w18.heap.size, 1, none⟩ = some (.int .i64 u.2.1) := (hK.cell (p := ⟨w18.heap.size, 1, none⟩) lt_c19_0_1).trans c19_0_1
          have c21_0_0 : (w23.alloc (.cells #[.int .i64 s.1, .int .i64 s.2.1] 23)).cell? ⟨w20.heap.size, 0, none⟩ = some (.int .i64 p.1) := (hK.cell (p := ⟨w20.heap.size, 0, none⟩) lt_c21_0_0).trans c21_0_0
          have c21_0_1 : (w23.alloc (.cells #[.int .i64 s.1, .int .i64 s.2.1] 23)).cell? ⟨w20.heap.size, 1, none⟩ = some (.int .i64 p.2.1) := (hK.cell (p := ⟨w20.heap.size, 1, none⟩) lt_c21_0_1).trans c21_0_1
          have c22_0_0 : (w23.alloc (.cells #[.int .i64 s.1, .int .i64 s.2.1] 23)).cell? ⟨w21.heap.size, 0, none⟩ = some (.int .i64 p.1) := (hK.cell (p := ⟨w21.heap.size, 0, none⟩) lt_c22_0_0).trans c22_0_0
          have c22_0_1 : (w23.alloc (.cells #[.int .i64 s.1, .int .i64 s.2.1] 23)).cell? ⟨w21.heap.size, 1, none⟩ = some (.int .i64 p.2.1) := (hK.cell (p := ⟨w21.heap.size, 1, none⟩) lt_c22_0_1).trans c22_0_1
          have c23_0_0 : (w23.alloc (.cells #[.int .i64 s.1, .int .i64 s.2.1] 23)).cell? ⟨w22.heap.size, 0, none⟩ = some (.int .i64 r.1) := (hK.cell (p := ⟨w22.heap.size, 0, none⟩) lt_c23_0_0).trans c23_0_0
          have c23_0_1 : (w23.alloc (.cells #[.int .i64 s.1, .int .i64 s.2.1] 23)).cell? ⟨w22.heap.size, 1, none⟩ = some (.int .i64 r.2.1) := (hK.cell (p := ⟨w22.heap.size, 1, none⟩) lt_c23_0_1).trans c23_0_1
          have c24_0_0 : (w23.alloc (.cells #[.int .i64 s.1, .int .i64 s.2.1] 23)).cell? ⟨w23.heap.size, 0, none⟩ = some (.int .i64 s.1) := by simp [go_sem]
          have c24_0_1 : (w23.alloc (.cells #[.int .i64 s.1, .int .i64 s.2.1] 23)).cell? ⟨w23.heap.size, 1, none⟩ = some (.int .i64 s.2.1) := by simp [go_sem]
          have hz : (w23.alloc (.cells #[.int .i64 s.1, .int .i64 s.2.1] 23)).heap.size = w23.heap.size + 1 := by simp
          generalize (w23.alloc (.cells #[.int .i64 s.1, .int .i64 s.2.1] 23)) = wA24 at hB hK hz c1_0_0 c1_0_1 c1_1_0 c1_1_1 c1_2_0 c1_2_1 c5_0_0 c5_0_1 c6_0_0 c6_0_1 c7_0_0 c7_0_1 c19_0_0 c19_0_1 c21_0_0 c21_0_1 c22_0_0 c22_0_1 c23_0_0 c23_0_1 c24_0_0 c24_0_1 ⊢
          clear hK
          have lt_c1_0_0 : w.heap.size < wA24.heap.size := by omega
          have lt_c1_0_1 : w.heap.size < wA24.heap.size := by omega
          have lt_c1_1_0 : w.heap.size + 1 < wA24.heap.size := by omega
          have lt_c1_1_1 : w.heap.size + 1 < wA24.heap.size := by omega
          have lt_c1_2_0 : w.heap.size + 1 + 1 < wA24.heap.size := by omega
          have lt_c1_2_1 : w.heap.size + 1 + 1 < wA24.heap.size := by omega
          have lt_c5_0_0 : w4.heap.size < wA24.heap.size := by omega
          have lt_c5_0_1 : w4.heap.size < wA24.heap.size := by omega
          have lt_c6_0_0 : w5.heap.size < wA24.heap.size := by omega
          have lt_c6_0_1 : w5.heap.size < wA24.heap.size := by omega
          have lt_c7_0_0 : w6.heap.size < wA24.heap.size := by omega
          have lt_c7_0_1 : w6.heap.size < wA24.heap.size := by omega
          have lt_c19_0_0 : w18.heap.size < wA24.heap.size := by omega
          have lt_c19_0_1 : w18.heap.size < wA24.heap.size := by omega
          have lt_c21_0_0 : w20.heap.size < wA24.heap.size := by omega
          have lt_c21_0_1 : w20.heap.size < wA24.heap.size := by omega
          have lt_c22_0_0 : w21.heap.size < wA24.heap.size := by omega
          have lt_c22_0_1 : w21.heap.size < wA24.heap.size := by omega
          have lt_c23_0_0 : w22.heap.size < wA24.heap.size := by omega
          have lt_c23_0_1 : w22.heap.size < wA24.heap.size := by omega
          have lt_c24_0_0 : w23.heap.size < wA24.heap.size := by omega
          have lt_c24_0_1 : w23.heap.size < wA24.heap.size := by omega
          clear hP HB
          have HB := Lib.hid hB
          clear hB hz
          refine (K11.out _).mono ?_
          rintro e w24 ⟨rfl, hb⟩
          have c1_0_0 := (hb.cell (p := ⟨w.heap.size, 0, none⟩) lt_c1_0_0).trans c1_0_0
          have c1_0_1 := (hb.cell (p := ⟨w.heap.size, 1, none⟩) lt_c1_0_1).trans c1_0_1
          have c1_1_0 := (hb.cell (p := ⟨w.heap.size + 1, 0, none⟩) lt_c1_1_0).trans c1_1_0
          have c1_1_1 := (hb.cell (p := ⟨w.heap.size + 1, 1, none⟩) lt_c1_1_1).trans c1_1_1
          have c1_2_0 := (hb.cell (p := ⟨w.heap.size + 1 + 1, 0, none⟩) lt_c1_2_0).trans c1_2_0
          have c1_2_1 := (hb.cell (p := ⟨w.heap.size + 1 + 1, 1, none⟩) lt_c1_2_1).trans c1_2_1
          have c5_0_0 := (hb.cell (p := ⟨w4.heap.size, 0, none⟩) lt_c5_0_0).trans c5_0_0
          have c5_0_1 := (hb.cell (p := ⟨w4.heap.size, 1, none⟩) lt_c5_0_1).trans c5_0_1
          have c6_0_0 := (hb.cell (p := ⟨w5.heap.size, 0, none⟩) lt_c6_0_0).trans c6_0_0
          have c6_0_1 := (hb.cell (p := ⟨w5.heap.size, 1, none⟩) lt_c6_0_1).trans c6_0_1
          have c7_0_0 := (hb.cell (p := ⟨w6.heap.size, 0, none⟩) lt_c7_0_0).trans c7_0_0
          have c7_0_1 := (hb.cell (p := ⟨w6.heap.size, 1, none⟩) lt_c7_0_1).trans c7_0_1
          have c19_0_0 := (hb.cell (p := ⟨w18.heap.size, 0, none⟩) lt_c19_0_0).trans c19_0_0
          have c19_0_1 := (hb.cell (p := ⟨w18.heap.size, 1, none⟩) lt_c19_0_1).trans c19_0_1
          have c21_0_0 := (hb.cell (p := ⟨w20.heap.size, 0, none⟩) lt_c21_0_0).trans c21_0_0
          have c21_0_1 := (hb.cell (p := ⟨w20.heap.size, 1, none⟩) lt_c21_0_1).trans c21_0_1
          have c22_0_0 := (hb.cell (p := ⟨w21.heap.size, 0, none⟩) lt_c22_0_0).trans c22_0_0
          have c22_0_1 := (hb.cell (p := ⟨w21.heap.size, 1, none⟩) lt_c22_0_1).trans c22_0_1
          have c23_0_0 := (hb.cell (p := ⟨w22.heap.size, 0, none⟩) lt_c23_0_0).trans c23_0_0
          have c23_0_1 := (hb.cell (p := ⟨w22.heap.size, 1, none⟩) lt_c23_0_1).trans c23_0_1
          have c24_0_0 := (hb.cell (p := ⟨w23.heap.size, 0, none⟩) lt_c24_0_0).trans c24_0_0
          have c24_0_1 := (hb.cell (p := ⟨w23.heap.size, 1, none⟩) lt_c24_0_1).trans c24_0_1
          have hz := bsize hb
          try simp at hz
          have lt_c1_0_0 : w.heap.size < w24.heap.size := by omega
          have lt_c1_0_1 : w.heap.size < w24.heap.size := by omega
          have lt_c1_1_0 : w.heap.size + 1 < w24.heap.size := by omega
          have lt_c1_1_1 : w.heap.size + 1 < w24.heap.size := by omega
          have lt_c1_2_0 : w.heap.size + 1 + 1 < w24.heap.size := by omega
          have lt_c1_2_1 : w.heap.size + 1 + 1 < w24.heap.size := by omega
          have lt_c5_0_0 : w4.heap.size < w24.heap.size := by omega
          have lt_c5_0_1 : w4.heap.size < w24.heap.size := by omega
          have lt_c6_0_0 : w5.heap.size < w24.heap.size := by omega
          have lt_c6_0_1 : w5.heap.size < w24.heap.size := by omega
          have lt_c7_0_0 : w6.heap.size < w24.heap.size := by omega
          have lt_c7_0_1 : w6.heap.size < w24.heap.size := by omega
          have lt_c19_0_0 : w18.heap.size < w24.heap.size := by omega
          have lt_c19_0_1 : w18.heap.size < w24.heap.size := by omega
          have lt_c21_0_0 : w20.heap.size < w24.heap.size := by omega
          have lt_c21_0_1 : w20.heap.size < w24.heap.size := by omega
          have lt_c22_0_0 : w21.heap.size < w24.heap.size := by omega
          have lt_c22_0_1 : w21.heap.size < w24.heap.size := by omega
          have lt_c23_0_0 : w22.heap.size < w24.heap.size := by omega
          have lt_c23_0_1 : w22.heap.size < w24.heap.size := by omega
          have lt_c24_0_0 : w23.heap.size < w24.heap.size := by omega
          have lt_c24_0_1 : w23.heap.size < w24.heap.size := by omega
          have hB := HB.out.trans (hb.mono HB.out.size)
          clear HB
          have HB := Lib.hid hB
          clear hB
          clear hb hz
          go_upto_region 23 with fail
          have hP := HB.out
          have hK : Below w24.heap.size w24 (w24.alloc (.cells #[.int .i64 q.1, .int .i64 q.2.1] 23)) := (by repeat (first | with_reducible exact Below.refl _ _ | (with_reducible refine Below.setCell ?_ (by first | exact Nat.le_refl _ | omega | (simp; done) | (simp; omega)) _) | (with_reducible refine Below.alloc ?_ (by first | exact Nat.le_refl _ | omega | (simp; done) | (simp; omega)) _) | with_reducible refine Below.drew ?_ | with_reducible refine bel_drewN ?_ _ | (with_reducible refine bel_by (by with_reducible assumption) (by first | exact Nat.le_refl _ | omega | (simp; done) | (simp; omega)) ?_)))
          have hB : Below w.heap.size w (w24.alloc (.cells #[.int .i64 q.1, .int .i64 q.2.1] 23)) := hP.trans (hK.mono hP.size)
          have c1_0_0 : (w24.alloc (.cells #[.int .i64 q.1, .int .i64 q.2.1] 23)).cell? ⟨w.heap.size, 0, none⟩ = some (.int .i64 an) := (hK.cell (p := ⟨w.heap.size, 0, none⟩) lt_c1_0_0).trans c1_0_0
          have c1_0_1 : (w24.alloc (.cells #[.int .i64 q.1, .int .i64 q.2.1] 23)).cell? ⟨w.heap.size, 1, none⟩ = some (.int .i64 ad) := (hK.cell (p := ⟨w.heap.size, 1, none⟩) lt_c1_0_1).trans c1_0_1
          have c1_1_0 : (w24.alloc (.cells #[.int .i64 q.1, .int .i64 q.2.1] 23)).cell? ⟨w.heap.size + 1, 0, none⟩ = some (.int .i64 bn) := (hK.cell (p := ⟨w.heap.size + 1, 0, none⟩) lt_c1_1_0).trans c1_1_0
          have c1_1_1 : (w24.alloc (.cells #[.int .i64 q.1, .int .i64 q.2.1] 23)).cell? ⟨w.heap.size + 1, 1, none⟩ = some (.int .i64 bd) := (hK.cell (p := ⟨w.heap.size + 1, 1, none⟩) lt_c1_1_1).trans c1_1_1
          have c1_2_0 : (w24.alloc (.cells #[.int .i64 q.1, .int .i64 q.2.1] 23)).cell? ⟨w.heap.size + 1 + 1, 0, none⟩ = some (.int .i64 cn) := (hK.cell (p := ⟨w.heap.size + 1 + 1, 0, none⟩) lt_c1_2_0).trans c1_2_0
          have c1_2_1 : (w24.alloc (.cells #[.int .i64 q.1, .int .i64 q.2.1] 23)).cell? ⟨w.heap.size + 1 + 1, 1, none⟩ = some (.int .i64 cd) := (hK.cell (p := ⟨w.heap.size + 1 + 1, 1, none⟩) lt_c1_2_1).trans c1_2_1
          have c5_0_0 : (w24.alloc (.cells #[.int .i64 q.1, .int .i64 q.2.1] 23)).cell? ⟨w4.heap.size, 0, none⟩ = some (.int .i64 t1.1) := (hK.cell (p := ⟨w4.heap.size, 0, none⟩) lt_c5_0_0).trans c5_0_0
          have c5_0_1 : (w24.alloc (.cells #[.int .i64 q.1, .int .i64 q.2.1] 23)).cell? ⟨w4.heap.size, 1, none⟩ = some (.int .i64 t1.2.1) := (hK.cell (p := ⟨w4.heap.size, 1, none⟩) lt_c5_0_1).trans c5_0_1
          have c6_0_0 : (w24.alloc (.cells #[.int .i64 q.1, .int .i64 q.2.1] 23)).cell? ⟨w5.heap.size, 0, none⟩ = some (.int .i64 t1.1) := (hK.cell (p := ⟨w5.heap.size, 0, none⟩) lt_c6_0_0).trans c6_0_0
          have c6_0_1 : (w24.alloc (.cells #[.int .i64 q.1, .int .i64 q.2.1] 23)).cell? ⟨w5.heap.size, 1, none⟩ = some (.int .i64 t1.2.1) := (hK.cell (p := ⟨w5.heap.size, 1, none⟩) lt_c6_0_1).trans c6_0_1
          have c7_0_0 : (w24.alloc (.cells #[.int .i64 q.1, .int .i64 q.2.1] 23)).cell? ⟨w6.heap.size, 0, none⟩ = some (.int .i64 t3.1) := (hK.cell (p := ⟨w6.heap.size, 0, none⟩) lt_c7_0_0).trans c7_0_0
          have c7_0_1 : (w24.alloc (.cells #[.int .i64 q.1, .int .i64 q.2.1] 23)).cell? ⟨w6.heap.size, 1, none⟩ = some (.int .i64 t3.2.1) := (hK.cell (p := ⟨w6.heap.size, 1, none⟩) lt_c7_0_1).trans c7_0_1
          have c19_0_0 : (w24.alloc (.cells #[.int .i64 q.1, .int .i64 q.2.1] 23)).cell? ⟨w18.heap.size, 0, none⟩ = some (.int .i64 u.1) := (hK.cell (p := ⟨w18.heap.size, 0, none⟩) lt_c19_0_0).trans c19_0_0
          have c19_0_1 : (w24.alloc (.cells #[.int .i64 q.1, .int .i64 q.2.1] 23)).cell? ⟨w18.heap.size, 1, none⟩ = some (.int .i64 u.2.1) := (hK.cell (p := ⟨w18.heap.size, 1, none⟩) lt_c19_0_1).trans c19_0_1
          have c21_0_0 : (w24.alloc (.cells #[.int .i64 q.1, .int .i64 q.2.1] 23)).cell? ⟨w20.heap.size, 0, none⟩ = some (.int .i64 p.1) := (hK.cell (p := ⟨w20.heap.size, 0, none⟩) lt_c21_0_0).trans c21_0_0
          have c21_0_1 : (w24.alloc (.cells #[.int .i64 q.1, .int .i64 q.2.1] 23)).cell? ⟨w20.heap.size, 1, none⟩ = some (.int .i64 p.2.1) := (hK.cell (p := ⟨w20.heap.size, 1, none⟩) lt_c21_0_1).trans c21_0_1
          have c22_0_0 : (w24.alloc (.cells #[.int .i64 q.1, .int .i64 q.2.1] 23)).cell? ⟨w21.heap.size, 0, none⟩ = some (.int .i64 p.1) := (hK.cell (p := ⟨w21.heap.size, 0, none⟩) lt_c22_0_0).trans c22_0_0
          have c22_0_1 : (w24.alloc (.cells #[.int .i64 q.1, .int .i64 q.2.1] 23)).cell? ⟨w21.heap.size, 1, none⟩ = some (.int .i64 p.2.1) := (hK.cell (p := ⟨w21.heap.size, 1, none⟩) lt_c22_0_1).trans c22_0_1
          have c23_0_0 : (w24.alloc (.cells #[.int .i64 q.1, .int .i64 q.2.1] 23)).cell? ⟨w22.heap.size, 0, none⟩ = some (.int .i64 r.1) := (hK.cell (p := ⟨w22.heap.size, 0, none⟩) lt_c23_0_0).trans c23_0_0
          have c23_0_1 : (w24.alloc (.cells #[.int .i64 q.1, .int .i64 q.2.1] 23)).cell? ⟨w22.heap.size, 1, none⟩ = some (.int .i64 r.2.1) := (hK.cell (p := ⟨w22.heap.size, 1, none⟩) lt_c23_0_1).trans c23_0_1
          have c24_0_0 : (w24.alloc (.cells #[.int .i64 q.1, .int .i64 q.2.1] 23)).cell? ⟨w23.heap.size, 0, none⟩ = some (.int .i64 s.1) := (hK.cell (p := ⟨w23.heap.size, 0, none⟩) lt_c24_0_0).trans c24_0_0
          have c24_0_1 : (w24.alloc (.cells #[.int .i64 q.1, .int .i64 q.2.1] 23)).cell? ⟨w23.heap.size, 1, none⟩ = some (.int .i64 s.2.1) := (hK.cell (p := ⟨w23.heap.size, 1, none⟩) lt_c24_0_1).trans c24_0_1
          have c25_0_0 : (w24.alloc (.cells #[.int .i64 q.1, .int .i64 q.2.1] 23)).cell? ⟨w24.heap.size, 0, none⟩ = some (.int .i64 q.1) := by simp [go_sem]
          have c25_0_1 : (w24.alloc (.cells #[.int .i64 q.1, .int .i64 q.2.1] 23)).cell? ⟨w24.heap.size, 1, none⟩ = some (.int .i64 q.2.1) := by simp [go_sem]
          have hz : (w24.alloc (.cells #[.int .i64 q.1, .int .i64 q.2.1] 23)).heap.size = w24.heap.size + 1 := by simp
          generalize (w24.alloc (.cells #[.int .i64 q.1, .int .i64 q.2.1] 23)) = wA25 at hB hK hz c1_0_0 c1_0_1 c1_1_0 c1_1_1 c1_2_0 c1_2_1 c5_0_0 c5_0_1 c6_0_0 c6_0_1 c7_0_0 c7_0_1 c19_0_0 c19_0_1 c21_0_0 c21_0_1 c22_0_0 c22_0_1 c23_0_0 c23_0_1 c24_0_0 c24_0_1 c25_0_0 c25_0_1 ⊢
          clear hK
          have lt_c1_0_0 : w.heap.size < wA25.heap.size := by omega
          have lt_c1_0_1 : w.heap.size < wA25.heap.size := by omega
          have lt_c1_1_0 : w.heap.size + 1 < wA25.heap.size := by omega
          have lt_c1_1_1 : w.heap.size + 1 < wA25.heap.size := by omega
          have lt_c1_2_0 : w.heap.size + 1 + 1 < wA25.heap.size := by omega
          have lt_c1_2_1 : w.heap.size + 1 + 1 < wA25.heap.size := by omega
          have lt_c5_0_0 : w4.heap.size < wA25.heap.size := by omega
          have lt_c5_0_1 : w4.heap.size < wA25.heap.size := by omega
          have lt_c6_0_0 : w5.heap.size < wA25.heap.size := by omega
          have lt_c6_0_1 : w5.heap.size < wA25.heap.size := by omega
          have lt_c7_0_0 : w6.heap.size < wA25.heap.size := by omega
          have lt_c7_0_1 : w6.heap.size < wA25.heap.size := by omega
          have lt_c19_0_0 : w18.heap.size < wA25.heap.size := by omega
          have lt_c19_0_1 : w18.heap.size < wA25.heap.size := by omega
          have lt_c21_0_0 : w20.heap.size < wA25.heap.size := by omega
          have lt_c21_0_1 : w20.heap.size < wA25.heap.size := by omega
          have lt_c22_0_0 : w21.heap.size < wA25.heap.size := by omega
          have lt_c22_0_1 : w21.heap.size < wA25.heap.size := by omega
          have lt_c23_0_0 : w22.heap.size < wA25.heap.size := by omega
          have lt_c23_0_1 : w22.heap.size < wA25.heap.size := by omega
          have lt_c24_0_0 : w23.heap.size < wA25.heap.size := by omega
          have lt_c24_0_1 : w23.heap.size < wA25.heap.size := by omega
          have lt_c25_0_0 : w24.heap.size < wA25.heap.size := by omega
          have lt_c25_0_1 : w24.heap.size < wA25.heap.size := by omega
          clear hP HB
          have HB := Lib.hid hB
          clear hB hz
          go_cut [1, 167] (fun s1 s167 wx => s1 = .agg #[.int .i64 bn, .int .i64 bd] ∧ s167 = .bool false ∧ wA25 = wx)
          case first =>
            cases h4 : (p.2.2 == 0)
            · go_wp2_with fail
              go_meet
              exact ⟨rfl, rfl, rfl⟩
            · cases hb : (bn == 0)
              · have E := K11'.out (by simpa using h4) (by simpa using hb)
                have hb' : (bn != 0) = true := by simp [bne, hb]
                have e1 : q.1 = an := by rw [E]
                have e2 : q.2.1 = ad := by rw [E]
                have e3 : q.2.2 = 0 := by rw [E]
                clear E
                go_wp2_with fail
                go_meet
                exact ⟨rfl, rfl, rfl⟩
              · have hb' : (bn != 0) = false := by simp [bne, hb]
                go_wp2_with fail
                go_meet
                exact ⟨by simp [hb]; first | done | (simpa using hb.symm) | (simpa using (by simpa using hb : bn = 0).symm), rfl, rfl⟩
          obtain ⟨rfl, rfl, rfl⟩ := hcut
          as_aux_lemma =>
            go_upto_region 25 with fail
            go_cut [181] (fun s181 wx => s181 = .bool (!((t3.2.2 == 0) && (p.2.2 == 0) && (r.2.2 == 0) && (s.2.2 == 0))) ∧ wA25 = wx)
            case first =>
              cases h3 : (t3.2.2 == 0)
              · have h3' : (t3.2.2 != 0) = true := by simp [bne, h3]
                go_wp2_with fail
                go_meet
                exact ⟨by simp [h3], rfl⟩
              have h3' : (t3.2.2 != 0) = false := by simp [bne, h3]
              cases h4 : (p.2.2 == 0)
              · have h4' : (p.2.2 != 0) = true := by simp [bne, h4]
                go_wp2_with fail
                go_meet
                exact ⟨by simp [h3, h4], rfl⟩
              have h4' : (p.2.2 != 0) = false := by simp [bne, h4]
              cases h6 : (r.2.2 == 0)
              · have h6' : (r.2.2 != 0) = true := by simp [bne, h6]
                go_wp2_with fail
                go_meet
                exact ⟨by simp [h3, h4, h6], rfl⟩
              have h6' : (r.2.2 != 0) = false := by simp [bne, h6]
              cases h7 : (s.2.2 == 0)
              · have h7' : (s.2.2 != 0) = true := by simp [bne, h7]
                go_wp2_with fail
                go_meet
                exact ⟨by simp [h3, h4, h6, h7], rfl⟩
              have h7' : (s.2.2 != 0) = false := by simp [bne, h7]
              go_wp2_with fail
              go_meet
              exact ⟨by simp [h3, h4, h6, h7], rfl⟩
            obtain ⟨rfl, rfl⟩ := hcut
            as_aux_lemma =>
              cases hA : ((t3.2.2 == 0) && (p.2.2 == 0) && (r.2.2 == 0) && (s.2.2 == 0))
              · go_wp2_with fail
                have hT := HT.out.below HB.out
                refine (awake_any _ hT).mono ?_
                rintro e w27 ⟨rfl, hb⟩
                have c1_0_0 := (hb.cell (p := ⟨w.heap.size, 0, none⟩) lt_c1_0_0).trans c1_0_0
                have c1_0_1 := (hb.cell (p := ⟨w.heap.size, 1, none⟩) lt_c1_0_1).trans c1_0_1
                have c1_1_0 := (hb.cell (p := ⟨w.heap.size + 1, 0, none⟩) lt_c1_1_0).trans c1_1_0
                have c1_1_1 := (hb.cell (p := ⟨w.heap.size + 1, 1, none⟩) lt_c1_1_1).trans c1_1_1
                have c1_2_0 := (hb.cell (p := ⟨w.heap.size + 1 + 1, 0, none⟩) lt_c1_2_0).trans c1_2_0
                have c1_2_1 := (hb.cell (p := ⟨w.heap.size + 1 + 1, 1, none⟩) lt_c1_2_1).trans c1_2_1
                have c5_0_0 := (hb.cell (p := ⟨w4.heap.size, 0, none⟩) lt_c5_0_0).trans c5_0_0
                have c5_0_1 := (hb.cell (p := ⟨w4.heap.size, 1, none⟩) lt_c5_0_1).trans c5_0_1
                have c6_0_0 := (hb.cell (p := ⟨w5.heap.size, 0, none⟩) lt_c6_0_0).trans c6_0_0
                have c6_0_1 := (hb.cell (p := ⟨w5.heap.size, 1, none⟩) lt_c6_0_1).trans c6_0_1
                have c7_0_0 := (hb.cell (p := ⟨w6.heap.size, 0, none⟩) lt_c7_0_0).trans c7_0_0
                have c7_0_1 := (hb.cell (p := ⟨w6.heap.size, 1, none⟩) lt_c7_0_1).trans c7_0_1
                have c19_0_0 := (hb.cell (p := ⟨w18.heap.size, 0, none⟩) lt_c19_0_0).trans c19_0_0
                have c19_0_1 := (hb.cell (p := ⟨w18.heap.size, 1, none⟩) lt_c19_0_1).trans c19_0_1
                have c21_0_0 := (hb.cell (p := ⟨w20.heap.size, 0, none⟩) lt_c21_0_0).trans c21_0_0
                have c21_0_1 := (hb.cell (p := ⟨w20.heap.size, 1, none⟩) lt_c21_0_1).trans c21_0_1
                have c22_0_0 := (hb.cell (p := ⟨w21.heap.size, 0, none⟩) lt_c22_0_0).trans c22_0_0
                have c22_0_1 := (hb.cell (p := ⟨w21.heap.size, 1, none⟩) lt_c22_0_1).trans c22_0_1
                have c23_0_0 := (hb.cell (p := ⟨w22.heap.size, 0, none⟩) lt_c23_0_0).trans c23_0_0
                have c23_0_1 := (hb.cell (p := ⟨w22.heap.size, 1, none⟩) lt_c23_0_1).trans c23_0_1
                have c24_0_0 := (hb.cell (p := ⟨w23.heap.size, 0, none⟩) lt_c24_0_0).trans c24_0_0
                have c24_0_1 := (hb.cell (p := ⟨w23.heap.size, 1, none⟩) lt_c24_0_1).trans c24_0_1
                have c25_0_0 := (hb.cell (p := ⟨w24.heap.size, 0, none⟩) lt_c25_0_0).trans c25_0_0
                have c25_0_1 := (hb.cell (p := ⟨w24.heap.size, 1, none⟩) lt_c25_0_1).trans c25_0_1
                have hz := bsize hb
                try simp at hz
                have lt_c1_0_0 : w.heap.size < w27.heap.size := by omega
                have lt_c1_0_1 : w.heap.size < w27.heap.size := by omega
                have lt_c1_1_0 : w.heap.size + 1 < w27.heap.size := by omega
                have lt_c1_1_1 : w.heap.size + 1 < w27.heap.size := by omega
                have lt_c1_2_0 : w.heap.size + 1 + 1 < w27.heap.size := by omega
                have lt_c1_2_1 : w.heap.size + 1 + 1 < w27.heap.size := by omega
                have lt_c5_0_0 : w4.heap.size < w27.heap.size := by omega
                have lt_c5_0_1 : w4.heap.size < w27.heap.size := by omega
                have lt_c6_0_0 : w5.heap.size < w27.heap.size := by omega
                have lt_c6_0_1 : w5.heap.size < w27.heap.size := by omega
                have lt_c7_0_0 : w6.heap.size < w27.heap.size := by omega
                have lt_c7_0_1 : w6.heap.size < w27.heap.size := by omega
                have lt_c19_0_0 : w18.heap.size < w27.heap.size := by omega
                have lt_c19_0_1 : w18.heap.size < w27.heap.size := by omega
                have lt_c21_0_0 : w20.heap.size < w27.heap.size := by omega
                have lt_c21_0_1 : w20.heap.size < w27.heap.size := by omega
                have lt_c22_0_0 : w21.heap.size < w27.heap.size := by omega
                have lt_c22_0_1 : w21.heap.size < w27.heap.size := by omega
                have lt_c23_0_0 : w22.heap.size < w27.heap.size := by omega
                have lt_c23_0_1 : w22.heap.size < w27.heap.size := by omega
                have lt_c24_0_0 : w23.heap.size < w27.heap.size := by omega
                have lt_c24_0_1 : w23.heap.size < w27.heap.size := by omega
                have lt_c25_0_0 : w24.heap.size < w27.heap.size := by omega
                have lt_c25_0_1 : w24.heap.size < w27.heap.size := by omega
                have hB := HB.out.trans (hb.mono HB.out.size)
                clear HB
                have HB := Lib.hid hB
                clear hB
                clear hb hz
                go_wp2
                go_ret
                have hB := HB.out
                exact ⟨rfl, (by repeat (first | with_reducible exact Below.refl _ _ | (with_reducible refine Below.setCell ?_ (by first | exact Nat.le_refl _ | omega | (simp; done) | (simp; omega)) _) | (with_reducible refine Below.alloc ?_ (by first | exact Nat.le_refl _ | omega | (simp; done) | (simp; omega)) _) | with_reducible refine Below.drew ?_ | with_reducible refine bel_drewN ?_ _ | (with_reducible refine bel_by (by with_reducible assumption) (by first | exact Nat.le_refl _ | omega | (simp; done) | (simp; omega)) ?_)))⟩
              · simp only [Bool.and_eq_true, beq_iff_eq] at hA
                obtain ⟨⟨⟨h3, h4⟩, h6⟩, h7⟩ := hA
                have C12 := K12.out h3 h4 h6
                have K12 := Lib.hid C12
                have h7 : (s.2.2 == 0) = true := by simpa using h7
                clear C12 h3 h4 h6
                go_wp2_with fail
                refine (K12.out _).mono ?_
                rintro e w27 ⟨rfl, hb⟩
                have c1_0_0 := (hb.cell (p := ⟨w.heap.size, 0, none⟩) lt_c1_0_0).trans c1_0_0
                have c1_0_1 := (hb.cell (p := ⟨w.heap.size, 1, none⟩) lt_c1_0_1).trans c1_0_1
                have c1_1_0 := (hb.cell (p := ⟨w.heap.size + 1, 0, none⟩) lt_c1_1_0).trans c1_1_0
                have c1_1_1 := (hb.cell (p := ⟨w.heap.size + 1, 1, none⟩) lt_c1_1_1).trans c1_1_1
                have c1_2_0 := (hb.cell (p := ⟨w.heap.size + 1 + 1, 0, none⟩) lt_c1_2_0).trans c1_2_0
                have c1_2_1 := (hb.cell (p := ⟨w.heap.size + 1 + 1, 1, none⟩) lt_c1_2_1).trans c1_2_1
                have c5_0_0 := (hb.cell (p := ⟨w4.heap.size, 0, none⟩) lt_c5_0_0).trans c5_0_0
                have c5_0_1 := (hb.cell (p := ⟨w4.heap.size, 1, none⟩) lt_c5_0_1).trans c5_0_1
                have c6_0_0 := (hb.cell (p := ⟨w5.heap.size, 0, none⟩) lt_c6_0_0).trans c6_0_0
                have c6_0_1 := (hb.cell (p := ⟨w5.heap.size, 1, none⟩) lt_c6_0_1).trans c6_0_1
                have c7_0_0 := (hb.cell (p := ⟨w6.heap.size, 0, none⟩) lt_c7_0_0).trans c7_0_0
                have c7_0_1 := (hb.cell (p := ⟨w6.heap.size, 1, none⟩) lt_c7_0_1).trans c7_0_1
                have c19_0_0 := (hb.cell (p := ⟨w18.heap.size, 0, none⟩) lt_c19_0_0).trans c19_0_0
                have c19_0_1 := (hb.cell (p := ⟨w18.heap.size, 1, none⟩) lt_c19_0_1).trans c19_0_1
                have c21_0_0 := (hb.cell (p := ⟨w20.heap.size, 0, none⟩) lt_c21_0_0).trans c21_0_0
                have c21_0_1 := (hb.cell (p := ⟨w20.heap.size, 1, none⟩) lt_c21_0_1).trans c21_0_1
                have c22_0_0 := (hb.cell (p := ⟨w21.heap.size, 0, none⟩) lt_c22_0_0).trans c22_0_0
                have c22_0_1 := (hb.cell (p := ⟨w21.heap.size, 1, none⟩) lt_c22_0_1).trans c22_0_1
                have c23_0_0 := (hb.cell (p := ⟨w22.heap.size, 0, none⟩) lt_c23_0_0).trans c23_0_0
                have c23_0_1 := (hb.cell (p := ⟨w22.heap.size, 1, none⟩) lt_c23_0_1).trans c23_0_1
                have c24_0_0 := (hb.cell (p := ⟨w23.heap.size, 0, none⟩) lt_c24_0_0).trans c24_0_0
                have c24_0_1 := (hb.cell (p := ⟨w23.heap.size, 1, none⟩) lt_c24_0_1).trans c24_0_1
                have c25_0_0 := (hb.cell (p := ⟨w24.heap.size, 0, none⟩) lt_c25_0_0).trans c25_0_0
                have c25_0_1 := (hb.cell (p := ⟨w24.heap.size, 1, none⟩) lt_c25_0_1).trans c25_0_1
                have hz := bsize hb
                try simp at hz
                have lt_c1_0_0 : w.heap.size < w27.heap.size := by omega
                have lt_c1_0_1 : w.heap.size < w27.heap.size := by omega
                have lt_c1_1_0 : w.heap.size + 1 < w27.heap.size := by omega
                have lt_c1_1_1 : w.heap.size + 1 < w27.heap.size := by omega
                have lt_c1_2_0 : w.heap.size + 1 + 1 < w27.heap.size := by omega
                have lt_c1_2_1 : w.heap.size + 1 + 1 < w27.heap.size := by omega
                have lt_c5_0_0 : w4.heap.size < w27.heap.size := by omega
                have lt_c5_0_1 : w4.heap.size < w27.heap.size := by omega
                have lt_c6_0_0 : w5.heap.size < w27.heap.size := by omega
                have lt_c6_0_1 : w5.heap.size < w27.heap.size := by omega
                have lt_c7_0_0 : w6.heap.size < w27.heap.size := by omega
                have lt_c7_0_1 : w6.heap.size < w27.heap.size := by omega
                have lt_c19_0_0 : w18.heap.size < w27.heap.size := by omega
                have lt_c19_0_1 : w18.heap.size < w27.heap.size := by omega
                have lt_c21_0_0 : w20.heap.size < w27.heap.size := by omega
                have lt_c21_0_1 : w20.heap.size < w27.heap.size := by omega
                have lt_c22_0_0 : w21.heap.size < w27.heap.size := by omega
                have lt_c22_0_1 : w21.heap.size < w27.heap.size := by omega
                have lt_c23_0_0 : w22.heap.size < w27.heap.size := by omega
                have lt_c23_0_1 : w22.heap.size < w27.heap.size := by omega
                have lt_c24_0_0 : w23.heap.size < w27.heap.size := by omega
                have lt_c24_0_1 : w23.heap.size < w27.heap.size := by omega
                have lt_c25_0_0 : w24.heap.size < w27.heap.size := by omega
                have lt_c25_0_1 : w24.heap.size < w27.heap.size := by omega
                have hB := HB.out.trans (hb.mono HB.out.size)
                clear HB
                have HB := Lib.hid hB
                clear hB
                clear hb hz
                go_wp2_with fail
                have hP := HB.out
                have hK : Below w27.heap.size w27 (w27.alloc (.cells #[.int .i64 s.1, .int .i64 s.2.1] 23)) := (by repeat (first | with_reducible exact Below.refl _ _ | (with_reducible refine Below.setCell ?_ (by first | exact Nat.le_refl _ | omega | (simp; done) | (simp; omega)) _) | (with_reducible refine Below.alloc ?_ (by first | exact Nat.le_refl _ | omega | (simp; done) | (simp; omega)) _) | with_reducible refine Below.drew ?_ | with_reducible refine bel_drewN ?_ _ | (with_reducible refine bel_by (by with_reducible assumption) (by first | exact Nat.le_refl _ | omega | (simp; done) | (simp; omega)) ?_)))
                have hB : Below w.heap.size w (w27.alloc (.cells #[.int .i64 s.1, .int .i64 s.2.1] 23)) := hP.trans (hK.mono hP.size)
                have c1_0_0 : (w27.alloc (.cells #[.int .i64 s.1, .int .i64 s.2.1] 23)).cell? ⟨w.heap.size, 0, none⟩ = some (.int .i64 an) := (hK.cell (p := ⟨w.heap.size, 0, none⟩) lt_c1_0_0).trans c1_0_0
                have c1_0_1 : (w27.alloc (.cells #[.int .i64 s.1, .int .i64 s.2.1] 23)).cell? ⟨w.heap.size, 1, none⟩ = some (.int .i64 ad) := (hK.cell (p := ⟨w.heap.size, 1, none⟩) lt_c1_0_1).trans c1_0_1
                have c1_1_0 : (w27.alloc (.cells #[.int .i64 s.1, .int .i64 s.2.1] 23)).cell? ⟨w.heap.size + 1, 0, none⟩ = some (.int .i64 bn) := (hK.cell (p := ⟨w.heap.size + 1, 0, none⟩) lt_c1_1_0).trans c1_1_0
                have c1_1_1 : (w27.alloc (.cells #[.int .i64 s.1, .int .i64 s.2.1] 23)).cell? ⟨w.heap.size + 1, 1, none⟩ = some (.int .i64 bd) := (hK.cell (p := ⟨w.heap.size + 1, 1, none⟩) lt_c1_1_1).trans c1_1_1
                have c1_2_0 : (w27.alloc (.cells #[.int .i64 s.1, .int .i64 s.2.1] 23)).cell? ⟨w.heap.size + 1 + 1, 0, none⟩ = some (.int .i64 cn) := (hK.cell (p := ⟨w.heap.size + 1 + 1, 0, none⟩) lt_c1_2_0).trans c1_2_0
                have c1_2_1 : (w27.alloc (.cells #[.int .i64 s.1, .int .i64 s.2.1] 23)).cell? ⟨w.heap.size + 1 + 1, 1, none⟩ = some (.int .i64 cd) := (hK.cell (p := ⟨w.heap.size + 1 + 1, 1, none⟩) lt_c1_2_1).trans c1_2_1
                have c5_0_0 : (w27.alloc (.cells #[.int .i64 s.1, .int .i64 s.2.1] 23)).cell? ⟨w4.heap.size, 0, none⟩ = some (.int .i64 t1.1) := (hK.cell (p := ⟨w4.heap.size, 0, none⟩) lt_c5_0_0).trans c5_0_0
                have c5_0_1 : (w27.alloc (.cells #[.int .i64 s.1, .int .i64 s.2.1] 23)).cell? ⟨w4.heap.size, 1, none⟩ = some (.int .i64 t1.2.1) := (hK.cell (p := ⟨w4.heap.size, 1, none⟩) lt_c5_0_1).trans c5_0_1
                have c6_0_0 : (w27.alloc (.cells #[.int .i64 s.1, .int .i64 s.2.1] 23)).cell? ⟨w5.heap.size, 0, none⟩ = some (.int .i64 t1.1) := (hK.cell (p := ⟨w5.heap.size, 0, none⟩) lt_c6_0_0).trans c6_0_0
                have c6_0_1 : (w27.alloc (.cells #[.int .i64 s.1, .int .i64 s.2.1] 23)).cell? ⟨w5.heap.size, 1, none⟩ = some (.int .i64 t1.2.1) := (hK.cell (p := ⟨w5.heap.size, 1, none⟩) lt_c6_0_1).trans c6_0_1
                have c7_0_0 : (w27.alloc (.cells #[.int .i64 s.1, .int .i64 s.2.1] 23)).cell? ⟨w6.heap.size, 0, none⟩ = some (.int .i64 t3.1) := (hK.cell (p := ⟨w6.heap.size, 0, none⟩) lt_c7_0_0).trans c7_0_0
                have c7_0_1 : (w27.alloc (.cells #[.int .i64 s.1, .int .i64 s.2.1] 23)).cell? ⟨w6.heap.size, 1, none⟩ = some (.int .i64 t3.2.1) := (hK.cell (p := ⟨w6.heap.size, 1, none⟩) lt_c7_0_1).trans c7_0_1
                have c19_0_0 : (w27.alloc (.cells #[.int .i64 s.1, .int .i64 s.2.1] 23)).cell? ⟨w18.heap.size, 0, none⟩ = some (.int .i64 u.1) := (hK.cell (p := ⟨w18.heap.size, 0, none⟩) lt_c19_0_0).trans c19_0_0
                have c19_0_1 : (w27.alloc (.cells #[.int .i64 s.1, .int .i64 s.2.1] 23)).cell? ⟨w18.heap.size, 1, none⟩ = some (.int .i64 u.2.1) := (hK.cell (p := ⟨w18.heap.size, 1, none⟩) lt_c19_0_1).trans c19_0_1
                have c21_0_0 : (w27.alloc (.cells #[.int .i64 s.1, .int .i64 s.2.1] 23)).cell? ⟨w20.heap.size, 0, none⟩ = some (.int .i64 p.1) := (hK.cell (p := ⟨w20.heap.size, 0, none⟩) lt_c21_0_0).trans c21_0_0
                have c21_0_1 : (w27.alloc (.cells #[.int .i64 s.1, .int .i64 s.2.1] 23)).cell? ⟨w20.heap.size, 1, none⟩ = some (.int .i64 p.2.1) := (hK.cell (p := ⟨w20.heap.size, 1, none⟩) lt_c21_0_1).trans c21_0_1
                have c22_0_0 : (w27.alloc (.cells #[.int .i64 s.1, .int .i64 s.2.1] 23)).cell? ⟨w21.heap.size, 0, none⟩ = some (.int .i64 p.1) := (hK.cell (p := ⟨w21.heap.size, 0, none⟩) lt_c22_0_0).trans c22_0_0
                have c22_0_1 : (w27.alloc (.cells #[.int .i64 s.1, .int .i64 s.2.1] 23)).cell? ⟨w21.heap.size, 1, none⟩ = some (.int .i64 p.2.1) := (hK.cell (p := ⟨w21.heap.size, 1, none⟩) lt_c22_0_1).trans c22_0_1
                have c23_0_0 : (w27.alloc (.cells #[.int .i64 s.1, .int .i64 s.2.1] 23)).cell? ⟨w22.heap.size, 0, none⟩ = some (.int .i64 r.1) := (hK.cell (p := ⟨w22.heap.size, 0, none⟩) lt_c23_0_0).trans c23_0_0
                have c23_0_1 : (w27.alloc (.cells #[.int .i64 s.1, .int .i64 s.2.1] 23)).cell? ⟨w22.heap.size, 1, none⟩ = some (.int .i64 r.2.1) := (hK.cell (p := ⟨w22.heap.size, 1, none⟩) lt_c23_0_1).trans c23_0_1
                have c24_0_0 : (w27.alloc (.cells #[.int .i64 s.1, .int .i64 s.2.1] 23)).cell? ⟨w23.heap.size, 0, none⟩ = some (.int .i64 s.1) := (hK.cell (p := ⟨w23.heap.size, 0, none⟩) lt_c24_0_0).trans c24_0_0
                have c24_0_1 : (w27.alloc (.cells #[.int .i64 s.1, .int .i64 s.2.1] 23)).cell? ⟨w23.heap.size, 1, none⟩ = some (.int .i64 s.2.1) := (hK.cell (p := ⟨w23.heap.size, 1, none⟩) lt_c24_0_1).trans c24_0_1
                have c25_0_0 : (w27.alloc (.cells #[.int .i64 s.1, .int .i64 s.2.1] 23)).cell? ⟨w24.heap.size, 0, none⟩ = some (.int .i64 q.1) := (hK.cell (p := ⟨w24.heap.size, 0, none⟩) lt_c25_0_0).trans c25_0_0
                have c25_0_1 : (w27.alloc (.cells #[.int .i64 s.1, .int .i64 s.2.1] 23)).cell? ⟨w24.heap.size, 1, none⟩ = some (.int .i64 q.2.1) := (hK.cell (p := ⟨w24.heap.size, 1, none⟩) lt_c25_0_1).trans c25_0_1
                have c28_0_0 : (w27.alloc (.cells #[.int .i64 s.1, .int .i64 s.2.1] 23)).cell? ⟨w27.heap.size, 0, none⟩ = some (.int .i64 s.1) := by simp [go_sem]
                have c28_0_1 : (w27.alloc (.cells #[.int .i64 s.1, .int .i64 s.2.1] 23)).cell? ⟨w27.heap.size, 1, none⟩ = some (.int .i64 s.2.1) := by simp [go_sem]
                have hz : (w27.alloc (.cells #[.int .i64 s.1, .int .i64 s.2.1] 23)).heap.size = w27.heap.size + 1 := by simp
                generalize (w27.alloc (.cells #[.int .i64 s.1, .int .i64 s.2.1] 23)) = wA28 at hB hK hz c1_0_0 c1_0_1 c1_1_0 c1_1_1 c1_2_0 c1_2_1 c5_0_0 c5_0_1 c6_0_0 c6_0_1 c7_0_0 c7_0_1 c19_0_0 c19_0_1 c21_0_0 c21_0_1 c22_0_0 c22_0_1 c23_0_0 c23_0_1 c24_0_0 c24_0_1 c25_0_0 c25_0_1 c28_0_0 c28_0_1 ⊢
                clear hK
                have lt_c1_0_0 : w.heap.size < wA28.heap.size := by omega
                have lt_c1_0_1 : w.heap.size < wA28.heap.size := by omega
                have lt_c1_1_0 : w.heap.size + 1 < wA28.heap.size := by omega
                have lt_c1_1_1 : w.heap.size + 1 < wA28.heap.size := by omega
                have lt_c1_2_0 : w.heap.size + 1 + 1 < wA28.heap.size := by omega
                have lt_c1_2_1 : w.heap.size + 1 + 1 < wA28.heap.size := by omega
                have lt_c5_0_0 : w4.heap.size < wA28.heap.size := by omega
                have lt_c5_0_1 : w4.heap.size < wA28.heap.size := by omega
                have lt_c6_0_0 : w5.heap.size < wA28.heap.size := by omega
                have lt_c6_0_1 : w5.heap.size < wA28.heap.size := by omega
                have lt_c7_0_0 : w6.heap.size < wA28.heap.size := by omega
                have lt_c7_0_1 : w6.heap.size < wA28.heap.size := by omega
                have lt_c19_0_0 : w18.heap.size < wA28.heap.size := by omega
                have lt_c19_0_1 : w18.heap.size < wA28.heap.size := by omega
                have lt_c21_0_0 : w20.heap.size < wA28.heap.size := by omega
                have lt_c21_0_1 : w20.heap.size < wA28.heap.size := by omega
                have lt_c22_0_0 : w21.heap.size < wA28.heap.size := by omega
                have lt_c22_0_1 : w21.heap.size < wA28.heap.size := by omega
                have lt_c23_0_0 : w22.heap.size < wA28.heap.size := by omega
                have lt_c23_0_1 : w22.heap.size < wA28.heap.size := by omega
                have lt_c24_0_0 : w23.heap.size < wA28.heap.size := by omega
                have lt_c24_0_1 : w23.heap.size < wA28.heap.size := by omega
                have lt_c25_0_0 : w24.heap.size < wA28.heap.size := by omega
                have lt_c25_0_1 : w24.heap.size < wA28.heap.size := by omega
                have lt_c28_0_0 : w27.heap.size < wA28.heap.size := by omega
                have lt_c28_0_1 : w27.heap.size < wA28.heap.size := by omega
                clear hP HB
                have HB := Lib.hid hB
                clear hB hz
                have hT := HT.out.below HB.out
                refine (awake_any _ hT).mono ?_
                rintro e w28 ⟨rfl, hb⟩
                have c1_0_0 := (hb.cell (p := ⟨w.heap.size, 0, none⟩) lt_c1_0_0).trans c1_0_0
                have c1_0_1 := (hb.cell (p := ⟨w.heap.size, 1, none⟩) lt_c1_0_1).trans c1_0_1
                have c1_1_0 := (hb.cell (p := ⟨w.heap.size + 1, 0, none⟩) lt_c1_1_0).trans c1_1_0
                have c1_1_1 := (hb.cell (p := ⟨w.heap.size + 1, 1, none⟩) lt_c1_1_1).trans c1_1_1
                have c1_2_0 := (hb.cell (p := ⟨w.heap.size + 1 + 1, 0, none⟩) lt_c1_2_0).trans c1_2_0
                have c1_2_1 := (hb.cell (p := ⟨w.heap.size + 1 + 1, 1, none⟩) lt_c1_2_1).trans c1_2_1
                have c5_0_0 := (hb.cell (p := ⟨w4.heap.size, 0, none⟩) lt_c5_0_0).trans c5_0_0
                have c5_0_1 := (hb.cell (p := ⟨w4.heap.size, 1, none⟩) lt_c5_0_1).trans c5_0_1
                have c6_0_0 := (hb.cell (p := ⟨w5.heap.size, 0, none⟩) lt_c6_0_0).trans c6_0_0
                have c6_0_1 := (hb.cell (p := ⟨w5.heap.size, 1, none⟩) lt_c6_0_1).trans c6_0_1
                have c7_0_0 := (hb.cell (p := ⟨w6.heap.size, 0, none⟩) lt_c7_0_0).trans c7_0_0
                have c7_0_1 := (hb.cell (p := ⟨w6.heap.size, 1, none⟩) lt_c7_0_1).trans c7_0_1
                have c19_0_0 := (hb.cell (p := ⟨w18.heap.size, 0, none⟩) lt_c19_0_0).trans c19_0_0
                have c19_0_1 := (hb.cell (p := ⟨w18.heap.size, 1, none⟩) lt_c19_0_1).trans c19_0_1
                have c21_0_0 := (hb.cell (p := ⟨w20.heap.size, 0, none⟩) lt_c21_0_0).trans c21_0_0
                have c21_0_1 := (hb.cell (p := ⟨w20.heap.size, 1, none⟩) lt_c21_0_1).trans c21_0_1
                have c22_0_0 := (hb.cell (p := ⟨w21.heap.size, 0, none⟩) lt_c22_0_0).trans c22_0_0
                have c22_0_1 := (hb.cell (p := ⟨w21.heap.size, 1, none⟩) lt_c22_0_1).trans c22_0_1
                have c23_0_0 := (hb.cell (p := ⟨w22.heap.size, 0, none⟩) lt_c23_0_0).trans c23_0_0
                have c23_0_1 := (hb.cell (p := ⟨w22.heap.size, 1, none⟩) lt_c23_0_1).trans c23_0_1
                have c24_0_0 := (hb.cell (p := ⟨w23.heap.size, 0, none⟩) lt_c24_0_0).trans c24_0_0
                have c24_0_1 := (hb.cell (p := ⟨w23.heap.size, 1, none⟩) lt_c24_0_1).trans c24_0_1
                have c25_0_0 := (hb.cell (p := ⟨w24.heap.size, 0, none⟩) lt_c25_0_0).trans c25_0_0
                have c25_0_1 := (hb.cell (p := ⟨w24.heap.size, 1, none⟩) lt_c25_0_1).trans c25_0_1
                have c28_0_0 := (hb.cell (p := ⟨w27.heap.size, 0, none⟩) lt_c28_0_0).trans c28_0_0
                have c28_0_1 := (hb.cell (p := ⟨w27.heap.size, 1, none⟩) lt_c28_0_1).trans c28_0_1
                have hz := bsize hb
                try simp at hz
                have lt_c1_0_0 : w.heap.size < w28.heap.size := by omega
                have lt_c1_0_1 : w.heap.size < w28.heap.size := by omega
                have lt_c1_1_0 : w.heap.size + 1 < w28.heap.size := by omega
                have lt_c1_1_1 : w.heap.size + 1 < w28.heap.size := by omega
                have lt_c1_2_0 : w.heap.size + 1 + 1 < w28.heap.size := by omega
                have lt_c1_2_1 : w.heap.size + 1 + 1 < w28.heap.size := by omega
                have lt_c5_0_0 : w4.heap.size < w28.heap.size := by omega
                have lt_c5_0_1 : w4.heap.size < w28.heap.size := by omega
                have lt_c6_0_0 : w5.heap.size < w28.heap.size := by omega
                have lt_c6_0_1 : w5.heap.size < w28.heap.size := by omega
                have lt_c7_0_0 : w6.heap.size < w28.heap.size := by omega
                have lt_c7_0_1 : w6.heap.size < w28.heap.size := by omega
                have lt_c19_0_0 : w18.heap.size < w28.heap.size := by omega
                have lt_c19_0_1 : w18.heap.size < w28.heap.size := by omega
                have lt_c21_0_0 : w20.heap.size < w28.heap.size := by omega
                have lt_c21_0_1 : w20.heap.size < w28.heap.size := by omega
                have lt_c22_0_0 : w21.heap.size < w28.heap.size := by omega
                have lt_c22_0_1 : w21.heap.size < w28.heap.size := by omega
                have lt_c23_0_0 : w22.heap.size < w28.heap.size := by omega
                have lt_c23_0_1 : w22.heap.size < w28.heap.size := by omega
                have lt_c24_0_0 : w23.heap.size < w28.heap.size := by omega
                have lt_c24_0_1 : w23.heap.size < w28.heap.size := by omega
                have lt_c25_0_0 : w24.heap.size < w28.heap.size := by omega
                have lt_c25_0_1 : w24.heap.size < w28.heap.size := by omega
                have lt_c28_0_0 : w27.heap.size < w28.heap.size := by omega
                have lt_c28_0_1 : w27.heap.size < w28.heap.size := by omega
                have hB := HB.out.trans (hb.mono HB.out.size)
                clear HB
                have HB := Lib.hid hB
                clear hB
                clear hb hz
                go_wp2
                go_ret
                have hB := HB.out
                exact ⟨rfl, (by repeat (first | with_reducible exact Below.refl _ _ | (with_reducible refine Below.setCell ?_ (by first | exact Nat.le_refl _ | omega | (simp; done) | (simp; omega)) _) | (with_reducible refine Below.alloc ?_ (by first | exact Nat.le_refl _ | omega | (simp; done) | (simp; omega)) _) | with_reducible refine Below.drew ?_ | with_reducible refine bel_drewN ?_ _ | (with_reducible refine bel_by (by with_reducible assumption) (by first | exact Nat.le_refl _ | omega | (simp; done) | (simp; omega)) ?_)))⟩

theorem field_walk (an ad bn bd cn cd : Int) (A1 : -9223372036854775808 ≤ an) (A2 : an ≤ 9223372036854775807) (A3 : -9223372036854775808 ≤ ad) (A4 : ad ≤ 9223372036854775807) (B1 : -9223372036854775808 ≤ bn) (B2 : bn ≤ 9223372036854775807) (B3 : -9223372036854775808 ≤ bd) (B4 : bd ≤ 9223372036854775807) (D1 : -9223372036854775808 ≤ cn) (D2 : cn ≤ 9223372036854775807) (D3 : -9223372036854775808 ≤ cd) (D4 : cd ≤ 9223372036854775807) (w : World) (ht : TabW w) :
    Calls Tryd.prog 6 #[.agg #[.int .i64 an, .int .i64 ad], .agg #[.int .i64 bn, .int .i64 bd], .agg #[.int .i64 cn, .int .i64 cd]] w fun e w' => e = .returned (.bool true) ∧ Below w.heap.size w w' := by
  cases av : vldI an ad with
  | false => exact field_no1 an ad bn bd cn cd A1 A2 A3 A4 B1 B2 B3 B4 D1 D2 D3 D4 av w ht
  | true =>
    cases bv : vldI bn bd with
    | false => exact field_no2 an ad bn bd cn cd A1 A2 A3 A4 B1 B2 B3 B4 D1 D2 D3 D4 av bv w ht
    | true =>
      cases cv : vldI cn cd with
      | false => exact field_no3 an ad bn bd cn cd A1 A2 A3 A4 B1 B2 B3 B4 D1 D2 D3 D4 av bv cv w ht
      | true => exact field_yes an ad bn bd cn cd A1 A2 A3 A4 B1 B2 B3 B4 D1 D2 D3 D4 av bv cv w ht
end Go.Proofs.YtfdalnkdeeminaaDoor
