/- The law FractionAdds: its walk. -/
import Derived.Test.YtfdalnkdeeminaaDoorRefH
import Derived.Test.YtfdalnkdeeminaaDoorNumK
import Derived.Test.YtfdalnkdeeminaaDoorAwake
set_option linter.unusedSimpArgs false
set_option linter.unusedVariables false
namespace Go.Proofs.YtfdalnkdeeminaaDoor
open Go.RowKit

set_option maxHeartbeats 8000000 in
set_option maxRecDepth 100000 in
theorem adds_walk (an ad bn bd : Int) (A1 : -9223372036854775808 ≤ an) (A2 : an ≤ 9223372036854775807) (A3 : -9223372036854775808 ≤ ad) (A4 : ad ≤ 9223372036854775807) (B1 : -9223372036854775808 ≤ bn) (B2 : bn ≤ 9223372036854775807) (B3 : -9223372036854775808 ≤ bd) (B4 : bd ≤ 9223372036854775807) (w : World) (ht : TabW w) :
    Calls Tryd.prog 4 #[.agg #[.int .i64 an, .int .i64 ad], .agg #[.int .i64 bn, .int .i64 bd]] w fun e w' => e = .returned (.bool true) ∧ Below w.heap.size w w' := by
  have W1 : Wf64 (an, ad) := ⟨A1, A2, A3, A4⟩
  have W2 : Wf64 (bn, bd) := ⟨B1, B2, B3, B4⟩
  have HT := Lib.hid ht
  clear ht
  have C1 := Lib.hid (fun W => add_any an ad bn bd W1 W2 W)
  have C2 := Lib.hid (fun W => radd_any an ad bn bd W1 W2 W)
  have C3 := Lib.hid (fun W => sub_any an ad bn bd W1 W2 W)
  have C4 := Lib.hid (fun W => rsub_any an ad bn bd W1 W2 W)
  generalize addS an ad bn bd = t1 at *
  generalize subS an ad bn bd = t2 at *
  clear W1 W2 A1 A2 A3 A4 B1 B2 B3 B4
  go_enter Tryd.func4, Tryd.ntmps4
  go_wp2_with fail
  have hK : Below w.heap.size w ((w.alloc (.cells #[.int .i64 an, .int .i64 ad] 23)).alloc (.cells #[.int .i64 bn, .int .i64 bd] 23)) := (by repeat (first | with_reducible exact Below.refl _ _ | (with_reducible refine Below.setCell ?_ (by first | exact Nat.le_refl _ | omega | (simp; done) | (simp; omega)) _) | (with_reducible refine Below.alloc ?_ (by first | exact Nat.le_refl _ | omega | (simp; done) | (simp; omega)) _) | with_reducible refine Below.drew ?_ | with_reducible refine bel_drewN ?_ _ | (with_reducible refine bel_by (by with_reducible assumption) (by first | exact Nat.le_refl _ | omega | (simp; done) | (simp; omega)) ?_)))
  have hB := hK
  have c1_0_0 : ((w.alloc (.cells #[.int .i64 an, .int .i64 ad] 23)).alloc (.cells #[.int .i64 bn, .int .i64 bd] 23)).cell? ⟨w.heap.size, 0, none⟩ = some (.int .i64 an) := by simp [go_sem]
  have c1_0_1 : ((w.alloc (.cells #[.int .i64 an, .int .i64 ad] 23)).alloc (.cells #[.int .i64 bn, .int .i64 bd] 23)).cell? ⟨w.heap.size, 1, none⟩ = some (.int .i64 ad) := by simp [go_sem]
  have c1_1_0 : ((w.alloc (.cells #[.int .i64 an, .int .i64 ad] 23)).alloc (.cells #[.int .i64 bn, .int .i64 bd] 23)).cell? ⟨w.heap.size + 1, 0, none⟩ = some (.int .i64 bn) := by simp [go_sem]
  have c1_1_1 : ((w.alloc (.cells #[.int .i64 an, .int .i64 ad] 23)).alloc (.cells #[.int .i64 bn, .int .i64 bd] 23)).cell? ⟨w.heap.size + 1, 1, none⟩ = some (.int .i64 bd) := by simp [go_sem]
  have hz : ((w.alloc (.cells #[.int .i64 an, .int .i64 ad] 23)).alloc (.cells #[.int .i64 bn, .int .i64 bd] 23)).heap.size = w.heap.size + 2 := by simp
  generalize ((w.alloc (.cells #[.int .i64 an, .int .i64 ad] 23)).alloc (.cells #[.int .i64 bn, .int .i64 bd] 23)) = wA1 at hB hK hz c1_0_0 c1_0_1 c1_1_0 c1_1_1 ⊢
  clear hK
  have lt_c1_0_0 : w.heap.size < wA1.heap.size := by omega
  have lt_c1_0_1 : w.heap.size < wA1.heap.size := by omega
  have lt_c1_1_0 : w.heap.size + 1 < wA1.heap.size := by omega
  have lt_c1_1_1 : w.heap.size + 1 < wA1.heap.size := by omega
  have HB := Lib.hid hB
  clear hB hz
  refine (C1.out _).mono ?_
  rintro e w1 ⟨rfl, hb⟩
  have c1_0_0 := (hb.cell (p := ⟨w.heap.size, 0, none⟩) lt_c1_0_0).trans c1_0_0
  have c1_0_1 := (hb.cell (p := ⟨w.heap.size, 1, none⟩) lt_c1_0_1).trans c1_0_1
  have c1_1_0 := (hb.cell (p := ⟨w.heap.size + 1, 0, none⟩) lt_c1_1_0).trans c1_1_0
  have c1_1_1 := (hb.cell (p := ⟨w.heap.size + 1, 1, none⟩) lt_c1_1_1).trans c1_1_1
  have hz := bsize hb
  try simp at hz
  have lt_c1_0_0 : w.heap.size < w1.heap.size := by omega
  have lt_c1_0_1 : w.heap.size < w1.heap.size := by omega
  have lt_c1_1_0 : w.heap.size + 1 < w1.heap.size := by omega
  have lt_c1_1_1 : w.heap.size + 1 < w1.heap.size := by omega
  have hB := HB.out.trans (hb.mono HB.out.size)
  clear HB
  have HB := Lib.hid hB
  clear hB
  clear hb hz
  go_wp2_with fail
  have hP := HB.out
  have hK : Below w1.heap.size w1 (w1.alloc (.cells #[.int .i64 t1.1, .int .i64 t1.2.1] 23)) := (by repeat (first | with_reducible exact Below.refl _ _ | (with_reducible refine Below.setCell ?_ (by first | exact Nat.le_refl _ | omega | (simp; done) | (simp; omega)) _) | (with_reducible refine Below.alloc ?_ (by first | exact Nat.le_refl _ | omega | (simp; done) | (simp; omega)) _) | with_reducible refine Below.drew ?_ | with_reducible refine bel_drewN ?_ _ | (with_reducible refine bel_by (by with_reducible assumption) (by first | exact Nat.le_refl _ | omega | (simp; done) | (simp; omega)) ?_)))
  have hB : Below w.heap.size w (w1.alloc (.cells #[.int .i64 t1.1, .int .i64 t1.2.1] 23)) := hP.trans (hK.mono hP.size)
  have c1_0_0 : (w1.alloc (.cells #[.int .i64 t1.1, .int .i64 t1.2.1] 23)).cell? ⟨w.heap.size, 0, none⟩ = some (.int .i64 an) := (hK.cell (p := ⟨w.heap.size, 0, none⟩) lt_c1_0_0).trans c1_0_0
  have c1_0_1 : (w1.alloc (.cells #[.int .i64 t1.1, .int .i64 t1.2.1] 23)).cell? ⟨w.heap.size, 1, none⟩ = some (.int .i64 ad) := (hK.cell (p := ⟨w.heap.size, 1, none⟩) lt_c1_0_1).trans c1_0_1
  have c1_1_0 : (w1.alloc (.cells #[.int .i64 t1.1, .int .i64 t1.2.1] 23)).cell? ⟨w.heap.size + 1, 0, none⟩ = some (.int .i64 bn) := (hK.cell (p := ⟨w.heap.size + 1, 0, none⟩) lt_c1_1_0).trans c1_1_0
  have c1_1_1 : (w1.alloc (.cells #[.int .i64 t1.1, .int .i64 t1.2.1] 23)).cell? ⟨w.heap.size + 1, 1, none⟩ = some (.int .i64 bd) := (hK.cell (p := ⟨w.heap.size + 1, 1, none⟩) lt_c1_1_1).trans c1_1_1
  have c2_0_0 : (w1.alloc (.cells #[.int .i64 t1.1, .int .i64 t1.2.1] 23)).cell? ⟨w1.heap.size, 0, none⟩ = some (.int .i64 t1.1) := by simp [go_sem]
  have c2_0_1 : (w1.alloc (.cells #[.int .i64 t1.1, .int .i64 t1.2.1] 23)).cell? ⟨w1.heap.size, 1, none⟩ = some (.int .i64 t1.2.1) := by simp [go_sem]
  have hz : (w1.alloc (.cells #[.int .i64 t1.1, .int .i64 t1.2.1] 23)).heap.size = w1.heap.size + 1 := by simp
  generalize (w1.alloc (.cells #[.int .i64 t1.1, .int .i64 t1.2.1] 23)) = wA2 at hB hK hz c1_0_0 c1_0_1 c1_1_0 c1_1_1 c2_0_0 c2_0_1 ⊢
  clear hK
  have lt_c1_0_0 : w.heap.size < wA2.heap.size := by omega
  have lt_c1_0_1 : w.heap.size < wA2.heap.size := by omega
  have lt_c1_1_0 : w.heap.size + 1 < wA2.heap.size := by omega
  have lt_c1_1_1 : w.heap.size + 1 < wA2.heap.size := by omega
  have lt_c2_0_0 : w1.heap.size < wA2.heap.size := by omega
  have lt_c2_0_1 : w1.heap.size < wA2.heap.size := by omega
  clear hP HB
  have HB := Lib.hid hB
  clear hB hz
  refine (C2.out _).mono ?_
  rintro e w2 ⟨rfl, hb⟩
  have c1_0_0 := (hb.cell (p := ⟨w.heap.size, 0, none⟩) lt_c1_0_0).trans c1_0_0
  have c1_0_1 := (hb.cell (p := ⟨w.heap.size, 1, none⟩) lt_c1_0_1).trans c1_0_1
  have c1_1_0 := (hb.cell (p := ⟨w.heap.size + 1, 0, none⟩) lt_c1_1_0).trans c1_1_0
  have c1_1_1 := (hb.cell (p := ⟨w.heap.size + 1, 1, none⟩) lt_c1_1_1).trans c1_1_1
  have c2_0_0 := (hb.cell (p := ⟨w1.heap.size, 0, none⟩) lt_c2_0_0).trans c2_0_0
  have c2_0_1 := (hb.cell (p := ⟨w1.heap.size, 1, none⟩) lt_c2_0_1).trans c2_0_1
  have hz := bsize hb
  try simp at hz
  have lt_c1_0_0 : w.heap.size < w2.heap.size := by omega
  have lt_c1_0_1 : w.heap.size < w2.heap.size := by omega
  have lt_c1_1_0 : w.heap.size + 1 < w2.heap.size := by omega
  have lt_c1_1_1 : w.heap.size + 1 < w2.heap.size := by omega
  have lt_c2_0_0 : w1.heap.size < w2.heap.size := by omega
  have lt_c2_0_1 : w1.heap.size < w2.heap.size := by omega
  have hB := HB.out.trans (hb.mono HB.out.size)
  clear HB
  have HB := Lib.hid hB
  clear hB
  clear hb hz
  go_wp2_with fail
  have hP := HB.out
  have hK : Below w2.heap.size w2 (w2.alloc (.cells #[.int .i64 t1.1, .int .i64 t1.2.1] 23)) := (by repeat (first | with_reducible exact Below.refl _ _ | (with_reducible refine Below.setCell ?_ (by first | exact Nat.le_refl _ | omega | (simp; done) | (simp; omega)) _) | (with_reducible refine Below.alloc ?_ (by first | exact Nat.le_refl _ | omega | (simp; done) | (simp; omega)) _) | with_reducible refine Below.drew ?_ | with_reducible refine bel_drewN ?_ _ | (with_reducible refine bel_by (by with_reducible assumption) (by first | exact Nat.le_refl _ | omega | (simp; done) | (simp; omega)) ?_)))
  have hB : Below w.heap.size w (w2.alloc (.cells #[.int .i64 t1.1, .int .i64 t1.2.1] 23)) := hP.trans (hK.mono hP.size)
  have c1_0_0 : (w2.alloc (.cells #[.int .i64 t1.1, .int .i64 t1.2.1] 23)).cell? ⟨w.heap.size, 0, none⟩ = some (.int .i64 an) := (hK.cell (p := ⟨w.heap.size, 0, none⟩) lt_c1_0_0).trans c1_0_0
  have c1_0_1 : (w2.alloc (.cells #[.int .i64 t1.1, .int .i64 t1.2.1] 23)).cell? ⟨w.heap.size, 1, none⟩ = some (.int .i64 ad) := (hK.cell (p := ⟨w.heap.size, 1, none⟩) lt_c1_0_1).trans c1_0_1
  have c1_1_0 : (w2.alloc (.cells #[.int .i64 t1.1, .int .i64 t1.2.1] 23)).cell? ⟨w.heap.size + 1, 0, none⟩ = some (.int .i64 bn) := (hK.cell (p := ⟨w.heap.size + 1, 0, none⟩) lt_c1_1_0).trans c1_1_0
  have c1_1_1 : (w2.alloc (.cells #[.int .i64 t1.1, .int .i64 t1.2.1] 23)).cell? ⟨w.heap.size + 1, 1, none⟩ = some (.int .i64 bd) := (hK.cell (p := ⟨w.heap.size + 1, 1, none⟩) lt_c1_1_1).trans c1_1_1
  have c2_0_0 : (w2.alloc (.cells #[.int .i64 t1.1, .int .i64 t1.2.1] 23)).cell? ⟨w1.heap.size, 0, none⟩ = some (.int .i64 t1.1) := (hK.cell (p := ⟨w1.heap.size, 0, none⟩) lt_c2_0_0).trans c2_0_0
  have c2_0_1 : (w2.alloc (.cells #[.int .i64 t1.1, .int .i64 t1.2.1] 23)).cell? ⟨w1.heap.size, 1, none⟩ = some (.int .i64 t1.2.1) := (hK.cell (p := ⟨w1.heap.size, 1, none⟩) lt_c2_0_1).trans c2_0_1
  have c3_0_0 : (w2.alloc (.cells #[.int .i64 t1.1, .int .i64 t1.2.1] 23)).cell? ⟨w2.heap.size, 0, none⟩ = some (.int .i64 t1.1) := by simp [go_sem]
  have c3_0_1 : (w2.alloc (.cells #[.int .i64 t1.1, .int .i64 t1.2.1] 23)).cell? ⟨w2.heap.size, 1, none⟩ = some (.int .i64 t1.2.1) := by simp [go_sem]
  have hz : (w2.alloc (.cells #[.int .i64 t1.1, .int .i64 t1.2.1] 23)).heap.size = w2.heap.size + 1 := by simp
  generalize (w2.alloc (.cells #[.int .i64 t1.1, .int .i64 t1.2.1] 23)) = wA3 at hB hK hz c1_0_0 c1_0_1 c1_1_0 c1_1_1 c2_0_0 c2_0_1 c3_0_0 c3_0_1 ⊢
  clear hK
  have lt_c1_0_0 : w.heap.size < wA3.heap.size := by omega
  have lt_c1_0_1 : w.heap.size < wA3.heap.size := by omega
  have lt_c1_1_0 : w.heap.size + 1 < wA3.heap.size := by omega
  have lt_c1_1_1 : w.heap.size + 1 < wA3.heap.size := by omega
  have lt_c2_0_0 : w1.heap.size < wA3.heap.size := by omega
  have lt_c2_0_1 : w1.heap.size < wA3.heap.size := by omega
  have lt_c3_0_0 : w2.heap.size < wA3.heap.size := by omega
  have lt_c3_0_1 : w2.heap.size < wA3.heap.size := by omega
  clear hP HB
  have HB := Lib.hid hB
  clear hB hz
  refine (C3.out _).mono ?_
  rintro e w3 ⟨rfl, hb⟩
  have c1_0_0 := (hb.cell (p := ⟨w.heap.size, 0, none⟩) lt_c1_0_0).trans c1_0_0
  have c1_0_1 := (hb.cell (p := ⟨w.heap.size, 1, none⟩) lt_c1_0_1).trans c1_0_1
  have c1_1_0 := (hb.cell (p := ⟨w.heap.size + 1, 0, none⟩) lt_c1_1_0).trans c1_1_0
  have c1_1_1 := (hb.cell (p := ⟨w.heap.size + 1, 1, none⟩) lt_c1_1_1).trans c1_1_1
  have c2_0_0 := (hb.cell (p := ⟨w1.heap.size, 0, none⟩) lt_c2_0_0).trans c2_0_0
  have c2_0_1 := (hb.cell (p := ⟨w1.heap.size, 1, none⟩) lt_c2_0_1).trans c2_0_1
  have c3_0_0 := (hb.cell (p := ⟨w2.heap.size, 0, none⟩) lt_c3_0_0).trans c3_0_0
  have c3_0_1 := (hb.cell (p := ⟨w2.heap.size, 1, none⟩) lt_c3_0_1).trans c3_0_1
  have hz := bsize hb
  try simp at hz
  have lt_c1_0_0 : w.heap.size < w3.heap.size := by omega
  have lt_c1_0_1 : w.heap.size < w3.heap.size := by omega
  have lt_c1_1_0 : w.heap.size + 1 < w3.heap.size := by omega
  have lt_c1_1_1 : w.heap.size + 1 < w3.heap.size := by omega
  have lt_c2_0_0 : w1.heap.size < w3.heap.size := by omega
  have lt_c2_0_1 : w1.heap.size < w3.heap.size := by omega
  have lt_c3_0_0 : w2.heap.size < w3.heap.size := by omega
  have lt_c3_0_1 : w2.heap.size < w3.heap.size := by omega
  have hB := HB.out.trans (hb.mono HB.out.size)
  clear HB
  have HB := Lib.hid hB
  clear hB
  clear hb hz
  go_wp2_with fail
  have hP := HB.out
  have hK : Below w3.heap.size w3 (w3.alloc (.cells #[.int .i64 t2.1, .int .i64 t2.2.1] 23)) := (by repeat (first | with_reducible exact Below.refl _ _ | (with_reducible refine Below.setCell ?_ (by first | exact Nat.le_refl _ | omega | (simp; done) | (simp; omega)) _) | (with_reducible refine Below.alloc ?_ (by first | exact Nat.le_refl _ | omega | (simp; done) | (simp; omega)) _) | with_reducible refine Below.drew ?_ | with_reducible refine bel_drewN ?_ _ | (with_reducible refine bel_by (by with_reducible assumption) (by first | exact Nat.le_refl _ | omega | (simp; done) | (simp; omega)) ?_)))
  have hB : Below w.heap.size w (w3.alloc (.cells #[.int .i64 t2.1, .int .i64 t2.2.1] 23)) := hP.trans (hK.mono hP.size)
  have c1_0_0 : (w3.alloc (.cells #[.int .i64 t2.1, .int .i64 t2.2.1] 23)).cell? ⟨w.heap.size, 0, none⟩ = some (.int .i64 an) := (hK.cell (p := ⟨w.heap.size, 0, none⟩) lt_c1_0_0).trans c1_0_0
  have c1_0_1 : (w3.alloc (.cells #[.int .i64 t2.1, .int .i64 t2.2.1] 23)).cell? ⟨w.heap.size, 1, none⟩ = some (.int .i64 ad) := (hK.cell (p := ⟨w.heap.size, 1, none⟩) lt_c1_0_1).trans c1_0_1
  have c1_1_0 : (w3.alloc (.cells #[.int .i64 t2.1, .int .i64 t2.2.1] 23)).cell? ⟨w.heap.size + 1, 0, none⟩ = some (.int .i64 bn) := (hK.cell (p := ⟨w.heap.size + 1, 0, none⟩) lt_c1_1_0).trans c1_1_0
  have c1_1_1 : (w3.alloc (.cells #[.int .i64 t2.1, .int .i64 t2.2.1] 23)).cell? ⟨w.heap.size + 1, 1, none⟩ = some (.int .i64 bd) := (hK.cell (p := ⟨w.heap.size + 1, 1, none⟩) lt_c1_1_1).trans c1_1_1
  have c2_0_0 : (w3.alloc (.cells #[.int .i64 t2.1, .int .i64 t2.2.1] 23)).cell? ⟨w1.heap.size, 0, none⟩ = some (.int .i64 t1.1) := (hK.cell (p := ⟨w1.heap.size, 0, none⟩) lt_c2_0_0).trans c2_0_0
  have c2_0_1 : (w3.alloc (.cells #[.int .i64 t2.1, .int .i64 t2.2.1] 23)).cell? ⟨w1.heap.size, 1, none⟩ = some (.int .i64 t1.2.1) := (hK.cell (p := ⟨w1.heap.size, 1, none⟩) lt_c2_0_1).trans c2_0_1
  have c3_0_0 : (w3.alloc (.cells #[.int .i64 t2.1, .int .i64 t2.2.1] 23)).cell? ⟨w2.heap.size, 0, none⟩ = some (.int .i64 t1.1) := (hK.cell (p := ⟨w2.heap.size, 0, none⟩) lt_c3_0_0).trans c3_0_0
  have c3_0_1 : (w3.alloc (.cells #[.int .i64 t2.1, .int .i64 t2.2.1] 23)).cell? ⟨w2.heap.size, 1, none⟩ = some (.int .i64 t1.2.1) := (hK.cell (p := ⟨w2.heap.size, 1, none⟩) lt_c3_0_1).trans c3_0_1
  have c4_0_0 : (w3.alloc (.cells #[.int .i64 t2.1, .int .i64 t2.2.1] 23)).cell? ⟨w3.heap.size, 0, none⟩ = some (.int .i64 t2.1) := by simp [go_sem]
  have c4_0_1 : (w3.alloc (.cells #[.int .i64 t2.1, .int .i64 t2.2.1] 23)).cell? ⟨w3.heap.size, 1, none⟩ = some (.int .i64 t2.2.1) := by simp [go_sem]
  have hz : (w3.alloc (.cells #[.int .i64 t2.1, .int .i64 t2.2.1] 23)).heap.size = w3.heap.size + 1 := by simp
  generalize (w3.alloc (.cells #[.int .i64 t2.1, .int .i64 t2.2.1] 23)) = wA4 at hB hK hz c1_0_0 c1_0_1 c1_1_0 c1_1_1 c2_0_0 c2_0_1 c3_0_0 c3_0_1 c4_0_0 c4_0_1 ⊢
  clear hK
  have lt_c1_0_0 : w.heap.size < wA4.heap.size := by omega
  have lt_c1_0_1 : w.heap.size < wA4.heap.size := by omega
  have lt_c1_1_0 : w.heap.size + 1 < wA4.heap.size := by omega
  have lt_c1_1_1 : w.heap.size + 1 < wA4.heap.size := by omega
  have lt_c2_0_0 : w1.heap.size < wA4.heap.size := by omega
  have lt_c2_0_1 : w1.heap.size < wA4.heap.size := by omega
  have lt_c3_0_0 : w2.heap.size < wA4.heap.size := by omega
  have lt_c3_0_1 : w2.heap.size < wA4.heap.size := by omega
  have lt_c4_0_0 : w3.heap.size < wA4.heap.size := by omega
  have lt_c4_0_1 : w3.heap.size < wA4.heap.size := by omega
  clear hP HB
  have HB := Lib.hid hB
  clear hB hz
  refine (C4.out _).mono ?_
  rintro e w4 ⟨rfl, hb⟩
  have c1_0_0 := (hb.cell (p := ⟨w.heap.size, 0, none⟩) lt_c1_0_0).trans c1_0_0
  have c1_0_1 := (hb.cell (p := ⟨w.heap.size, 1, none⟩) lt_c1_0_1).trans c1_0_1
  have c1_1_0 := (hb.cell (p := ⟨w.heap.size + 1, 0, none⟩) lt_c1_1_0).trans c1_1_0
  have c1_1_1 := (hb.cell (p := ⟨w.heap.size + 1, 1, none⟩) lt_c1_1_1).trans c1_1_1
  have c2_0_0 := (hb.cell (p := ⟨w1.heap.size, 0, none⟩) lt_c2_0_0).trans c2_0_0
  have c2_0_1 := (hb.cell (p := ⟨w1.heap.size, 1, none⟩) lt_c2_0_1).trans c2_0_1
  have c3_0_0 := (hb.cell (p := ⟨w2.heap.size, 0, none⟩) lt_c3_0_0).trans c3_0_0
  have c3_0_1 := (hb.cell (p := ⟨w2.heap.size, 1, none⟩) lt_c3_0_1).trans c3_0_1
  have c4_0_0 := (hb.cell (p := ⟨w3.heap.size, 0, none⟩) lt_c4_0_0).trans c4_0_0
  have c4_0_1 := (hb.cell (p := ⟨w3.heap.size, 1, none⟩) lt_c4_0_1).trans c4_0_1
  have hz := bsize hb
  try simp at hz
  have lt_c1_0_0 : w.heap.size < w4.heap.size := by omega
  have lt_c1_0_1 : w.heap.size < w4.heap.size := by omega
  have lt_c1_1_0 : w.heap.size + 1 < w4.heap.size := by omega
  have lt_c1_1_1 : w.heap.size + 1 < w4.heap.size := by omega
  have lt_c2_0_0 : w1.heap.size < w4.heap.size := by omega
  have lt_c2_0_1 : w1.heap.size < w4.heap.size := by omega
  have lt_c3_0_0 : w2.heap.size < w4.heap.size := by omega
  have lt_c3_0_1 : w2.heap.size < w4.heap.size := by omega
  have lt_c4_0_0 : w3.heap.size < w4.heap.size := by omega
  have lt_c4_0_1 : w3.heap.size < w4.heap.size := by omega
  have hB := HB.out.trans (hb.mono HB.out.size)
  clear HB
  have HB := Lib.hid hB
  clear hB
  clear hb hz
  go_wp2_with fail
  have hP := HB.out
  have hK : Below w4.heap.size w4 (w4.alloc (.cells #[.int .i64 t2.1, .int .i64 t2.2.1] 23)) := (by repeat (first | with_reducible exact Below.refl _ _ | (with_reducible refine Below.setCell ?_ (by first | exact Nat.le_refl _ | omega | (simp; done) | (simp; omega)) _) | (with_reducible refine Below.alloc ?_ (by first | exact Nat.le_refl _ | omega | (simp; done) | (simp; omega)) _) | with_reducible refine Below.drew ?_ | with_reducible refine bel_drewN ?_ _ | (with_reducible refine bel_by (by with_reducible assumption) (by first | exact Nat.le_refl _ | omega | (simp; done) | (simp; omega)) ?_)))
  have hB : Below w.heap.size w (w4.alloc (.cells #[.int .i64 t2.1, .int .i64 t2.2.1] 23)) := hP.trans (hK.mono hP.size)
  have c1_0_0 : (w4.alloc (.cells #[.int .i64 t2.1, .int .i64 t2.2.1] 23)).cell? ⟨w.heap.size, 0, none⟩ = some (.int .i64 an) := (hK.cell (p := ⟨w.heap.size, 0, none⟩) lt_c1_0_0).trans c1_0_0
  have c1_0_1 : (w4.alloc (.cells #[.int .i64 t2.1, .int .i64 t2.2.1] 23)).cell? ⟨w.heap.size, 1, none⟩ = some (.int .i64 ad) := (hK.cell (p := ⟨w.heap.size, 1, none⟩) lt_c1_0_1).trans c1_0_1
  have c1_1_0 : (w4.alloc (.cells #[.int .i64 t2.1, .int .i64 t2.2.1] 23)).cell? ⟨w.heap.size + 1, 0, none⟩ = some (.int .i64 bn) := (hK.cell (p := ⟨w.heap.size + 1, 0, none⟩) lt_c1_1_0).trans c1_1_0
  have c1_1_1 : (w4.alloc (.cells #[.int .i64 t2.1, .int .i64 t2.2.1] 23)).cell? ⟨w.heap.size + 1, 1, none⟩ = some (.int .i64 bd) := (hK.cell (p := ⟨w.heap.size + 1, 1, none⟩) lt_c1_1_1).trans c1_1_1
  have c2_0_0 : (w4.alloc (.cells #[.int .i64 t2.1, .int .i64 t2.2.1] 23)).cell? ⟨w1.heap.size, 0, none⟩ = some (.int .i64 t1.1) := (hK.cell (p := ⟨w1.heap.size, 0, none⟩) lt_c2_0_0).trans c2_0_0
  have c2_0_1 : (w4.alloc (.cells #[.int .i64 t2.1, .int .i64 t2.2.1] 23)).cell? ⟨w1.heap.size, 1, none⟩ = some (.int .i64 t1.2.1) := (hK.cell (p := ⟨w1.heap.size, 1, none⟩) lt_c2_0_1).trans c2_0_1
  have c3_0_0 : (w4.alloc (.cells #[.int .i64 t2.1, .int .i64 t2.2.1] 23)).cell? ⟨w2.heap.size, 0, none⟩ = some (.int .i64 t1.1) := (hK.cell (p := ⟨w2.heap.size, 0, none⟩) lt_c3_0_0).trans c3_0_0
  have c3_0_1 : (w4.alloc (.cells #[.int .i64 t2.1, .int .i64 t2.2.1] 23)).cell? ⟨w2.heap.size, 1, none⟩ = some (.int .i64 t1.2.1) := (hK.cell (p := ⟨w2.heap.size, 1, none⟩) lt_c3_0_1).trans c3_0_1
  have c4_0_0 : (w4.alloc (.cells #[.int .i64 t2.1, .int .i64 t2.2.1] 23)).cell? ⟨w3.heap.size, 0, none⟩ = some (.int .i64 t2.1) := (hK.cell (p := ⟨w3.heap.size, 0, none⟩) lt_c4_0_0).trans c4_0_0
  have c4_0_1 : (w4.alloc (.cells #[.int .i64 t2.1, .int .i64 t2.2.1] 23)).cell? ⟨w3.heap.size, 1, none⟩ = some (.int .i64 t2.2.1) := (hK.cell (p := ⟨w3.heap.size, 1, none⟩) lt_c4_0_1).trans c4_0_1
  have c5_0_0 : (w4.alloc (.cells #[.int .i64 t2.1, .int .i64 t2.2.1] 23)).cell? ⟨w4.heap.size, 0, none⟩ = some (.int .i64 t2.1) := by simp [go_sem]
  have c5_0_1 : (w4.alloc (.cells #[.int .i64 t2.1, .int .i64 t2.2.1] 23)).cell? ⟨w4.heap.size, 1, none⟩ = some (.int .i64 t2.2.1) := by simp [go_sem]
  have hz : (w4.alloc (.cells #[.int .i64 t2.1, .int .i64 t2.2.1] 23)).heap.size = w4.heap.size + 1 := by simp
  generalize (w4.alloc (.cells #[.int .i64 t2.1, .int .i64 t2.2.1] 23)) = wA5 at hB hK hz c1_0_0 c1_0_1 c1_1_0 c1_1_1 c2_0_0 c2_0_1 c3_0_0 c3_0_1 c4_0_0 c4_0_1 c5_0_0 c5_0_1 ⊢
  clear hK
  have lt_c1_0_0 : w.heap.size < wA5.heap.size := by omega
  have lt_c1_0_1 : w.heap.size < wA5.heap.size := by omega
  have lt_c1_1_0 : w.heap.size + 1 < wA5.heap.size := by omega
  have lt_c1_1_1 : w.heap.size + 1 < wA5.heap.size := by omega
  have lt_c2_0_0 : w1.heap.size < wA5.heap.size := by omega
  have lt_c2_0_1 : w1.heap.size < wA5.heap.size := by omega
  have lt_c3_0_0 : w2.heap.size < wA5.heap.size := by omega
  have lt_c3_0_1 : w2.heap.size < wA5.heap.size := by omega
  have lt_c4_0_0 : w3.heap.size < wA5.heap.size := by omega
  have lt_c4_0_1 : w3.heap.size < wA5.heap.size := by omega
  have lt_c5_0_0 : w4.heap.size < wA5.heap.size := by omega
  have lt_c5_0_1 : w4.heap.size < wA5.heap.size := by omega
  clear hP HB
  have HB := Lib.hid hB
  clear hB hz
  have hT := HT.out.below HB.out
  refine (awake_any _ hT).mono ?_
  rintro e w5 ⟨rfl, hb⟩
  have c1_0_0 := (hb.cell (p := ⟨w.heap.size, 0, none⟩) lt_c1_0_0).trans c1_0_0
  have c1_0_1 := (hb.cell (p := ⟨w.heap.size, 1, none⟩) lt_c1_0_1).trans c1_0_1
  have c1_1_0 := (hb.cell (p := ⟨w.heap.size + 1, 0, none⟩) lt_c1_1_0).trans c1_1_0
  have c1_1_1 := (hb.cell (p := ⟨w.heap.size + 1, 1, none⟩) lt_c1_1_1).trans c1_1_1
  have c2_0_0 := (hb.cell (p := ⟨w1.heap.size, 0, none⟩) lt_c2_0_0).trans c2_0_0
  have c2_0_1 := (hb.cell (p := ⟨w1.heap.size, 1, none⟩) lt_c2_0_1).trans c2_0_1
  have c3_0_0 := (hb.cell (p := ⟨w2.heap.size, 0, none⟩) lt_c3_0_0).trans c3_0_0
  have c3_0_1 := (hb.cell (p := ⟨w2.heap.size, 1, none⟩) lt_c3_0_1).trans c3_0_1
  have c4_0_0 := (hb.cell (p := ⟨w3.heap.size, 0, none⟩) lt_c4_0_0).trans c4_0_0
  have c4_0_1 := (hb.cell (p := ⟨w3.heap.size, 1, none⟩) lt_c4_0_1).trans c4_0_1
  have c5_0_0 := (hb.cell (p := ⟨w4.heap.size, 0, none⟩) lt_c5_0_0).trans c5_0_0
  have c5_0_1 := (hb.cell (p := ⟨w4.heap.size, 1, none⟩) lt_c5_0_1).trans c5_0_1
  have hz := bsize hb
  try simp at hz
  have lt_c1_0_0 : w.heap.size < w5.heap.size := by omega
  have lt_c1_0_1 : w.heap.size < w5.heap.size := by omega
  have lt_c1_1_0 : w.heap.size + 1 < w5.heap.size := by omega
  have lt_c1_1_1 : w.heap.size + 1 < w5.heap.size := by omega
  have lt_c2_0_0 : w1.heap.size < w5.heap.size := by omega
  have lt_c2_0_1 : w1.heap.size < w5.heap.size := by omega
  have lt_c3_0_0 : w2.heap.size < w5.heap.size := by omega
  have lt_c3_0_1 : w2.heap.size < w5.heap.size := by omega
  have lt_c4_0_0 : w3.heap.size < w5.heap.size := by omega
  have lt_c4_0_1 : w3.heap.size < w5.heap.size := by omega
  have lt_c5_0_0 : w4.heap.size < w5.heap.size := by omega
  have lt_c5_0_1 : w4.heap.size < w5.heap.size := by omega
  have hB := HB.out.trans (hb.mono HB.out.size)
  clear HB
  have HB := Lib.hid hB
  clear hB
  clear hb hz
  go_wp2
  go_ret
  have hB := HB.out
  exact ⟨rfl, (by repeat (first | with_reducible exact Below.refl _ _ | (with_reducible refine Below.setCell ?_ (by first | exact Nat.le_refl _ | omega | (simp; done) | (simp; omega)) _) | (with_reducible refine Below.alloc ?_ (by first | exact Nat.le_refl _ | omega | (simp; done) | (simp; omega)) _) | with_reducible refine Below.drew ?_ | with_reducible refine bel_drewN ?_ _ | (with_reducible refine bel_by (by with_reducible assumption) (by first | exact Nat.le_refl _ | omega | (simp; done) | (simp; omega)) ?_)))⟩
end Go.Proofs.YtfdalnkdeeminaaDoor
