/- The law FractionTexts: its walk. -/
import Derived.Test.YtfdalnkdeeminaaDoorTxtF
import Derived.Test.YtfdalnkdeeminaaDoorTxtE
import Derived.Test.YtfdalnkdeeminaaDoorAwake
set_option linter.unusedSimpArgs false
set_option linter.unusedVariables false
namespace Go.Proofs.YtfdalnkdeeminaaDoor
open Go.RowKit

set_option maxHeartbeats 8000000 in
set_option maxRecDepth 100000 in
theorem texts_long (s : ByteArray) (an ad : Int) (A1 : -9223372036854775808 ≤ an) (A2 : an ≤ 9223372036854775807) (A3 : -9223372036854775808 ≤ ad) (A4 : ad ≤ 9223372036854775807) (hn : 100 < s.size) (hm : s.size ≤ 9223372036854775807) (w : World) (ht : TabW w) :
    Calls Tryd.prog 11 #[.string s, .agg #[.int .i64 an, .int .i64 ad]] w fun e w' => e = .returned (.bool true) ∧ Below w.heap.size w w' := by
  have HT := Lib.hid ht
  clear ht
  have hn' : (100 : Int) < (s.size : Int) := by omega
  clear hn A1 A2 A3 A4
  go_enter Tryd.func11, Tryd.ntmps11
  go_wp2_with fail
  have hK : Below w.heap.size w (w.alloc (.cells #[.int .i64 an, .int .i64 ad] 23)) := (by repeat (first | with_reducible exact Below.refl _ _ | (with_reducible refine Below.setCell ?_ (by first | exact Nat.le_refl _ | omega | (simp; done) | (simp; omega)) _) | (with_reducible refine Below.alloc ?_ (by first | exact Nat.le_refl _ | omega | (simp; done) | (simp; omega)) _) | with_reducible refine Below.drew ?_ | with_reducible refine bel_drewN ?_ _ | (with_reducible refine bel_by (by with_reducible assumption) (by first | exact Nat.le_refl _ | omega | (simp; done) | (simp; omega)) ?_)))
  have hB := hK
  have c1_0_0 : (w.alloc (.cells #[.int .i64 an, .int .i64 ad] 23)).cell? ⟨w.heap.size, 0, none⟩ = some (.int .i64 an) := by simp [go_sem]
  have c1_0_1 : (w.alloc (.cells #[.int .i64 an, .int .i64 ad] 23)).cell? ⟨w.heap.size, 1, none⟩ = some (.int .i64 ad) := by simp [go_sem]
  have hz : (w.alloc (.cells #[.int .i64 an, .int .i64 ad] 23)).heap.size = w.heap.size + 1 := by simp
  generalize (w.alloc (.cells #[.int .i64 an, .int .i64 ad] 23)) = wA1 at hB hK hz c1_0_0 c1_0_1 ⊢
  clear hK
  have lt_c1_0_0 : w.heap.size < wA1.heap.size := by omega
  have lt_c1_0_1 : w.heap.size < wA1.heap.size := by omega
  have HB := Lib.hid hB
  clear hB hz
  clear c1_0_0 lt_c1_0_0 c1_0_1 lt_c1_0_1
  have hT := HT.out.below HB.out
  refine (awake_any _ hT).mono ?_
  rintro e w1 ⟨rfl, hb⟩
  have hz := bsize hb
  try simp at hz
  have hB := HB.out.trans (hb.mono HB.out.size)
  clear HB
  have HB := Lib.hid hB
  clear hB
  clear hb hz
  go_wp2
  go_ret
  have hB := HB.out
  exact ⟨rfl, (by repeat (first | with_reducible exact Below.refl _ _ | (with_reducible refine Below.setCell ?_ (by first | exact Nat.le_refl _ | omega | (simp; done) | (simp; omega)) _) | (with_reducible refine Below.alloc ?_ (by first | exact Nat.le_refl _ | omega | (simp; done) | (simp; omega)) _) | with_reducible refine Below.drew ?_ | with_reducible refine bel_drewN ?_ _ | (with_reducible refine bel_by (by with_reducible assumption) (by first | exact Nat.le_refl _ | omega | (simp; done) | (simp; omega)) ?_)))⟩

set_option maxHeartbeats 8000000 in
set_option maxRecDepth 100000 in
theorem texts_short (s : ByteArray) (an ad : Int) (A1 : -9223372036854775808 ≤ an) (A2 : an ≤ 9223372036854775807) (A3 : -9223372036854775808 ≤ ad) (A4 : ad ≤ 9223372036854775807) (hn : s.size ≤ 100) (w : World) (ht : TabW w) :
    Calls Tryd.prog 11 #[.string s, .agg #[.int .i64 an, .int .i64 ad]] w fun e w' => e = .returned (.bool true) ∧ Below w.heap.size w w' := by
  have HT := Lib.hid ht
  clear ht
  have hn' : ¬ (100 : Int) < (s.size : Int) := by omega
  have K1 := Lib.hid (fun W => parse_any s hn W)
  have K2 := Lib.hid (fun W => rparse_any s hn W)
  have K3 := Lib.hid (fun W (ht : TabW W) => text_any an ad A1 A2 A3 A4 W ht)
  have K4 := Lib.hid (fun W (ht : TabW W) => rtext_any an ad A1 A2 A3 A4 W ht)
  have hxs := textS_size A1 A2 A3 A4
  have K5 := Lib.hid (fun W => parse_any (textS an ad) hxs W)
  have C6 := fun W => rvalid_any an ad A1 A2 A3 A4 W
  have hp : vldI an ad = true → parseS (textS an ad) = (an, ad, 0) := parse_text
  clear A1 A2 A3 A4
  generalize parseS s = t at *
  generalize parseS (textS an ad) = u at *
  generalize textS an ad = x at *
  generalize vldI an ad = v at *
  have HP := Lib.hid hp
  clear hp
  have K6 := Lib.hid C6
  clear C6
  go_enter Tryd.func11, Tryd.ntmps11
  go_wp2_with fail
  have hK : Below w.heap.size w (w.alloc (.cells #[.int .i64 an, .int .i64 ad] 23)) := (by repeat (first | with_reducible exact Below.refl _ _ | (with_reducible refine Below.setCell ?_ (by first | exact Nat.le_refl _ | omega | (simp; done) | (simp; omega)) _) | (with_reducible refine Below.alloc ?_ (by first | exact Nat.le_refl _ | omega | (simp; done) | (simp; omega)) _) | with_reducible refine Below.drew ?_ | with_reducible refine bel_drewN ?_ _ | (with_reducible refine bel_by (by with_reducible assumption) (by first | exact Nat.le_refl _ | omega | (simp; done) | (simp; omega)) ?_)))
  have hB := hK
  have c1_0_0 : (w.alloc (.cells #[.int .i64 an, .int .i64 ad] 23)).cell? ⟨w.heap.size, 0, none⟩ = some (.int .i64 an) := by simp [go_sem]
  have c1_0_1 : (w.alloc (.cells #[.int .i64 an, .int .i64 ad] 23)).cell? ⟨w.heap.size, 1, none⟩ = some (.int .i64 ad) := by simp [go_sem]
  have hz : (w.alloc (.cells #[.int .i64 an, .int .i64 ad] 23)).heap.size = w.heap.size + 1 := by simp
  generalize (w.alloc (.cells #[.int .i64 an, .int .i64 ad] 23)) = wA1 at hB hK hz c1_0_0 c1_0_1 ⊢
  clear hK
  have lt_c1_0_0 : w.heap.size < wA1.heap.size := by omega
  have lt_c1_0_1 : w.heap.size < wA1.heap.size := by omega
  have HB := Lib.hid hB
  clear hB hz
  refine (K1.out _).mono ?_
  rintro e w1 ⟨rfl, hb⟩
  have c1_0_0 := (hb.cell (p := ⟨w.heap.size, 0, none⟩) lt_c1_0_0).trans c1_0_0
  have c1_0_1 := (hb.cell (p := ⟨w.heap.size, 1, none⟩) lt_c1_0_1).trans c1_0_1
  have hz := bsize hb
  try simp at hz
  have lt_c1_0_0 : w.heap.size < w1.heap.size := by omega
  have lt_c1_0_1 : w.heap.size < w1.heap.size := by omega
  have hB := HB.out.trans (hb.mono HB.out.size)
  clear HB
  have HB := Lib.hid hB
  clear hB
  clear hb hz
  go_wp2_with fail
  have hP := HB.out
  have hK : Below w1.heap.size w1 (w1.alloc (.cells #[.int .i64 t.1, .int .i64 t.2.1] 23)) := (by repeat (first | with_reducible exact Below.refl _ _ | (with_reducible refine Below.setCell ?_ (by first | exact Nat.le_refl _ | omega | (simp; done) | (simp; omega)) _) | (with_reducible refine Below.alloc ?_ (by first | exact Nat.le_refl _ | omega | (simp; done) | (simp; omega)) _) | with_reducible refine Below.drew ?_ | with_reducible refine bel_drewN ?_ _ | (with_reducible refine bel_by (by with_reducible assumption) (by first | exact Nat.le_refl _ | omega | (simp; done) | (simp; omega)) ?_)))
  have hB : Below w.heap.size w (w1.alloc (.cells #[.int .i64 t.1, .int .i64 t.2.1] 23)) := hP.trans (hK.mono hP.size)
  have c1_0_0 : (w1.alloc (.cells #[.int .i64 t.1, .int .i64 t.2.1] 23)).cell? ⟨w.heap.size, 0, none⟩ = some (.int .i64 an) := (hK.cell (p := ⟨w.heap.size, 0, none⟩) lt_c1_0_0).trans c1_0_0
  have c1_0_1 : (w1.alloc (.cells #[.int .i64 t.1, .int .i64 t.2.1] 23)).cell? ⟨w.heap.size, 1, none⟩ = some (.int .i64 ad) := (hK.cell (p := ⟨w.heap.size, 1, none⟩) lt_c1_0_1).trans c1_0_1
  have c2_0_0 : (w1.alloc (.cells #[.int .i64 t.1, .int .i64 t.2.1] 23)).cell? ⟨w1.heap.size, 0, none⟩ = some (.int .i64 t.1) := by simp [go_sem]
  have c2_0_1 : (w1.alloc (.cells #[.int .i64 t.1, .int .i64 t.2.1] 23)).cell? ⟨w1.heap.size, 1, none⟩ = some (.int .i64 t.2.1) := by simp [go_sem]
  have hz : (w1.alloc (.cells #[.int .i64 t.1, .int .i64 t.2.1] 23)).heap.size = w1.heap.size + 1 := by simp
  generalize (w1.alloc (.cells #[.int .i64 t.1, .int .i64 t.2.1] 23)) = wA2 at hB hK hz c1_0_0 c1_0_1 c2_0_0 c2_0_1 ⊢
  clear hK
  have lt_c1_0_0 : w.heap.size < wA2.heap.size := by omega
  have lt_c1_0_1 : w.heap.size < wA2.heap.size := by omega
  have lt_c2_0_0 : w1.heap.size < wA2.heap.size := by omega
  have lt_c2_0_1 : w1.heap.size < wA2.heap.size := by omega
  clear hP HB
  have HB := Lib.hid hB
  clear hB hz
  refine (K2.out _).mono ?_
  rintro e w2 ⟨rfl, hb⟩
  have c1_0_0 := (hb.cell (p := ⟨w.heap.size, 0, none⟩) lt_c1_0_0).trans c1_0_0
  have c1_0_1 := (hb.cell (p := ⟨w.heap.size, 1, none⟩) lt_c1_0_1).trans c1_0_1
  have c2_0_0 := (hb.cell (p := ⟨w1.heap.size, 0, none⟩) lt_c2_0_0).trans c2_0_0
  have c2_0_1 := (hb.cell (p := ⟨w1.heap.size, 1, none⟩) lt_c2_0_1).trans c2_0_1
  have hz := bsize hb
  try simp at hz
  have lt_c1_0_0 : w.heap.size < w2.heap.size := by omega
  have lt_c1_0_1 : w.heap.size < w2.heap.size := by omega
  have lt_c2_0_0 : w1.heap.size < w2.heap.size := by omega
  have lt_c2_0_1 : w1.heap.size < w2.heap.size := by omega
  have hB := HB.out.trans (hb.mono HB.out.size)
  clear HB
  have HB := Lib.hid hB
  clear hB
  clear hb hz
  go_wp2_with fail
  have hP := HB.out
  have hK : Below w2.heap.size w2 (w2.alloc (.cells #[.int .i64 t.1, .int .i64 t.2.1] 23)) := (by repeat (first | with_reducible exact Below.refl _ _ | (with_reducible refine Below.setCell ?_ (by first | exact Nat.le_refl _ | omega | (simp; done) | (simp; omega)) _) | (with_reducible refine Below.alloc ?_ (by first | exact Nat.le_refl _ | omega | (simp; done) | (simp; omega)) _) | with_reducible refine Below.drew ?_ | with_reducible refine bel_drewN ?_ _ | (with_reducible refine bel_by (by with_reducible assumption) (by first | exact Nat.le_refl _ | omega | (simp; done) | (simp; omega)) ?_)))
  have hB : Below w.heap.size w (w2.alloc (.cells #[.int .i64 t.1, .int .i64 t.2.1] 23)) := hP.trans (hK.mono hP.size)
  have c1_0_0 : (w2.alloc (.cells #[.int .i64 t.1, .int .i64 t.2.1] 23)).cell? ⟨w.heap.size, 0, none⟩ = some (.int .i64 an) := (hK.cell (p := ⟨w.heap.size, 0, none⟩) lt_c1_0_0).trans c1_0_0
  have c1_0_1 : (w2.alloc (.cells #[.int .i64 t.1, .int .i64 t.2.1] 23)).cell? ⟨w.heap.size, 1, none⟩ = some (.int .i64 ad) := (hK.cell (p := ⟨w.heap.size, 1, none⟩) lt_c1_0_1).trans c1_0_1
  have c2_0_0 : (w2.alloc (.cells #[.int .i64 t.1, .int .i64 t.2.1] 23)).cell? ⟨w1.heap.size, 0, none⟩ = some (.int .i64 t.1) := (hK.cell (p := ⟨w1.heap.size, 0, none⟩) lt_c2_0_0).trans c2_0_0
  have c2_0_1 : (w2.alloc (.cells #[.int .i64 t.1, .int .i64 t.2.1] 23)).cell? ⟨w1.heap.size, 1, none⟩ = some (.int .i64 t.2.1) := (hK.cell (p := ⟨w1.heap.size, 1, none⟩) lt_c2_0_1).trans c2_0_1
  have c3_0_0 : (w2.alloc (.cells #[.int .i64 t.1, .int .i64 t.2.1] 23)).cell? ⟨w2.heap.size, 0, none⟩ = some (.int .i64 t.1) := by simp [go_sem]
  have c3_0_1 : (w2.alloc (.cells #[.int .i64 t.1, .int .i64 t.2.1] 23)).cell? ⟨w2.heap.size, 1, none⟩ = some (.int .i64 t.2.1) := by simp [go_sem]
  have hz : (w2.alloc (.cells #[.int .i64 t.1, .int .i64 t.2.1] 23)).heap.size = w2.heap.size + 1 := by simp
  generalize (w2.alloc (.cells #[.int .i64 t.1, .int .i64 t.2.1] 23)) = wA3 at hB hK hz c1_0_0 c1_0_1 c2_0_0 c2_0_1 c3_0_0 c3_0_1 ⊢
  clear hK
  have lt_c1_0_0 : w.heap.size < wA3.heap.size := by omega
  have lt_c1_0_1 : w.heap.size < wA3.heap.size := by omega
  have lt_c2_0_0 : w1.heap.size < wA3.heap.size := by omega
  have lt_c2_0_1 : w1.heap.size < wA3.heap.size := by omega
  have lt_c3_0_0 : w2.heap.size < wA3.heap.size := by omega
  have lt_c3_0_1 : w2.heap.size < wA3.heap.size := by omega
  clear hP HB
  have HB := Lib.hid hB
  clear hB hz
  refine (K3.out _ (HT.out.below HB.out)).mono ?_
  rintro e w3 ⟨rfl, hb⟩
  have c1_0_0 := (hb.cell (p := ⟨w.heap.size, 0, none⟩) lt_c1_0_0).trans c1_0_0
  have c1_0_1 := (hb.cell (p := ⟨w.heap.size, 1, none⟩) lt_c1_0_1).trans c1_0_1
  have c2_0_0 := (hb.cell (p := ⟨w1.heap.size, 0, none⟩) lt_c2_0_0).trans c2_0_0
  have c2_0_1 := (hb.cell (p := ⟨w1.heap.size, 1, none⟩) lt_c2_0_1).trans c2_0_1
  have c3_0_0 := (hb.cell (p := ⟨w2.heap.size, 0, none⟩) lt_c3_0_0).trans c3_0_0
  have c3_0_1 := (hb.cell (p := ⟨w2.heap.size, 1, none⟩) lt_c3_0_1).trans c3_0_1
  have hz := bsize hb
  try simp at hz
  have lt_c1_0_0 : w.heap.size < w3.heap.size := by omega
  have lt_c1_0_1 : w.heap.size < w3.heap.size := by omega
  have lt_c2_0_0 : w1.heap.size < w3.heap.size := by omega
  have lt_c2_0_1 : w1.heap.size < w3.heap.size := by omega
  have lt_c3_0_0 : w2.heap.size < w3.heap.size := by omega
  have lt_c3_0_1 : w2.heap.size < w3.heap.size := by omega
  have hB := HB.out.trans (hb.mono HB.out.size)
  clear HB
  have HB := Lib.hid hB
  clear hB
  clear hb hz
  go_wp2_with fail
  refine (K4.out _ (HT.out.below HB.out)).mono ?_
  rintro e w4 ⟨rfl, hb⟩
  have c1_0_0 := (hb.cell (p := ⟨w.heap.size, 0, none⟩) lt_c1_0_0).trans c1_0_0
  have c1_0_1 := (hb.cell (p := ⟨w.heap.size, 1, none⟩) lt_c1_0_1).trans c1_0_1
  have c2_0_0 := (hb.cell (p := ⟨w1.heap.size, 0, none⟩) lt_c2_0_0).trans c2_0_0
  have c2_0_1 := (hb.cell (p := ⟨w1.heap.size, 1, none⟩) lt_c2_0_1).trans c2_0_1
  have c3_0_0 := (hb.cell (p := ⟨w2.heap.size, 0, none⟩) lt_c3_0_0).trans c3_0_0
  have c3_0_1 := (hb.cell (p := ⟨w2.heap.size, 1, none⟩) lt_c3_0_1).trans c3_0_1
  have hz := bsize hb
  try simp at hz
  have lt_c1_0_0 : w.heap.size < w4.heap.size := by omega
  have lt_c1_0_1 : w.heap.size < w4.heap.size := by omega
  have lt_c2_0_0 : w1.heap.size < w4.heap.size := by omega
  have lt_c2_0_1 : w1.heap.size < w4.heap.size := by omega
  have lt_c3_0_0 : w2.heap.size < w4.heap.size := by omega
  have lt_c3_0_1 : w2.heap.size < w4.heap.size := by omega
  have hB := HB.out.trans (hb.mono HB.out.size)
  clear HB
  have HB := Lib.hid hB
  clear hB
  clear hb hz
  go_wp2_with fail
  refine (K5.out _).mono ?_
  rintro e w5 ⟨rfl, hb⟩
  have c1_0_0 := (hb.cell (p := ⟨w.heap.size, 0, none⟩) lt_c1_0_0).trans c1_0_0
  have c1_0_1 := (hb.cell (p := ⟨w.heap.size, 1, none⟩) lt_c1_0_1).trans c1_0_1
  have c2_0_0 := (hb.cell (p := ⟨w1.heap.size, 0, none⟩) lt_c2_0_0).trans c2_0_0
  have c2_0_1 := (hb.cell (p := ⟨w1.heap.size, 1, none⟩) lt_c2_0_1).trans c2_0_1
  have c3_0_0 := (hb.cell (p := ⟨w2.heap.size, 0, none⟩) lt_c3_0_0).trans c3_0_0
  have c3_0_1 := (hb.cell (p := ⟨w2.heap.size, 1, none⟩) lt_c3_0_1).trans c3_0_1
  have hz := bsize hb
  try simp at hz
  have lt_c1_0_0 : w.heap.size < w5.heap.size := by omega
  have lt_c1_0_1 : w.heap.size < w5.heap.size := by omega
  have lt_c2_0_0 : w1.heap.size < w5.heap.size := by omega
  have lt_c2_0_1 : w1.heap.size < w5.heap.size := by omega
  have lt_c3_0_0 : w2.heap.size < w5.heap.size := by omega
  have lt_c3_0_1 : w2.heap.size < w5.heap.size := by omega
  have hB := HB.out.trans (hb.mono HB.out.size)
  clear HB
  have HB := Lib.hid hB
  clear hB
  clear hb hz
  go_wp2_with fail
  have hP := HB.out
  have hK : Below w5.heap.size w5 (w5.alloc (.cells #[.int .i64 u.1, .int .i64 u.2.1] 23)) := (by repeat (first | with_reducible exact Below.refl _ _ | (with_reducible refine Below.setCell ?_ (by first | exact Nat.le_refl _ | omega | (simp; done) | (simp; omega)) _) | (with_reducible refine Below.alloc ?_ (by first | exact Nat.le_refl _ | omega | (simp; done) | (simp; omega)) _) | with_reducible refine Below.drew ?_ | with_reducible refine bel_drewN ?_ _ | (with_reducible refine bel_by (by with_reducible assumption) (by first | exact Nat.le_refl _ | omega | (simp; done) | (simp; omega)) ?_)))
  have hB : Below w.heap.size w (w5.alloc (.cells #[.int .i64 u.1, .int .i64 u.2.1] 23)) := hP.trans (hK.mono hP.size)
  have c1_0_0 : (w5.alloc (.cells #[.int .i64 u.1, .int .i64 u.2.1] 23)).cell? ⟨w.heap.size, 0, none⟩ = some (.int .i64 an) := (hK.cell (p := ⟨w.heap.size, 0, none⟩) lt_c1_0_0).trans c1_0_0
  have c1_0_1 : (w5.alloc (.cells #[.int .i64 u.1, .int .i64 u.2.1] 23)).cell? ⟨w.heap.size, 1, none⟩ = some (.int .i64 ad) := (hK.cell (p := ⟨w.heap.size, 1, none⟩) lt_c1_0_1).trans c1_0_1
  have c2_0_0 : (w5.alloc (.cells #[.int .i64 u.1, .int .i64 u.2.1] 23)).cell? ⟨w1.heap.size, 0, none⟩ = some (.int .i64 t.1) := (hK.cell (p := ⟨w1.heap.size, 0, none⟩) lt_c2_0_0).trans c2_0_0
  have c2_0_1 : (w5.alloc (.cells #[.int .i64 u.1, .int .i64 u.2.1] 23)).cell? ⟨w1.heap.size, 1, none⟩ = some (.int .i64 t.2.1) := (hK.cell (p := ⟨w1.heap.size, 1, none⟩) lt_c2_0_1).trans c2_0_1
  have c3_0_0 : (w5.alloc (.cells #[.int .i64 u.1, .int .i64 u.2.1] 23)).cell? ⟨w2.heap.size, 0, none⟩ = some (.int .i64 t.1) := (hK.cell (p := ⟨w2.heap.size, 0, none⟩) lt_c3_0_0).trans c3_0_0
  have c3_0_1 : (w5.alloc (.cells #[.int .i64 u.1, .int .i64 u.2.1] 23)).cell? ⟨w2.heap.size, 1, none⟩ = some (.int .i64 t.2.1) := (hK.cell (p := ⟨w2.heap.size, 1, none⟩) lt_c3_0_1).trans c3_0_1
  have c6_0_0 : (w5.alloc (.cells #[.int .i64 u.1, .int .i64 u.2.1] 23)).cell? ⟨w5.heap.size, 0, none⟩ = some (.int .i64 u.1) := by simp [go_sem]
  have c6_0_1 : (w5.alloc (.cells #[.int .i64 u.1, .int .i64 u.2.1] 23)).cell? ⟨w5.heap.size, 1, none⟩ = some (.int .i64 u.2.1) := by simp [go_sem]
  have hz : (w5.alloc (.cells #[.int .i64 u.1, .int .i64 u.2.1] 23)).heap.size = w5.heap.size + 1 := by simp
  generalize (w5.alloc (.cells #[.int .i64 u.1, .int .i64 u.2.1] 23)) = wA6 at hB hK hz c1_0_0 c1_0_1 c2_0_0 c2_0_1 c3_0_0 c3_0_1 c6_0_0 c6_0_1 ⊢
  clear hK
  have lt_c1_0_0 : w.heap.size < wA6.heap.size := by omega
  have lt_c1_0_1 : w.heap.size < wA6.heap.size := by omega
  have lt_c2_0_0 : w1.heap.size < wA6.heap.size := by omega
  have lt_c2_0_1 : w1.heap.size < wA6.heap.size := by omega
  have lt_c3_0_0 : w2.heap.size < wA6.heap.size := by omega
  have lt_c3_0_1 : w2.heap.size < wA6.heap.size := by omega
  have lt_c6_0_0 : w5.heap.size < wA6.heap.size := by omega
  have lt_c6_0_1 : w5.heap.size < wA6.heap.size := by omega
  clear hP HB
  have HB := Lib.hid hB
  clear hB hz
  have hT := HT.out.below HB.out
  refine (awake_any _ hT).mono ?_
  rintro e w6 ⟨rfl, hb⟩
  have c1_0_0 := (hb.cell (p := ⟨w.heap.size, 0, none⟩) lt_c1_0_0).trans c1_0_0
  have c1_0_1 := (hb.cell (p := ⟨w.heap.size, 1, none⟩) lt_c1_0_1).trans c1_0_1
  have c2_0_0 := (hb.cell (p := ⟨w1.heap.size, 0, none⟩) lt_c2_0_0).trans c2_0_0
  have c2_0_1 := (hb.cell (p := ⟨w1.heap.size, 1, none⟩) lt_c2_0_1).trans c2_0_1
  have c3_0_0 := (hb.cell (p := ⟨w2.heap.size, 0, none⟩) lt_c3_0_0).trans c3_0_0
  have c3_0_1 := (hb.cell (p := ⟨w2.heap.size, 1, none⟩) lt_c3_0_1).trans c3_0_1
  have c6_0_0 := (hb.cell (p := ⟨w5.heap.size, 0, none⟩) lt_c6_0_0).trans c6_0_0
  have c6_0_1 := (hb.cell (p := ⟨w5.heap.size, 1, none⟩) lt_c6_0_1).trans c6_0_1
  have hz := bsize hb
  try simp at hz
  have lt_c1_0_0 : w.heap.size < w6.heap.size := by omega
  have lt_c1_0_1 : w.heap.size < w6.heap.size := by omega
  have lt_c2_0_0 : w1.heap.size < w6.heap.size := by omega
  have lt_c2_0_1 : w1.heap.size < w6.heap.size := by omega
  have lt_c3_0_0 : w2.heap.size < w6.heap.size := by omega
  have lt_c3_0_1 : w2.heap.size < w6.heap.size := by omega
  have lt_c6_0_0 : w5.heap.size < w6.heap.size := by omega
  have lt_c6_0_1 : w5.heap.size < w6.heap.size := by omega
  have hB := HB.out.trans (hb.mono HB.out.size)
  clear HB
  have HB := Lib.hid hB
  clear hB
  clear hb hz
  go_wp2_with fail
  refine (K6.out _).mono ?_
  rintro e w7 ⟨rfl, hb⟩
  have c1_0_0 := (hb.cell (p := ⟨w.heap.size, 0, none⟩) lt_c1_0_0).trans c1_0_0
  have c1_0_1 := (hb.cell (p := ⟨w.heap.size, 1, none⟩) lt_c1_0_1).trans c1_0_1
  have c2_0_0 := (hb.cell (p := ⟨w1.heap.size, 0, none⟩) lt_c2_0_0).trans c2_0_0
  have c2_0_1 := (hb.cell (p := ⟨w1.heap.size, 1, none⟩) lt_c2_0_1).trans c2_0_1
  have c3_0_0 := (hb.cell (p := ⟨w2.heap.size, 0, none⟩) lt_c3_0_0).trans c3_0_0
  have c3_0_1 := (hb.cell (p := ⟨w2.heap.size, 1, none⟩) lt_c3_0_1).trans c3_0_1
  have c6_0_0 := (hb.cell (p := ⟨w5.heap.size, 0, none⟩) lt_c6_0_0).trans c6_0_0
  have c6_0_1 := (hb.cell (p := ⟨w5.heap.size, 1, none⟩) lt_c6_0_1).trans c6_0_1
  have hz := bsize hb
  try simp at hz
  have lt_c1_0_0 : w.heap.size < w7.heap.size := by omega
  have lt_c1_0_1 : w.heap.size < w7.heap.size := by omega
  have lt_c2_0_0 : w1.heap.size < w7.heap.size := by omega
  have lt_c2_0_1 : w1.heap.size < w7.heap.size := by omega
  have lt_c3_0_0 : w2.heap.size < w7.heap.size := by omega
  have lt_c3_0_1 : w2.heap.size < w7.heap.size := by omega
  have lt_c6_0_0 : w5.heap.size < w7.heap.size := by omega
  have lt_c6_0_1 : w5.heap.size < w7.heap.size := by omega
  have hB := HB.out.trans (hb.mono HB.out.size)
  clear HB
  have HB := Lib.hid hB
  clear hB
  clear hb hz
  cases v
  · go_wp2
    go_ret
    have hB := HB.out
    exact ⟨rfl, (by repeat (first | with_reducible exact Below.refl _ _ | (with_reducible refine Below.setCell ?_ (by first | exact Nat.le_refl _ | omega | (simp; done) | (simp; omega)) _) | (with_reducible refine Below.alloc ?_ (by first | exact Nat.le_refl _ | omega | (simp; done) | (simp; omega)) _) | with_reducible refine Below.drew ?_ | with_reducible refine bel_drewN ?_ _ | (with_reducible refine bel_by (by with_reducible assumption) (by first | exact Nat.le_refl _ | omega | (simp; done) | (simp; omega)) ?_)))⟩
  · have E := HP.out rfl
    have e1 : u.1 = an := by rw [E]
    have e2 : u.2.1 = ad := by rw [E]
    have e3 : u.2.2 = 0 := by rw [E]
    clear E
    go_wp2
    go_ret
    have hB := HB.out
    exact ⟨rfl, (by repeat (first | with_reducible exact Below.refl _ _ | (with_reducible refine Below.setCell ?_ (by first | exact Nat.le_refl _ | omega | (simp; done) | (simp; omega)) _) | (with_reducible refine Below.alloc ?_ (by first | exact Nat.le_refl _ | omega | (simp; done) | (simp; omega)) _) | with_reducible refine Below.drew ?_ | with_reducible refine bel_drewN ?_ _ | (with_reducible refine bel_by (by with_reducible assumption) (by first | exact Nat.le_refl _ | omega | (simp; done) | (simp; omega)) ?_)))⟩

theorem texts_walk (s : ByteArray) (hm : s.size ≤ 9223372036854775807) (an ad : Int) (A1 : -9223372036854775808 ≤ an) (A2 : an ≤ 9223372036854775807) (A3 : -9223372036854775808 ≤ ad) (A4 : ad ≤ 9223372036854775807) (w : World) (ht : TabW w) :
    Calls Tryd.prog 11 #[.string s, .agg #[.int .i64 an, .int .i64 ad]] w fun e w' => e = .returned (.bool true) ∧ Below w.heap.size w w' := by
  by_cases hn : s.size ≤ 100
  · exact texts_short s an ad A1 A2 A3 A4 hn w ht
  · exact texts_long s an ad A1 A2 A3 A4 (by omega) hm w ht
end Go.Proofs.YtfdalnkdeeminaaDoor
