/- The law FractionCompares: its walk. -/
import Derived.Test.YtfdalnkdeeminaaDoorRefI
import Derived.Test.YtfdalnkdeeminaaDoorAwake
set_option linter.unusedSimpArgs false
set_option linter.unusedVariables false
namespace Go.Proofs.YtfdalnkdeeminaaDoor
open Go.RowKit

set_option maxHeartbeats 8000000 in
set_option maxRecDepth 100000 in
theorem compares_walk (an ad bn bd : Int) (A1 : -9223372036854775808 ≤ an) (A2 : an ≤ 9223372036854775807) (A3 : -9223372036854775808 ≤ ad) (A4 : ad ≤ 9223372036854775807) (B1 : -9223372036854775808 ≤ bn) (B2 : bn ≤ 9223372036854775807) (B3 : -9223372036854775808 ≤ bd) (B4 : bd ≤ 9223372036854775807) (w : World) (ht : TabW w) :
    Calls Tryd.prog 8 #[.agg #[.int .i64 an, .int .i64 ad], .agg #[.int .i64 bn, .int .i64 bd]] w fun e w' => e = .returned (.bool true) ∧ Below w.heap.size w w' := by
  have W1 : Wf64 (an, ad) := ⟨A1, A2, A3, A4⟩
  have W2 : Wf64 (bn, bd) := ⟨B1, B2, B3, B4⟩
  have HT := Lib.hid ht
  clear ht
  have K1 := Lib.hid (fun W => cmp_any an ad bn bd W1 W2 W)
  have K2 := Lib.hid (fun W => rcmp_any an ad bn bd W1 W2 W)
  generalize cmpS an ad bn bd = x at *
  clear W1 W2 A1 A2 A3 A4 B1 B2 B3 B4
  go_enter Tryd.func8, Tryd.ntmps8
  go_upto_region 1 with fail
  have hK : Below w.heap.size w ((w.alloc (.cells #[.int .i64 an, .int .i64 ad] 23)).alloc (.cells #[.int .i64 bn, .int .i64 bd] 23)) := (by repeat (first | with_reducible exact Below.refl _ _ | (with_reducible refine Below.setCell ?_ (by first | exact Nat.le_refl _ | omega | (simp; done) | (simp; omega)) _) | (with_reducible refine Below.alloc ?_ (by first | exact Nat.le_refl _ | omega | (simp; done) | (simp; omega)) _) | with_reducible refine Below.drew ?_ | with_reducible refine bel_drewN ?_ _ | (with_reducible refine bel_by (by with_reducible assumption) (by first | exact Nat.le_refl _ | omega | (simp; done) | (simp; omega)) ?_)))
  have hB := hK
  have c1_0_0 : ((w.alloc (.cells #[.int .i64 an, .int .i64 ad] 23)).alloc (.cells #[.int .i64 bn, .int .i64 bd] 23)).cell? ⟨w.heap.size, 0, none⟩ = some (.int .i64 an) := by simp [go_sem]
  have c1_0_1 : ((w.alloc (.cells #[.int .i64 an, .int .i64 ad] 23)).alloc (.cells #[.int .i64 bn, .int .i64 bd] 23)).cell? ⟨w.heap.size, 1, none⟩ = some (.int .i64 ad) := by simp [go_sem]
  have c1_1_0 : ((w.alloc (.cells #[.int .i64 an, .int .i64 ad] 23)).alloc (.cells #[.int .i64 bn, .int .i64 bd] 23)).cell? ⟨w.heap.size + 1, 0, none⟩ = some (.int .i64 bn) := by simp [go_sem]
  have c1_1_1 : ((w.alloc (.cells #[.int .i64 an, .int .i64 ad] 23)).alloc (.cells #[.int .i64 bn, .int .i64 bd] 23)).cell? ⟨w.heap.size + 1, 1, none⟩ = some (.int .i64 bd) := by simp [go_sem]
  have hz : ((w.alloc (.cells #[.int .i64 an, .int .i64 ad] 23)).alloc (.cells #[.int .i64 bn, .int .i64 bd] 23)).heap.size = w.heap.size + 2 := by simp
  generalize ((w.alloc (.cells #[.int .i64 an, .int .i64 ad] 23)).alloc (.cells #[.int .i64 bn, .int .i64 bd] 23)) = wA1 at hB hK hz c1_0_0 c1_0_1 c1_1_0 c1_1_1 ⊢
  clear hK
  have lt_c1_0_0 : w.heap.size < wA1.heap.size := by omega
  have lt_c1_0_1 : w.heap.size < wA1.heap.size := by omega
  have lt_c1_1_0 : w.heap.size + 1 < wA1.heap.size := by omega
  have lt_c1_1_1 : w.heap.size + 1 < wA1.heap.size := by omega
  have HB := Lib.hid hB
  clear hB hz
  have hB := HB.out
  have hzB := hB.size
  have hBB : Below wA1.heap.size wA1 wA1 := Below.refl _ _
  go_region_held3 (fun w' => w'.cell? ⟨w.heap.size, 0, none⟩ = some (.int .i64 an) ∧ w'.cell? ⟨w.heap.size, 1, none⟩ = some (.int .i64 ad) ∧ w'.cell? ⟨w.heap.size + 1, 0, none⟩ = some (.int .i64 bn) ∧ w'.cell? ⟨w.heap.size + 1, 1, none⟩ = some (.int .i64 bd))
    ((first | (simp [go_sem, c1_0_0, c1_0_1, c1_1_0, c1_1_1]; done)))
    (first
    | (go_at_call 14; refine (awake_any _ ?tab).mono ?_; (case tab => (clear hBB; exact HT.out.below (by repeat (first | with_reducible exact Below.refl _ _ | (with_reducible refine Below.setCell ?_ (by first | exact Nat.le_refl _ | omega | (simp; done) | (simp; omega)) _) | (with_reducible refine Below.alloc ?_ (by first | exact Nat.le_refl _ | omega | (simp; done) | (simp; omega)) _) | with_reducible refine Below.drew ?_ | with_reducible refine bel_drewN ?_ _ | (with_reducible refine bel_by (by with_reducible assumption) (by first | exact Nat.le_refl _ | omega | (simp; done) | (simp; omega)) ?_))))); rintro e v1 ⟨rfl, hb⟩; (repeat (with_reducible replace hb := undrew hb)); have c1_0_0 := (hb.cell (p := ⟨w.heap.size, 0, none⟩) lt_c1_0_0).trans c1_0_0; have c1_0_1 := (hb.cell (p := ⟨w.heap.size, 1, none⟩) lt_c1_0_1).trans c1_0_1; have c1_1_0 := (hb.cell (p := ⟨w.heap.size + 1, 0, none⟩) lt_c1_1_0).trans c1_1_0; have c1_1_1 := (hb.cell (p := ⟨w.heap.size + 1, 1, none⟩) lt_c1_1_1).trans c1_1_1; have hz := bsize hb; (try simp at hz); have lt_c1_0_0 : w.heap.size < v1.heap.size := (by omega); have lt_c1_0_1 : w.heap.size < v1.heap.size := (by omega); have lt_c1_1_0 : w.heap.size + 1 < v1.heap.size := (by omega); have lt_c1_1_1 : w.heap.size + 1 < v1.heap.size := (by omega); have hBB := hBB.trans (hb.mono hBB.size); clear hb hz)
    | (go_at_call 30; (with_reducible refine (K1.out _).mono ?_); rintro e v2 ⟨rfl, hb⟩; (repeat (with_reducible replace hb := undrew hb)); have c1_0_0 := (hb.cell (p := ⟨w.heap.size, 0, none⟩) lt_c1_0_0).trans c1_0_0; have c1_0_1 := (hb.cell (p := ⟨w.heap.size, 1, none⟩) lt_c1_0_1).trans c1_0_1; have c1_1_0 := (hb.cell (p := ⟨w.heap.size + 1, 0, none⟩) lt_c1_1_0).trans c1_1_0; have c1_1_1 := (hb.cell (p := ⟨w.heap.size + 1, 1, none⟩) lt_c1_1_1).trans c1_1_1; have hz := bsize hb; (try simp at hz); have lt_c1_0_0 : w.heap.size < v2.heap.size := (by omega); have lt_c1_0_1 : w.heap.size < v2.heap.size := (by omega); have lt_c1_1_0 : w.heap.size + 1 < v2.heap.size := (by omega); have lt_c1_1_1 : w.heap.size + 1 < v2.heap.size := (by omega); have hBB := hBB.trans (hb.mono hBB.size); clear hb hz)
    | (go_at_call 31; (with_reducible refine (K2.out _).mono ?_); rintro e v3 ⟨rfl, hb⟩; (repeat (with_reducible replace hb := undrew hb)); have c1_0_0 := (hb.cell (p := ⟨w.heap.size, 0, none⟩) lt_c1_0_0).trans c1_0_0; have c1_0_1 := (hb.cell (p := ⟨w.heap.size, 1, none⟩) lt_c1_0_1).trans c1_0_1; have c1_1_0 := (hb.cell (p := ⟨w.heap.size + 1, 0, none⟩) lt_c1_1_0).trans c1_1_0; have c1_1_1 := (hb.cell (p := ⟨w.heap.size + 1, 1, none⟩) lt_c1_1_1).trans c1_1_1; have hz := bsize hb; (try simp at hz); have lt_c1_0_0 : w.heap.size < v3.heap.size := (by omega); have lt_c1_0_1 : w.heap.size < v3.heap.size := (by omega); have lt_c1_1_0 : w.heap.size + 1 < v3.heap.size := (by omega); have lt_c1_1_1 : w.heap.size + 1 < v3.heap.size := (by omega); have hBB := hBB.trans (hb.mono hBB.size); clear hb hz))
  all_goals
    go_wp2
    go_ret
    exact ⟨rfl, hB.trans (Below.mono (B := wA1.heap.size) (by repeat (first | with_reducible exact Below.refl _ _ | (with_reducible refine Below.setCell ?_ (by first | exact Nat.le_refl _ | omega | (simp; done) | (simp; omega)) _) | (with_reducible refine Below.alloc ?_ (by first | exact Nat.le_refl _ | omega | (simp; done) | (simp; omega)) _) | with_reducible refine Below.drew ?_ | with_reducible refine bel_drewN ?_ _ | (with_reducible refine bel_by (by with_reducible assumption) (by first | exact Nat.le_refl _ | omega | (simp; done) | (simp; omega)) ?_))) hzB)⟩
end Go.Proofs.YtfdalnkdeeminaaDoor
