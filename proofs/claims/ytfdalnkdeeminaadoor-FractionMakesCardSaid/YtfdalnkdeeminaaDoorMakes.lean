/- The law FractionMakes: its walk. -/
import Derived.Test.YtfdalnkdeeminaaDoorRefF
import Derived.Test.YtfdalnkdeeminaaDoorAwake
set_option linter.unusedSimpArgs false
set_option linter.unusedVariables false
namespace Go.Proofs.YtfdalnkdeeminaaDoor
open Go.RowKit

set_option maxHeartbeats 8000000 in
set_option maxRecDepth 100000 in
theorem makes_walk (n d : Int) (h1 : -9223372036854775808 ≤ n) (h1' : n ≤ 9223372036854775807) (h2 : -9223372036854775808 ≤ d) (h2' : d ≤ 9223372036854775807) (w : World) (ht : TabW w) :
    Calls Tryd.prog 3 #[.int .i64 n, .int .i64 d] w fun e w' => e = .returned (.bool true) ∧ Below w.heap.size w w' := by
  have HT := Lib.hid ht
  clear ht
  have C1 := Lib.hid (fun W => make_any n d h1 h1' h2 h2' W)
  have C2 := Lib.hid (fun W => rmake_any n d h1 h1' h2 h2' W)
  have C3 := Lib.hid (fun W => valid_any n d h1 h1' h2 h2' W)
  have C4 := Lib.hid (fun W => rvalid_any n d h1 h1' h2 h2' W)
  have C5 := Lib.hid (fun W => milli_any n h1 h1' W)
  have C6 := Lib.hid (fun W => rmilli_any n h1 h1' W)
  have C7 := Lib.hid (fun W => neg_any n d h1 h1' h2 h2' W)
  have C8 := Lib.hid (fun W => rneg_any n d h1 h1' h2 h2' W)
  generalize makeS n d = t at *
  generalize milliS n = tm at *
  generalize negS n d = tn at *
  generalize vldI n d = tv at *
  clear h1 h1' h2 h2'
  go_enter Tryd.func3, Tryd.ntmps3
  go_wp2_with fail
  refine (C1.out _).mono ?_
  rintro e w1 ⟨rfl, hb⟩
  have HB1 := Lib.hid hb
  clear hb
  go_wp2_with fail
  refine (C2.out _).mono ?_
  rintro e w2 ⟨rfl, hb⟩
  have hz := bsize hb
  simp at hz
  obtain ⟨hc, -⟩ := bcell hb
  have a0 : w2.cell? ⟨w1.heap.size, 0, none⟩ = some (.int .i64 t.1) := (hc _ _ (by simp)).trans (by simp [go_sem])
  have a1 : w2.cell? ⟨w1.heap.size, 1, none⟩ = some (.int .i64 t.2.1) := (hc _ _ (by simp)).trans (by simp [go_sem])
  have k1 : w1.heap.size < w2.heap.size := by omega
  have hb1 := HB1.out
  have hs1 := hb1.size
  have hK : Below w1.heap.size w1 w2 := (by repeat (first | with_reducible exact Below.refl _ _ | (with_reducible refine Below.setCell ?_ (by first | exact Nat.le_refl _ | omega | (simp; done) | (simp; omega)) _) | (with_reducible refine Below.alloc ?_ (by first | exact Nat.le_refl _ | omega | (simp; done) | (simp; omega)) _) | with_reducible refine Below.drew ?_ | with_reducible refine bel_drewN ?_ _ | (with_reducible refine bel_by (by with_reducible assumption) (by first | exact Nat.le_refl _ | omega | (simp; done) | (simp; omega)) ?_)))
  have hB2 := hb1.trans (hK.mono hs1)
  have HB2 := Lib.hid hB2
  clear hc hb hz hb1 hK hB2 hs1 HB1
  go_wp2_with fail
  have hb2 := HB2.out
  have hK : Below w2.heap.size w2 (w2.alloc (.cells #[.int .i64 t.1, .int .i64 t.2.1] 23)) := (by repeat (first | with_reducible exact Below.refl _ _ | (with_reducible refine Below.setCell ?_ (by first | exact Nat.le_refl _ | omega | (simp; done) | (simp; omega)) _) | (with_reducible refine Below.alloc ?_ (by first | exact Nat.le_refl _ | omega | (simp; done) | (simp; omega)) _) | with_reducible refine Below.drew ?_ | with_reducible refine bel_drewN ?_ _ | (with_reducible refine bel_by (by with_reducible assumption) (by first | exact Nat.le_refl _ | omega | (simp; done) | (simp; omega)) ?_)))
  have hB : Below w.heap.size w (w2.alloc (.cells #[.int .i64 t.1, .int .i64 t.2.1] 23)) := hb2.trans (hK.mono hb2.size)
  have d0 : (w2.alloc (.cells #[.int .i64 t.1, .int .i64 t.2.1] 23)).cell? ⟨w1.heap.size, 0, none⟩ = some (.int .i64 t.1) := (hK.cell (p := ⟨w1.heap.size, 0, none⟩) k1).trans a0
  have d1 : (w2.alloc (.cells #[.int .i64 t.1, .int .i64 t.2.1] 23)).cell? ⟨w1.heap.size, 1, none⟩ = some (.int .i64 t.2.1) := (hK.cell (p := ⟨w1.heap.size, 1, none⟩) k1).trans a1
  have e0 : (w2.alloc (.cells #[.int .i64 t.1, .int .i64 t.2.1] 23)).cell? ⟨w2.heap.size, 0, none⟩ = some (.int .i64 t.1) := by simp [go_sem]
  have e1 : (w2.alloc (.cells #[.int .i64 t.1, .int .i64 t.2.1] 23)).cell? ⟨w2.heap.size, 1, none⟩ = some (.int .i64 t.2.1) := by simp [go_sem]
  have hzA : (w2.alloc (.cells #[.int .i64 t.1, .int .i64 t.2.1] 23)).heap.size = w2.heap.size + 1 := by simp
  generalize w2.alloc (.cells #[.int .i64 t.1, .int .i64 t.2.1] 23) = wA at hB d0 d1 e0 e1 hzA ⊢
  have k1' : w1.heap.size < wA.heap.size := by omega
  have k2' : w2.heap.size < wA.heap.size := by omega
  have hT : TabW wA := HT.out.below hB
  have HTA := Lib.hid hT
  have HBA := Lib.hid hB
  clear hT hB hK hb2 hzA a0 a1 k1 HB2
  refine (awake_any _ HTA.out).mono ?_
  rintro e w3 ⟨rfl, hb⟩
  have d0' := (hb.cell (p := ⟨w1.heap.size, 0, none⟩) k1').trans d0
  have d1' := (hb.cell (p := ⟨w1.heap.size, 1, none⟩) k1').trans d1
  have e0' := (hb.cell (p := ⟨w2.heap.size, 0, none⟩) k2').trans e0
  have e1' := (hb.cell (p := ⟨w2.heap.size, 1, none⟩) k2').trans e1
  have HB3 := Lib.hid hb
  clear hb d0 d1 e0 e1 k1' k2'
  go_wp2_with (first | (go_at_call 16; refine (f_any _ _ _).mono ?_; rintro e wf ⟨rfl, rfl⟩))
  refine (C3.out _).mono ?_
  rintro e w4 ⟨rfl, hb⟩
  have HB4 := Lib.hid hb
  clear hb d0' d1' e0' e1'
  go_wp2_with (first | (go_at_call 16; refine (f_any _ _ _).mono ?_; rintro e wf ⟨rfl, rfl⟩))
  refine (C4.out _).mono ?_
  rintro e w5 ⟨rfl, hb⟩
  have HB5 := Lib.hid hb
  clear hb
  go_wp2_with (first | (go_at_call 16; refine (f_any _ _ _).mono ?_; rintro e wf ⟨rfl, rfl⟩))
  refine (C5.out _).mono ?_
  rintro e w6 ⟨rfl, hb⟩
  have HB6 := Lib.hid hb
  clear hb
  go_wp2_with (first | (go_at_call 16; refine (f_any _ _ _).mono ?_; rintro e wf ⟨rfl, rfl⟩))
  refine (C6.out _).mono ?_
  rintro e w7 ⟨rfl, hb⟩
  have HB7 := Lib.hid hb
  clear hb
  go_wp2_with (first | (go_at_call 16; refine (f_any _ _ _).mono ?_; rintro e wf ⟨rfl, rfl⟩))
  refine (C7.out _).mono ?_
  rintro e w8 ⟨rfl, hb⟩
  have HB8 := Lib.hid hb
  clear hb
  go_wp2_with (first | (go_at_call 16; refine (f_any _ _ _).mono ?_; rintro e wf ⟨rfl, rfl⟩))
  refine (C8.out _).mono ?_
  rintro e w9 ⟨rfl, hb⟩
  have HB9 := Lib.hid hb
  clear hb
  go_wp2
  go_ret
  have hA := HBA.out
  have hb3 := HB3.out
  have hz3 := bsize hb3
  try simp at hz3
  have hb4 := HB4.out
  have hz4 := bsize hb4
  try simp at hz4
  have hb5 := HB5.out
  have hz5 := bsize hb5
  try simp at hz5
  have hb6 := HB6.out
  have hz6 := bsize hb6
  try simp at hz6
  have hb7 := HB7.out
  have hz7 := bsize hb7
  try simp at hz7
  have hb8 := HB8.out
  have hz8 := bsize hb8
  try simp at hz8
  have hb9 := HB9.out
  have hz9 := bsize hb9
  try simp at hz9
  have hzA := hA.size
  exact ⟨rfl, (by repeat (first | with_reducible exact Below.refl _ _ | (with_reducible refine Below.setCell ?_ (by first | exact Nat.le_refl _ | omega | (simp; done) | (simp; omega)) _) | (with_reducible refine Below.alloc ?_ (by first | exact Nat.le_refl _ | omega | (simp; done) | (simp; omega)) _) | with_reducible refine Below.drew ?_ | with_reducible refine bel_drewN ?_ _ | (with_reducible refine bel_by (by with_reducible assumption) (by first | exact Nat.le_refl _ | omega | (simp; done) | (simp; omega)) ?_)))⟩
end Go.Proofs.YtfdalnkdeeminaaDoor
