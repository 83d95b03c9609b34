/- The law FractionDecimals: its walk. -/
import Derived.Test.YtfdalnkdeeminaaDoorDecB
import Derived.Test.YtfdalnkdeeminaaDoorRefE
import Derived.Test.YtfdalnkdeeminaaDoorTxtB
import Derived.Test.YtfdalnkdeeminaaDoorAwake
set_option linter.unusedSimpArgs false
set_option linter.unusedVariables false
namespace Go.Proofs.YtfdalnkdeeminaaDoor
open Go.RowKit

set_option maxHeartbeats 8000000 in
set_option maxRecDepth 100000 in
theorem decs_no (n d : Int) (hd : ¬ (0 ≤ d ∧ d ≤ 6)) (w : World) (ht : TabW w) :
    Calls Tryd.prog 10 #[.int .i64 n, .int .i64 d] w fun e w' => e = .returned (.bool true) ∧ Below w.heap.size w w' := by
  have HT := Lib.hid ht
  clear ht
  have K1 := Lib.hid (fun W => dec_no n d hd W)
  have K2 := Lib.hid (fun W => rdec_no n d hd W)
  clear hd
  go_enter Tryd.func10, Tryd.ntmps10
  go_wp2_with fail
  refine (K1.out _).mono ?_
  rintro e w1 ⟨rfl, hb⟩
  have hz := bsize hb
  try simp at hz
  have HB := Lib.hid hb
  clear hb hz
  go_wp2_with fail
  refine (K2.out _).mono ?_
  rintro e w2 ⟨rfl, hb⟩
  have hz := bsize hb
  try simp at hz
  have hB := HB.out.trans (hb.mono HB.out.size)
  clear HB
  have HB := Lib.hid hB
  clear hB
  clear hb hz
  go_wp2_with fail
  have hT := HT.out.below HB.out
  refine (awake_any _ hT).mono ?_
  rintro e w3 ⟨rfl, hb⟩
  have hz := bsize hb
  try simp at hz
  have hB := HB.out.trans (hb.mono HB.out.size)
  clear HB
  have HB := Lib.hid hB
  clear hB
  clear hb hz
  go_wp2
  go_ret
  have hB := HB.out
  exact ⟨rfl, (by repeat (first | with_reducible exact Below.refl _ _ | (with_reducible refine Below.setCell ?_ (by first | exact Nat.le_refl _ | omega | (simp; done) | (simp; omega)) _) | (with_reducible refine Below.alloc ?_ (by first | exact Nat.le_refl _ | omega | (simp; done) | (simp; omega)) _) | with_reducible refine Below.drew ?_ | with_reducible refine bel_drewN ?_ _ | (with_reducible refine bel_by (by with_reducible assumption) (by first | exact Nat.le_refl _ | omega | (simp; done) | (simp; omega)) ?_)))⟩

set_option maxHeartbeats 8000000 in
set_option maxRecDepth 100000 in
theorem decs_yes (n : Int) (k : Nat) (A1 : -9223372036854775808 ≤ n) (A2 : n ≤ 9223372036854775807) (hk : k ≤ 6) (w : World) (ht : TabW w) :
    Calls Tryd.prog 10 #[.int .i64 n, .int .i64 (k : Int)] w fun e w' => e = .returned (.bool true) ∧ Below w.heap.size w w' := by
  have HT := Lib.hid ht
  clear ht
  have K1 := Lib.hid (fun W (ht : TabW W) => dec_any n k A1 A2 hk W ht)
  have K2 := Lib.hid (fun W (ht : TabW W) => rdec_any n k A1 A2 hk W ht)
  have hsz := decB_size n k A1 A2 hk
  have C3 := fun W => parse_any (decB n k) hsz W
  have C3 : -1000000000000 ≤ n → n ≤ 1000000000000 → ∀ W, Calls Tryd.prog 38 #[.string (decB n k)] W fun e w' => e = .returned (fracE (makeS n (pw10 (k : Int)))) ∧ Below W.heap.size W w' := by
    intro h1 h2 W
    rw [← (parse_dec n k h1 h2 hk).1]
    exact C3 W
  have HO : -1000000000000 ≤ n → n ≤ 1000000000000 → (makeS n (pw10 (k : Int))).2.2 = 0 := fun h1 h2 => (parse_dec n k h1 h2 hk).2
  have hp6 : pw10 (k : Int) ≤ 1000000 := by unfold pw10; rw [Int.toNat_natCast]; exact pw6 k hk
  have hp1 := (pw10_bd (k : Int) (by omega)).1
  have K4 := Lib.hid (fun W => rmake_any n (pw10 (k : Int)) A1 A2 (by omega) (by omega) W)
  have K3 := Lib.hid C3
  have KO := Lib.hid HO
  have HPD := Lib.hid hk
  clear C3 HO hsz hp6 hp1
  generalize makeS n (pw10 (k : Int)) = t at *
  generalize decB n k = R at *
  go_enter Tryd.func10, Tryd.ntmps10
  go_wp2_with fail
  refine (K1.out _ HT.out).mono ?_
  rintro e w1 ⟨rfl, hb⟩
  have hz := bsize hb
  try simp at hz
  have HB := Lib.hid hb
  clear hb hz
  go_wp2_with fail
  refine (K2.out _ (HT.out.below HB.out)).mono ?_
  rintro e w2 ⟨rfl, hb⟩
  have hz := bsize hb
  try simp at hz
  have hB := HB.out.trans (hb.mono HB.out.size)
  clear HB
  have HB := Lib.hid hB
  clear hB
  clear hb hz
  by_cases hA : 1000000000000 < n
  · go_wp2_with fail
    have hT := HT.out.below HB.out
    refine (awake_any _ hT).mono ?_
    rintro e w3 ⟨rfl, hb⟩
    have hz := bsize hb
    try simp at hz
    have hB := HB.out.trans (hb.mono HB.out.size)
    clear HB
    have HB := Lib.hid hB
    clear hB
    clear hb hz
    go_wp2
    go_ret
    have hB := HB.out
    exact ⟨rfl, (by repeat (first | with_reducible exact Below.refl _ _ | (with_reducible refine Below.setCell ?_ (by first | exact Nat.le_refl _ | omega | (simp; done) | (simp; omega)) _) | (with_reducible refine Below.alloc ?_ (by first | exact Nat.le_refl _ | omega | (simp; done) | (simp; omega)) _) | with_reducible refine Below.drew ?_ | with_reducible refine bel_drewN ?_ _ | (with_reducible refine bel_by (by with_reducible assumption) (by first | exact Nat.le_refl _ | omega | (simp; done) | (simp; omega)) ?_)))⟩
  by_cases hC : n < -1000000000000
  · go_wp2_with fail
    have hT := HT.out.below HB.out
    refine (awake_any _ hT).mono ?_
    rintro e w3 ⟨rfl, hb⟩
    have hz := bsize hb
    try simp at hz
    have hB := HB.out.trans (hb.mono HB.out.size)
    clear HB
    have HB := Lib.hid hB
    clear hB
    clear hb hz
    go_wp2
    go_ret
    have hB := HB.out
    exact ⟨rfl, (by repeat (first | with_reducible exact Below.refl _ _ | (with_reducible refine Below.setCell ?_ (by first | exact Nat.le_refl _ | omega | (simp; done) | (simp; omega)) _) | (with_reducible refine Below.alloc ?_ (by first | exact Nat.le_refl _ | omega | (simp; done) | (simp; omega)) _) | with_reducible refine Below.drew ?_ | with_reducible refine bel_drewN ?_ _ | (with_reducible refine bel_by (by with_reducible assumption) (by first | exact Nat.le_refl _ | omega | (simp; done) | (simp; omega)) ?_)))⟩
  have C3 := K3.out (by omega) (by omega)
  have HO := KO.out (by omega) (by omega)
  have ho : (t.2.2 == 0) = true := by simpa using HO
  have KP := Lib.hid C3
  clear C3 HO K3 KO
  go_wp2
  go_loop [9, 10] (fun s9 s10 => ∃ j : Nat, j ≤ k ∧ s9 = .int .i64 (pw10 (j : Int)) ∧ s10 = .int .i64 j) (fun _ s10 => k - (intOf s10).toNat)
  case atStart => exact ⟨0, Nat.zero_le _, rfl, rfl⟩
  case round =>
    obtain ⟨j, hj, rfl, rfl⟩ := hrel
    by_cases hlt : j < k
    · have z0 : (j : Int) < (k : Int) := by omega
      have z1 : pw10 (j : Int) ≤ 1000000 := by unfold pw10; rw [Int.toNat_natCast]; exact pw6 j (by omega)
      have z2 := (pw10_bd (j : Int) (by omega)).1
      have HP := Lib.hid (pw10_succ (j : Int) (by omega))
      go_wp2
      go_round
      case rel => exact ⟨j + 1, by omega, by rw [show ((j + 1 : Nat) : Int) = (j : Int) + 1 from by omega, HP.out], by go_num⟩
      case measure => simp [intOf]; omega
    · obtain rfl : j = k := by omega
      clear hlt hj
      go_wp2_with fail
      refine (KP.out _).mono ?_
      rintro e w3 ⟨rfl, hb⟩
      have hz := bsize hb
      try simp at hz
      have hB := HB.out.trans (hb.mono HB.out.size)
      clear HB
      have HB := Lib.hid hB
      clear hB
      clear hb hz
      go_wp2_with fail
      have hP := HB.out
      have hK : Below w3.heap.size w3 (w3.alloc (.cells #[.int .i64 t.1, .int .i64 t.2.1] 23)) := (by repeat (first | with_reducible exact Below.refl _ _ | (with_reducible refine Below.setCell ?_ (by first | exact Nat.le_refl _ | omega | (simp; done) | (simp; omega)) _) | (with_reducible refine Below.alloc ?_ (by first | exact Nat.le_refl _ | omega | (simp; done) | (simp; omega)) _) | with_reducible refine Below.drew ?_ | with_reducible refine bel_drewN ?_ _ | (with_reducible refine bel_by (by with_reducible assumption) (by first | exact Nat.le_refl _ | omega | (simp; done) | (simp; omega)) ?_)))
      have hB : Below w.heap.size w (w3.alloc (.cells #[.int .i64 t.1, .int .i64 t.2.1] 23)) := hP.trans (hK.mono hP.size)
      have c4_0_0 : (w3.alloc (.cells #[.int .i64 t.1, .int .i64 t.2.1] 23)).cell? ⟨w3.heap.size, 0, none⟩ = some (.int .i64 t.1) := by simp [go_sem]
      have c4_0_1 : (w3.alloc (.cells #[.int .i64 t.1, .int .i64 t.2.1] 23)).cell? ⟨w3.heap.size, 1, none⟩ = some (.int .i64 t.2.1) := by simp [go_sem]
      have hz : (w3.alloc (.cells #[.int .i64 t.1, .int .i64 t.2.1] 23)).heap.size = w3.heap.size + 1 := by simp
      generalize (w3.alloc (.cells #[.int .i64 t.1, .int .i64 t.2.1] 23)) = wA4 at hB hK hz c4_0_0 c4_0_1 ⊢
      clear hK
      have lt_c4_0_0 : w3.heap.size < wA4.heap.size := by omega
      have lt_c4_0_1 : w3.heap.size < wA4.heap.size := by omega
      clear hP HB
      have HB := Lib.hid hB
      clear hB hz
      refine (K4.out _).mono ?_
      rintro e w4 ⟨rfl, hb⟩
      have c4_0_0 := (hb.cell (p := ⟨w3.heap.size, 0, none⟩) lt_c4_0_0).trans c4_0_0
      have c4_0_1 := (hb.cell (p := ⟨w3.heap.size, 1, none⟩) lt_c4_0_1).trans c4_0_1
      have hz := bsize hb
      try simp at hz
      have lt_c4_0_0 : w3.heap.size < w4.heap.size := by omega
      have lt_c4_0_1 : w3.heap.size < w4.heap.size := by omega
      have hB := HB.out.trans (hb.mono HB.out.size)
      clear HB
      have HB := Lib.hid hB
      clear hB
      clear hb hz
      go_wp2_with fail
      have hP := HB.out
      have hK : Below w4.heap.size w4 (w4.alloc (.cells #[.int .i64 t.1, .int .i64 t.2.1] 23)) := (by repeat (first | with_reducible exact Below.refl _ _ | (with_reducible refine Below.setCell ?_ (by first | exact Nat.le_refl _ | omega | (simp; done) | (simp; omega)) _) | (with_reducible refine Below.alloc ?_ (by first | exact Nat.le_refl _ | omega | (simp; done) | (simp; omega)) _) | with_reducible refine Below.drew ?_ | with_reducible refine bel_drewN ?_ _ | (with_reducible refine bel_by (by with_reducible assumption) (by first | exact Nat.le_refl _ | omega | (simp; done) | (simp; omega)) ?_)))
      have hB : Below w.heap.size w (w4.alloc (.cells #[.int .i64 t.1, .int .i64 t.2.1] 23)) := hP.trans (hK.mono hP.size)
      have c4_0_0 : (w4.alloc (.cells #[.int .i64 t.1, .int .i64 t.2.1] 23)).cell? ⟨w3.heap.size, 0, none⟩ = some (.int .i64 t.1) := (hK.cell (p := ⟨w3.heap.size, 0, none⟩) lt_c4_0_0).trans c4_0_0
      have c4_0_1 : (w4.alloc (.cells #[.int .i64 t.1, .int .i64 t.2.1] 23)).cell? ⟨w3.heap.size, 1, none⟩ = some (.int .i64 t.2.1) := (hK.cell (p := ⟨w3.heap.size, 1, none⟩) lt_c4_0_1).trans c4_0_1
      have c5_0_0 : (w4.alloc (.cells #[.int .i64 t.1, .int .i64 t.2.1] 23)).cell? ⟨w4.heap.size, 0, none⟩ = some (.int .i64 t.1) := by simp [go_sem]
      have c5_0_1 : (w4.alloc (.cells #[.int .i64 t.1, .int .i64 t.2.1] 23)).cell? ⟨w4.heap.size, 1, none⟩ = some (.int .i64 t.2.1) := by simp [go_sem]
      have hz : (w4.alloc (.cells #[.int .i64 t.1, .int .i64 t.2.1] 23)).heap.size = w4.heap.size + 1 := by simp
      generalize (w4.alloc (.cells #[.int .i64 t.1, .int .i64 t.2.1] 23)) = wA5 at hB hK hz c4_0_0 c4_0_1 c5_0_0 c5_0_1 ⊢
      clear hK
      have lt_c4_0_0 : w3.heap.size < wA5.heap.size := by omega
      have lt_c4_0_1 : w3.heap.size < wA5.heap.size := by omega
      have lt_c5_0_0 : w4.heap.size < wA5.heap.size := by omega
      have lt_c5_0_1 : w4.heap.size < wA5.heap.size := by omega
      clear hP HB
      have HB := Lib.hid hB
      clear hB hz
      have hT := HT.out.below HB.out
      refine (awake_any _ hT).mono ?_
      rintro e w5 ⟨rfl, hb⟩
      have c4_0_0 := (hb.cell (p := ⟨w3.heap.size, 0, none⟩) lt_c4_0_0).trans c4_0_0
      have c4_0_1 := (hb.cell (p := ⟨w3.heap.size, 1, none⟩) lt_c4_0_1).trans c4_0_1
      have c5_0_0 := (hb.cell (p := ⟨w4.heap.size, 0, none⟩) lt_c5_0_0).trans c5_0_0
      have c5_0_1 := (hb.cell (p := ⟨w4.heap.size, 1, none⟩) lt_c5_0_1).trans c5_0_1
      have hz := bsize hb
      try simp at hz
      have lt_c4_0_0 : w3.heap.size < w5.heap.size := by omega
      have lt_c4_0_1 : w3.heap.size < w5.heap.size := by omega
      have lt_c5_0_0 : w4.heap.size < w5.heap.size := by omega
      have lt_c5_0_1 : w4.heap.size < w5.heap.size := by omega
      have hB := HB.out.trans (hb.mono HB.out.size)
      clear HB
      have HB := Lib.hid hB
      clear hB
      clear hb hz
      go_wp2
      go_ret
      have hB := HB.out
      exact ⟨rfl, (by repeat (first | with_reducible exact Below.refl _ _ | (with_reducible refine Below.setCell ?_ (by first | exact Nat.le_refl _ | omega | (simp; done) | (simp; omega)) _) | (with_reducible refine Below.alloc ?_ (by first | exact Nat.le_refl _ | omega | (simp; done) | (simp; omega)) _) | with_reducible refine Below.drew ?_ | with_reducible refine bel_drewN ?_ _ | (with_reducible refine bel_by (by with_reducible assumption) (by first | exact Nat.le_refl _ | omega | (simp; done) | (simp; omega)) ?_)))⟩

theorem decimals_walk (n d : Int) (A1 : -9223372036854775808 ≤ n) (A2 : n ≤ 9223372036854775807) (w : World) (ht : TabW w) :
    Calls Tryd.prog 10 #[.int .i64 n, .int .i64 d] w fun e w' => e = .returned (.bool true) ∧ Below w.heap.size w w' := by
  by_cases hd : 0 ≤ d ∧ d ≤ 6
  · obtain ⟨k, rfl⟩ := Int.eq_ofNat_of_zero_le hd.1
    exact decs_yes n k A1 A2 (by omega) w ht
  · exact decs_no n d hd w ht
end Go.Proofs.YtfdalnkdeeminaaDoor
