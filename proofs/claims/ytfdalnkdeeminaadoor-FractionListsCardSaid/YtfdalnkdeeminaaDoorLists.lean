/- The law FractionLists: its walk. -/
import Derived.Test.YtfdalnkdeeminaaDoorLstD
import Derived.Test.YtfdalnkdeeminaaDoorAwake
set_option linter.unusedSimpArgs false
set_option linter.unusedVariables false
namespace Go.Proofs.YtfdalnkdeeminaaDoor
open Go.RowKit

theorem infoF : (Tryd.prog.info? 23).map (fun i => (i.zero, i.size, i.bytes)) = some (some (.agg #[.int .i64 0, .int .i64 0]), 2, 16) := by kernel_rfl

set_option maxHeartbeats 8000000 in
set_option maxRecDepth 100000 in
theorem lists_long {a : Option Addr} {b off len cap : Nat} {xs : List (Int × Int)} {w : World} (h : SlF w a b off len cap xs) (hn : 12 < len) (ht : TabW w) :
    Calls Tryd.prog 9 #[.slice a len cap] w fun e w' => e = .returned (.bool true) ∧ Below w.heap.size w w' := by
  have hcap := h.hcap
  have hl := h.hl
  unfold maxLen at hcap
  have HT := Lib.hid ht
  clear ht
  clear h
  go_enter Tryd.func9, Tryd.ntmps9
  go_wp2_with fail
  refine (awake_any _ HT.out).mono ?_
  rintro e w1 ⟨rfl, hb⟩
  have hz := bsize hb
  try simp at hz
  have HB := Lib.hid hb
  clear hb hz
  go_wp2
  go_ret
  have hB := HB.out
  exact ⟨rfl, (by repeat (first | with_reducible exact Below.refl _ _ | (with_reducible refine Below.setCell ?_ (by first | exact Nat.le_refl _ | omega | (simp; done) | (simp; omega)) _) | (with_reducible refine Below.alloc ?_ (by first | exact Nat.le_refl _ | omega | (simp; done) | (simp; omega)) _) | with_reducible refine Below.drew ?_ | with_reducible refine bel_drewN ?_ _ | (with_reducible refine bel_by (by with_reducible assumption) (by first | exact Nat.le_refl _ | omega | (simp; done) | (simp; omega)) ?_)))⟩

set_option maxHeartbeats 8000000 in
set_option maxRecDepth 100000 in
theorem lists_short {a : Option Addr} {b off len cap : Nat} {xs : List (Int × Int)} {w : World} (h : SlF w a b off len cap xs) (hn : ¬ 12 < len) (ht : TabW w) :
    Calls Tryd.prog 9 #[.slice a len cap] w fun e w' => e = .returned (.bool true) ∧ Below w.heap.size w w' := by
  have hcap := h.hcap
  have hl := h.hl
  unfold maxLen at hcap
  have HT := Lib.hid ht
  clear ht
  have HX := Lib.hid h
  have K1 := Lib.hid (fun (W : World) (hB : Below w.heap.size w W) => fsum_any (h.keep hB))
  have K2 := Lib.hid (fun (W : World) (hB : Below w.heap.size w W) => rsum_any (h.keep hB))
  have K3 := Lib.hid (fun (W : World) (hB : Below w.heap.size w W) => fmean_any (h.keep hB))
  have K4 := Lib.hid (fun (W : World) (hB : Below w.heap.size w W) => rmean_any (h.keep hB))
  have K5 := Lib.hid (fun (W : World) (a' : Option Addr) (b' cap' : Nat) (h' : SlF W a' b' 0 len cap' xs.reverse) => fsum_any h')
  have HR := Lib.hid (sumL_rev xs)
  generalize sumL xs = t at *
  generalize meanL xs = m at *
  generalize sumL xs.reverse = u at *
  clear h
  go_enter Tryd.func9, Tryd.ntmps9
  go_wp2_with fail
  refine (K1.out _ (Below.refl _ _)).mono ?_
  rintro e w1 ⟨rfl, hb⟩
  have hz := bsize hb
  try simp at hz
  have HB := Lib.hid hb
  clear hb hz
  go_wp2_with fail
  have hP := HB.out
  have hK : Below w1.heap.size w1 (w1.alloc (.cells #[.int .i64 t.1, .int .i64 t.2.1] 23)) := (by repeat (first | with_reducible exact Below.refl _ _ | (with_reducible refine Below.setCell ?_ (by first | exact Nat.le_refl _ | omega | (simp; done) | (simp; omega)) _) | (with_reducible refine Below.alloc ?_ (by first | exact Nat.le_refl _ | omega | (simp; done) | (simp; omega)) _) | with_reducible refine Below.drew ?_ | with_reducible refine bel_drewN ?_ _ | (with_reducible refine bel_by (by with_reducible assumption) (by first | exact Nat.le_refl _ | omega | (simp; done) | (simp; omega)) ?_)))
  have hB : Below w.heap.size w (w1.alloc (.cells #[.int .i64 t.1, .int .i64 t.2.1] 23)) := hP.trans (hK.mono hP.size)
  have c2_0_0 : (w1.alloc (.cells #[.int .i64 t.1, .int .i64 t.2.1] 23)).cell? ⟨w1.heap.size, 0, none⟩ = some (.int .i64 t.1) := by simp [go_sem]
  have c2_0_1 : (w1.alloc (.cells #[.int .i64 t.1, .int .i64 t.2.1] 23)).cell? ⟨w1.heap.size, 1, none⟩ = some (.int .i64 t.2.1) := by simp [go_sem]
  have hz : (w1.alloc (.cells #[.int .i64 t.1, .int .i64 t.2.1] 23)).heap.size = w1.heap.size + 1 := by simp
  generalize (w1.alloc (.cells #[.int .i64 t.1, .int .i64 t.2.1] 23)) = wA2 at hB hK hz c2_0_0 c2_0_1 ⊢
  clear hK
  have lt_c2_0_0 : w1.heap.size < wA2.heap.size := by omega
  have lt_c2_0_1 : w1.heap.size < wA2.heap.size := by omega
  clear hP HB
  have HB := Lib.hid hB
  clear hB hz
  refine (K2.out _ HB.out).mono ?_
  rintro e w2 ⟨rfl, hb⟩
  have c2_0_0 := (hb.cell (p := ⟨w1.heap.size, 0, none⟩) lt_c2_0_0).trans c2_0_0
  have c2_0_1 := (hb.cell (p := ⟨w1.heap.size, 1, none⟩) lt_c2_0_1).trans c2_0_1
  have hz := bsize hb
  try simp at hz
  have lt_c2_0_0 : w1.heap.size < w2.heap.size := by omega
  have lt_c2_0_1 : w1.heap.size < w2.heap.size := by omega
  have hB := HB.out.trans (hb.mono HB.out.size)
  clear HB
  have HB := Lib.hid hB
  clear hB
  clear hb hz
  go_wp2_with fail
  have hP := HB.out
  have hK : Below w2.heap.size w2 (w2.alloc (.cells #[.int .i64 t.1, .int .i64 t.2.1] 23)) := (by repeat (first | with_reducible exact Below.refl _ _ | (with_reducible refine Below.setCell ?_ (by first | exact Nat.le_refl _ | omega | (simp; done) | (simp; omega)) _) | (with_reducible refine Below.alloc ?_ (by first | exact Nat.le_refl _ | omega | (simp; done) | (simp; omega)) _) | with_reducible refine Below.drew ?_ | with_reducible refine bel_drewN ?_ _ | (with_reducible refine bel_by (by with_reducible assumption) (by first | exact Nat.le_refl _ | omega | (simp; done) | (simp; omega)) ?_)))
  have hB : Below w.heap.size w (w2.alloc (.cells #[.int .i64 t.1, .int .i64 t.2.1] 23)) := hP.trans (hK.mono hP.size)
  have c2_0_0 : (w2.alloc (.cells #[.int .i64 t.1, .int .i64 t.2.1] 23)).cell? ⟨w1.heap.size, 0, none⟩ = some (.int .i64 t.1) := (hK.cell (p := ⟨w1.heap.size, 0, none⟩) lt_c2_0_0).trans c2_0_0
  have c2_0_1 : (w2.alloc (.cells #[.int .i64 t.1, .int .i64 t.2.1] 23)).cell? ⟨w1.heap.size, 1, none⟩ = some (.int .i64 t.2.1) := (hK.cell (p := ⟨w1.heap.size, 1, none⟩) lt_c2_0_1).trans c2_0_1
  have c3_0_0 : (w2.alloc (.cells #[.int .i64 t.1, .int .i64 t.2.1] 23)).cell? ⟨w2.heap.size, 0, none⟩ = some (.int .i64 t.1) := by simp [go_sem]
  have c3_0_1 : (w2.alloc (.cells #[.int .i64 t.1, .int .i64 t.2.1] 23)).cell? ⟨w2.heap.size, 1, none⟩ = some (.int .i64 t.2.1) := by simp [go_sem]
  have hz : (w2.alloc (.cells #[.int .i64 t.1, .int .i64 t.2.1] 23)).heap.size = w2.heap.size + 1 := by simp
  generalize (w2.alloc (.cells #[.int .i64 t.1, .int .i64 t.2.1] 23)) = wA3 at hB hK hz c2_0_0 c2_0_1 c3_0_0 c3_0_1 ⊢
  clear hK
  have lt_c2_0_0 : w1.heap.size < wA3.heap.size := by omega
  have lt_c2_0_1 : w1.heap.size < wA3.heap.size := by omega
  have lt_c3_0_0 : w2.heap.size < wA3.heap.size := by omega
  have lt_c3_0_1 : w2.heap.size < wA3.heap.size := by omega
  clear hP HB
  have HB := Lib.hid hB
  clear hB hz
  refine (K3.out _ HB.out).mono ?_
  rintro e w3 ⟨rfl, hb⟩
  have c2_0_0 := (hb.cell (p := ⟨w1.heap.size, 0, none⟩) lt_c2_0_0).trans c2_0_0
  have c2_0_1 := (hb.cell (p := ⟨w1.heap.size, 1, none⟩) lt_c2_0_1).trans c2_0_1
  have c3_0_0 := (hb.cell (p := ⟨w2.heap.size, 0, none⟩) lt_c3_0_0).trans c3_0_0
  have c3_0_1 := (hb.cell (p := ⟨w2.heap.size, 1, none⟩) lt_c3_0_1).trans c3_0_1
  have hz := bsize hb
  try simp at hz
  have lt_c2_0_0 : w1.heap.size < w3.heap.size := by omega
  have lt_c2_0_1 : w1.heap.size < w3.heap.size := by omega
  have lt_c3_0_0 : w2.heap.size < w3.heap.size := by omega
  have lt_c3_0_1 : w2.heap.size < w3.heap.size := by omega
  have hB := HB.out.trans (hb.mono HB.out.size)
  clear HB
  have HB := Lib.hid hB
  clear hB
  clear hb hz
  go_wp2_with fail
  have hP := HB.out
  have hK : Below w3.heap.size w3 (w3.alloc (.cells #[.int .i64 m.1, .int .i64 m.2.1] 23)) := (by repeat (first | with_reducible exact Below.refl _ _ | (with_reducible refine Below.setCell ?_ (by first | exact Nat.le_refl _ | omega | (simp; done) | (simp; omega)) _) | (with_reducible refine Below.alloc ?_ (by first | exact Nat.le_refl _ | omega | (simp; done) | (simp; omega)) _) | with_reducible refine Below.drew ?_ | with_reducible refine bel_drewN ?_ _ | (with_reducible refine bel_by (by with_reducible assumption) (by first | exact Nat.le_refl _ | omega | (simp; done) | (simp; omega)) ?_)))
  have hB : Below w.heap.size w (w3.alloc (.cells #[.int .i64 m.1, .int .i64 m.2.1] 23)) := hP.trans (hK.mono hP.size)
  have c2_0_0 : (w3.alloc (.cells #[.int .i64 m.1, .int .i64 m.2.1] 23)).cell? ⟨w1.heap.size, 0, none⟩ = some (.int .i64 t.1) := (hK.cell (p := ⟨w1.heap.size, 0, none⟩) lt_c2_0_0).trans c2_0_0
  have c2_0_1 : (w3.alloc (.cells #[.int .i64 m.1, .int .i64 m.2.1] 23)).cell? ⟨w1.heap.size, 1, none⟩ = some (.int .i64 t.2.1) := (hK.cell (p := ⟨w1.heap.size, 1, none⟩) lt_c2_0_1).trans c2_0_1
  have c3_0_0 : (w3.alloc (.cells #[.int .i64 m.1, .int .i64 m.2.1] 23)).cell? ⟨w2.heap.size, 0, none⟩ = some (.int .i64 t.1) := (hK.cell (p := ⟨w2.heap.size, 0, none⟩) lt_c3_0_0).trans c3_0_0
  have c3_0_1 : (w3.alloc (.cells #[.int .i64 m.1, .int .i64 m.2.1] 23)).cell? ⟨w2.heap.size, 1, none⟩ = some (.int .i64 t.2.1) := (hK.cell (p := ⟨w2.heap.size, 1, none⟩) lt_c3_0_1).trans c3_0_1
  have c4_0_0 : (w3.alloc (.cells #[.int .i64 m.1, .int .i64 m.2.1] 23)).cell? ⟨w3.heap.size, 0, none⟩ = some (.int .i64 m.1) := by simp [go_sem]
  have c4_0_1 : (w3.alloc (.cells #[.int .i64 m.1, .int .i64 m.2.1] 23)).cell? ⟨w3.heap.size, 1, none⟩ = some (.int .i64 m.2.1) := by simp [go_sem]
  have hz : (w3.alloc (.cells #[.int .i64 m.1, .int .i64 m.2.1] 23)).heap.size = w3.heap.size + 1 := by simp
  generalize (w3.alloc (.cells #[.int .i64 m.1, .int .i64 m.2.1] 23)) = wA4 at hB hK hz c2_0_0 c2_0_1 c3_0_0 c3_0_1 c4_0_0 c4_0_1 ⊢
  clear hK
  have lt_c2_0_0 : w1.heap.size < wA4.heap.size := by omega
  have lt_c2_0_1 : w1.heap.size < wA4.heap.size := by omega
  have lt_c3_0_0 : w2.heap.size < wA4.heap.size := by omega
  have lt_c3_0_1 : w2.heap.size < wA4.heap.size := by omega
  have lt_c4_0_0 : w3.heap.size < wA4.heap.size := by omega
  have lt_c4_0_1 : w3.heap.size < wA4.heap.size := by omega
  clear hP HB
  have HB := Lib.hid hB
  clear hB hz
  refine (K4.out _ HB.out).mono ?_
  rintro e w4 ⟨rfl, hb⟩
  have c2_0_0 := (hb.cell (p := ⟨w1.heap.size, 0, none⟩) lt_c2_0_0).trans c2_0_0
  have c2_0_1 := (hb.cell (p := ⟨w1.heap.size, 1, none⟩) lt_c2_0_1).trans c2_0_1
  have c3_0_0 := (hb.cell (p := ⟨w2.heap.size, 0, none⟩) lt_c3_0_0).trans c3_0_0
  have c3_0_1 := (hb.cell (p := ⟨w2.heap.size, 1, none⟩) lt_c3_0_1).trans c3_0_1
  have c4_0_0 := (hb.cell (p := ⟨w3.heap.size, 0, none⟩) lt_c4_0_0).trans c4_0_0
  have c4_0_1 := (hb.cell (p := ⟨w3.heap.size, 1, none⟩) lt_c4_0_1).trans c4_0_1
  have hz := bsize hb
  try simp at hz
  have lt_c2_0_0 : w1.heap.size < w4.heap.size := by omega
  have lt_c2_0_1 : w1.heap.size < w4.heap.size := by omega
  have lt_c3_0_0 : w2.heap.size < w4.heap.size := by omega
  have lt_c3_0_1 : w2.heap.size < w4.heap.size := by omega
  have lt_c4_0_0 : w3.heap.size < w4.heap.size := by omega
  have lt_c4_0_1 : w3.heap.size < w4.heap.size := by omega
  have hB := HB.out.trans (hb.mono HB.out.size)
  clear HB
  have HB := Lib.hid hB
  clear hB
  clear hb hz
  go_wp2_with fail
  have hP := HB.out
  have hK : Below w4.heap.size w4 (w4.alloc (.cells #[.int .i64 m.1, .int .i64 m.2.1] 23)) := (by repeat (first | with_reducible exact Below.refl _ _ | (with_reducible refine Below.setCell ?_ (by first | exact Nat.le_refl _ | omega | (simp; done) | (simp; omega)) _) | (with_reducible refine Below.alloc ?_ (by first | exact Nat.le_refl _ | omega | (simp; done) | (simp; omega)) _) | with_reducible refine Below.drew ?_ | with_reducible refine bel_drewN ?_ _ | (with_reducible refine bel_by (by with_reducible assumption) (by first | exact Nat.le_refl _ | omega | (simp; done) | (simp; omega)) ?_)))
  have hB : Below w.heap.size w (w4.alloc (.cells #[.int .i64 m.1, .int .i64 m.2.1] 23)) := hP.trans (hK.mono hP.size)
  have c2_0_0 : (w4.alloc (.cells #[.int .i64 m.1, .int .i64 m.2.1] 23)).cell? ⟨w1.heap.size, 0, none⟩ = some (.int .i64 t.1) := (hK.cell (p := ⟨w1.heap.size, 0, none⟩) lt_c2_0_0).trans c2_0_0
  have c2_0_1 : (w4.alloc (.cells #[.int .i64 m.1, .int .i64 m.2.1] 23)).cell? ⟨w1.heap.size, 1, none⟩ = some (.int .i64 t.2.1) := (hK.cell (p := ⟨w1.heap.size, 1, none⟩) lt_c2_0_1).trans c2_0_1
  have c3_0_0 : (w4.alloc (.cells #[.int .i64 m.1, .int .i64 m.2.1] 23)).cell? ⟨w2.heap.size, 0, none⟩ = some (.int .i64 t.1) := (hK.cell (p := ⟨w2.heap.size, 0, none⟩) lt_c3_0_0).trans c3_0_0
  have c3_0_1 : (w4.alloc (.cells #[.int .i64 m.1, .int .i64 m.2.1] 23)).cell? ⟨w2.heap.size, 1, none⟩ = some (.int .i64 t.2.1) := (hK.cell (p := ⟨w2.heap.size, 1, none⟩) lt_c3_0_1).trans c3_0_1
  have c4_0_0 : (w4.alloc (.cells #[.int .i64 m.1, .int .i64 m.2.1] 23)).cell? ⟨w3.heap.size, 0, none⟩ = some (.int .i64 m.1) := (hK.cell (p := ⟨w3.heap.size, 0, none⟩) lt_c4_0_0).trans c4_0_0
  have c4_0_1 : (w4.alloc (.cells #[.int .i64 m.1, .int .i64 m.2.1] 23)).cell? ⟨w3.heap.size, 1, none⟩ = some (.int .i64 m.2.1) := (hK.cell (p := ⟨w3.heap.size, 1, none⟩) lt_c4_0_1).trans c4_0_1
  have c5_0_0 : (w4.alloc (.cells #[.int .i64 m.1, .int .i64 m.2.1] 23)).cell? ⟨w4.heap.size, 0, none⟩ = some (.int .i64 m.1) := by simp [go_sem]
  have c5_0_1 : (w4.alloc (.cells #[.int .i64 m.1, .int .i64 m.2.1] 23)).cell? ⟨w4.heap.size, 1, none⟩ = some (.int .i64 m.2.1) := by simp [go_sem]
  have hz : (w4.alloc (.cells #[.int .i64 m.1, .int .i64 m.2.1] 23)).heap.size = w4.heap.size + 1 := by simp
  generalize (w4.alloc (.cells #[.int .i64 m.1, .int .i64 m.2.1] 23)) = wA5 at hB hK hz c2_0_0 c2_0_1 c3_0_0 c3_0_1 c4_0_0 c4_0_1 c5_0_0 c5_0_1 ⊢
  clear hK
  have lt_c2_0_0 : w1.heap.size < wA5.heap.size := by omega
  have lt_c2_0_1 : w1.heap.size < wA5.heap.size := by omega
  have lt_c3_0_0 : w2.heap.size < wA5.heap.size := by omega
  have lt_c3_0_1 : w2.heap.size < wA5.heap.size := by omega
  have lt_c4_0_0 : w3.heap.size < wA5.heap.size := by omega
  have lt_c4_0_1 : w3.heap.size < wA5.heap.size := by omega
  have lt_c5_0_0 : w4.heap.size < wA5.heap.size := by omega
  have lt_c5_0_1 : w4.heap.size < wA5.heap.size := by omega
  clear hP HB
  have HB := Lib.hid hB
  have HZ5 := Lib.hid hz
  clear hB hz
  have hz5 : wA5.heap.size = w4.heap.size + 1 := HZ5.out
  have HB' := HB
  obtain ⟨i0, hi, hz0, hz1, hz2⟩ := info_parts infoF
  go_loopw [11, 12] (fun s11 s12 wr => ∃ k : Nat, k ≤ len ∧ s12 = .int .i64 ((k : Int) - 1) ∧ wr.ownsRow (w4.heap.size + 1) 23 2 s11 (len - k) (cellsF2 (xs.drop k).reverse) ∧ Below (w4.heap.size + 1) wA5 wr) (fun _ s12 _ => (intOf s12 + 1).toNat)
  case atStart =>
    refine ⟨len, Nat.le_refl _, rfl, ?_, ?_⟩
    · rw [show xs.drop len = [] from by rw [List.drop_eq_nil_iff, HX.out.hlen]; omega, Nat.sub_self]
      have := World.ownsRow_made (w := wA5) (base := w4.heap.size + 1) (e := 23) (size := 2) #[] 0 (by omega) (by decide) rfl
      rw [hz5] at this
      exact this
    · exact (Below.refl _ _).alloc (by omega) _
  case round =>
    obtain ⟨k, hk, hs12, hown, hbel⟩ := hrel
    have hzr := hbel.size
    have HBEL := Lib.hid hbel
    have HOWN := Lib.hid hown
    clear hbel hown
    cases k with
    | succ j =>
      obtain rfl := hs12.trans (show Value.int .i64 (((j + 1 : Nat) : Int) - 1) = .int .i64 (j : Int) from by congr 1; omega)
      clear hs12
      have hlx : j < xs.length := by have := HX.out.hlen; omega
      obtain ⟨c0, c1⟩ := HX.out.hc j hlx
      have hb := HX.out.hb (by omega)
      obtain rfl := HX.out.ha (by omega)
      have hwB := HB'.out
      have hzw := hwB.size
      have c0 := (hwB.cell (p := ⟨b, off + j * 2, none⟩) hb).trans c0
      have c1 := (hwB.cell (p := ⟨b, off + j * 2 + 1, none⟩) hb).trans c1
      have c0 := (HBEL.out.cell (p := ⟨b, off + j * 2, none⟩) (show b < _ by omega)).trans c0
      have c1 := (HBEL.out.cell (p := ⟨b, off + j * 2 + 1, none⟩) (show b < _ by omega)).trans c1
      have k2 : b < wr.heap.size := by omega
      have HAP := Lib.hid (show (xs.drop j).reverse = (xs.drop (j + 1)).reverse ++ [((xs[j]'hlx).1, (xs[j]'hlx).2)] by rw [List.drop_eq_getElem_cons hlx, List.reverse_cons])
      clear hwB hzw
      generalize (xs[j]'hlx).1 = xn at *
      generalize (xs[j]'hlx).2 = xd at *
      have hown := HOWN.out
      go_wp2_with (first
        | (at_builtin; refine wpList_append_own _ rfl _ _ 37 rfl (w4.heap.size + 1) 23 i0 (.agg #[.int .i64 0, .int .i64 0]) 2 16 Tryd.underlying37 hi hz0 hz1 hz2 rfl (by decide) _ _ _ rfl (hown.alloc _) ⟨wr.heap.size, 0, none⟩ 1 1 [.int .i64 xn, .int .i64 xd] rfl rfl ?c1 ?c2 ?c3 ?c4 ?c5 ?_))
      case c1 =>
        intro i u hu
        match i, hu with
        | 0, hu => simp at hu; subst hu; first | (simp [Addr.add]; done) | (simp [Addr.add, go_sem]; done)
        | 1, hu => simp at hu; subst hu; first | (simp [Addr.add]; done) | (simp [Addr.add, go_sem]; done)
      case c2 => intro u hu; simp at hu; rcases hu with rfl | rfl <;> rfl
      case c3 => unfold maxLen; omega
      case c4 => omega
      case c5 => first | (simp; done) | (simp; omega)
      intro v' w' hown' hgrow _
      have HO' := Lib.hid hown'
      have HG' := Lib.hid hgrow
      clear hown' hgrow hown c0 c1
      go_wp2
      go_roundw
      case rel =>
        refine ⟨j, by omega, by go_num, ?_, ?_⟩
        · have h1 := HO'.out
          rw [HAP.out, cellsF2_append]
          rw [show len - j = len - (j + 1) + 1 from by omega]
          exact h1
        · have hlt := HOWN.out.lt
          exact ((HBEL.out).alloc (by omega) _).grown HG'.out (by first | (simp; done) | (simp; omega)) (fun k hk => (hlt k hk).1)
      case measure => first | (simp [intOf]; done) | (simp [intOf]; omega)
    | zero =>
      obtain rfl := hs12.trans (show Value.int .i64 (((0 : Nat) : Int) - 1) = .int .i64 (-1) from rfl)
      clear hs12
      have hown := HOWN.out
      rw [List.drop_zero, Nat.sub_zero] at hown
      obtain ⟨a', b', cap', rfl, hS⟩ := slF_of_own (by rw [List.length_reverse]; exact HX.out.hlen) hown (fun x hx => HX.out.hw x (List.mem_reverse.1 hx))
      clear hown
      have hb := HBEL.out
      have c2_0_0 := (hb.cell (p := ⟨w1.heap.size, 0, none⟩) (show w1.heap.size < _ by omega)).trans c2_0_0
      have c2_0_1 := (hb.cell (p := ⟨w1.heap.size, 1, none⟩) (show w1.heap.size < _ by omega)).trans c2_0_1
      have lt_c2_0_0 : w1.heap.size < wr.heap.size := by omega
      have lt_c2_0_1 : w1.heap.size < wr.heap.size := by omega
      have hB := HB'.out.trans (hb.mono (by have := HB'.out.size; omega))
      clear HB HB' hb
      have HB := Lib.hid hB
      clear hB
      go_wp2_with fail
      refine (K5.out _ a' b' cap' hS).mono ?_
      rintro e w6 ⟨rfl, hb⟩
      have c2_0_0 := (hb.cell (p := ⟨w1.heap.size, 0, none⟩) lt_c2_0_0).trans c2_0_0
      have c2_0_1 := (hb.cell (p := ⟨w1.heap.size, 1, none⟩) lt_c2_0_1).trans c2_0_1
      have hz := bsize hb
      try simp at hz
      have lt_c2_0_0 : w1.heap.size < w6.heap.size := by omega
      have lt_c2_0_1 : w1.heap.size < w6.heap.size := by omega
      have hB := HB.out.trans (hb.mono HB.out.size)
      clear HB
      have HB := Lib.hid hB
      clear hB
      clear hb hz
      go_wp2_with fail
      have hP := HB.out
      have hK : Below w6.heap.size w6 (w6.alloc (.cells #[.int .i64 u.1, .int .i64 u.2.1] 23)) := (by repeat (first | with_reducible exact Below.refl _ _ | (with_reducible refine Below.setCell ?_ (by first | exact Nat.le_refl _ | omega | (simp; done) | (simp; omega)) _) | (with_reducible refine Below.alloc ?_ (by first | exact Nat.le_refl _ | omega | (simp; done) | (simp; omega)) _) | with_reducible refine Below.drew ?_ | with_reducible refine bel_drewN ?_ _ | (with_reducible refine bel_by (by with_reducible assumption) (by first | exact Nat.le_refl _ | omega | (simp; done) | (simp; omega)) ?_)))
      have hB : Below w.heap.size w (w6.alloc (.cells #[.int .i64 u.1, .int .i64 u.2.1] 23)) := hP.trans (hK.mono hP.size)
      have c2_0_0 : (w6.alloc (.cells #[.int .i64 u.1, .int .i64 u.2.1] 23)).cell? ⟨w1.heap.size, 0, none⟩ = some (.int .i64 t.1) := (hK.cell (p := ⟨w1.heap.size, 0, none⟩) lt_c2_0_0).trans c2_0_0
      have c2_0_1 : (w6.alloc (.cells #[.int .i64 u.1, .int .i64 u.2.1] 23)).cell? ⟨w1.heap.size, 1, none⟩ = some (.int .i64 t.2.1) := (hK.cell (p := ⟨w1.heap.size, 1, none⟩) lt_c2_0_1).trans c2_0_1
      have c7_0_0 : (w6.alloc (.cells #[.int .i64 u.1, .int .i64 u.2.1] 23)).cell? ⟨w6.heap.size, 0, none⟩ = some (.int .i64 u.1) := by simp [go_sem]
      have c7_0_1 : (w6.alloc (.cells #[.int .i64 u.1, .int .i64 u.2.1] 23)).cell? ⟨w6.heap.size, 1, none⟩ = some (.int .i64 u.2.1) := by simp [go_sem]
      have hz : (w6.alloc (.cells #[.int .i64 u.1, .int .i64 u.2.1] 23)).heap.size = w6.heap.size + 1 := by simp
      generalize (w6.alloc (.cells #[.int .i64 u.1, .int .i64 u.2.1] 23)) = wA7 at hB hK hz c2_0_0 c2_0_1 c7_0_0 c7_0_1 ⊢
      clear hK
      have lt_c2_0_0 : w1.heap.size < wA7.heap.size := by omega
      have lt_c2_0_1 : w1.heap.size < wA7.heap.size := by omega
      have lt_c7_0_0 : w6.heap.size < wA7.heap.size := by omega
      have lt_c7_0_1 : w6.heap.size < wA7.heap.size := by omega
      clear hP HB
      have HB := Lib.hid hB
      clear hB hz
      have hT := HT.out.below HB.out
      refine (awake_any _ hT).mono ?_
      rintro e w7 ⟨rfl, hb⟩
      have c2_0_0 := (hb.cell (p := ⟨w1.heap.size, 0, none⟩) lt_c2_0_0).trans c2_0_0
      have c2_0_1 := (hb.cell (p := ⟨w1.heap.size, 1, none⟩) lt_c2_0_1).trans c2_0_1
      have c7_0_0 := (hb.cell (p := ⟨w6.heap.size, 0, none⟩) lt_c7_0_0).trans c7_0_0
      have c7_0_1 := (hb.cell (p := ⟨w6.heap.size, 1, none⟩) lt_c7_0_1).trans c7_0_1
      have hz := bsize hb
      try simp at hz
      have lt_c2_0_0 : w1.heap.size < w7.heap.size := by omega
      have lt_c2_0_1 : w1.heap.size < w7.heap.size := by omega
      have lt_c7_0_0 : w6.heap.size < w7.heap.size := by omega
      have lt_c7_0_1 : w6.heap.size < w7.heap.size := by omega
      have hB := HB.out.trans (hb.mono HB.out.size)
      clear HB
      have HB := Lib.hid hB
      clear hB
      clear hb hz
      cases ht : (t.2.2 == 0)
      · have ht' : (t.2.2 != 0) = true := by simp [bne, ht]
        go_wp2
        go_ret
        have hB := HB.out
        exact ⟨rfl, (by repeat (first | with_reducible exact Below.refl _ _ | (with_reducible refine Below.setCell ?_ (by first | exact Nat.le_refl _ | omega | (simp; done) | (simp; omega)) _) | (with_reducible refine Below.alloc ?_ (by first | exact Nat.le_refl _ | omega | (simp; done) | (simp; omega)) _) | with_reducible refine Below.drew ?_ | with_reducible refine bel_drewN ?_ _ | (with_reducible refine bel_by (by with_reducible assumption) (by first | exact Nat.le_refl _ | omega | (simp; done) | (simp; omega)) ?_)))⟩
      have ht' : (t.2.2 != 0) = false := by simp [bne, ht]
      cases hu : (u.2.2 == 0)
      · have hu' : (u.2.2 != 0) = true := by simp [bne, hu]
        go_wp2
        go_ret
        have hB := HB.out
        exact ⟨rfl, (by repeat (first | with_reducible exact Below.refl _ _ | (with_reducible refine Below.setCell ?_ (by first | exact Nat.le_refl _ | omega | (simp; done) | (simp; omega)) _) | (with_reducible refine Below.alloc ?_ (by first | exact Nat.le_refl _ | omega | (simp; done) | (simp; omega)) _) | with_reducible refine Below.drew ?_ | with_reducible refine bel_drewN ?_ _ | (with_reducible refine bel_by (by with_reducible assumption) (by first | exact Nat.le_refl _ | omega | (simp; done) | (simp; omega)) ?_)))⟩
      have hu' : (u.2.2 != 0) = false := by simp [bne, hu]
      obtain ⟨g1, g2⟩ := HR.out (by simpa using ht) (by simpa using hu)
      go_wp2
      go_ret
      have hB := HB.out
      exact ⟨rfl, (by repeat (first | with_reducible exact Below.refl _ _ | (with_reducible refine Below.setCell ?_ (by first | exact Nat.le_refl _ | omega | (simp; done) | (simp; omega)) _) | (with_reducible refine Below.alloc ?_ (by first | exact Nat.le_refl _ | omega | (simp; done) | (simp; omega)) _) | with_reducible refine Below.drew ?_ | with_reducible refine bel_drewN ?_ _ | (with_reducible refine bel_by (by with_reducible assumption) (by first | exact Nat.le_refl _ | omega | (simp; done) | (simp; omega)) ?_)))⟩

theorem lists_walk {a : Option Addr} {b off len cap : Nat} {xs : List (Int × Int)} {w : World} (h : SlF w a b off len cap xs) (ht : TabW w) :
    Calls Tryd.prog 9 #[.slice a len cap] w fun e w' => e = .returned (.bool true) ∧ Below w.heap.size w w' := by
  by_cases hn : 12 < len
  · exact lists_long h hn ht
  · exact lists_short h hn ht
end Go.Proofs.YtfdalnkdeeminaaDoor
