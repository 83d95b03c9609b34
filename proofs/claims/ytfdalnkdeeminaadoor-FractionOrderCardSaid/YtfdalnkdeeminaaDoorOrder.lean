/- The law FractionOrder: its walk. -/
import Derived.BigQuiet
import Derived.Deep.QuietTactic
import Derived.Test.YtfdalnkdeeminaaDoorFld
import Derived.Test.YtfdalnkdeeminaaDoorNumL
import Derived.Test.YtfdalnkdeeminaaDoorAwake
set_option linter.unusedSimpArgs false
set_option linter.unusedVariables false
namespace Go.Proofs.YtfdalnkdeeminaaDoor
open Go.RowKit

theorem f_bel (n d : Int) (w : World) : Calls Tryd.prog 16 #[.int .i64 n, .int .i64 d] w fun e w' => e = .returned (.agg #[.int .i64 n, .int .i64 d]) ∧ Below w.heap.size w w' := by
  refine (f_any n d w).mono ?_
  rintro e w' ⟨rfl, rfl⟩
  exact ⟨rfl, (by repeat (first | with_reducible exact Below.refl _ _ | (with_reducible refine Below.setCell ?_ (by first | exact Nat.le_refl _ | omega | (simp; done) | (simp; omega)) _) | (with_reducible refine Below.alloc ?_ (by first | exact Nat.le_refl _ | omega | (simp; done) | (simp; omega)) _) | with_reducible refine Below.drew ?_ | with_reducible refine bel_drewN ?_ _ | (with_reducible refine bel_by (by with_reducible assumption) (by first | exact Nat.le_refl _ | omega | (simp; done) | (simp; omega)) ?_)))⟩

set_option maxHeartbeats 8000000 in
set_option maxRecDepth 100000 in
theorem order_no (an ad bn bd cn cd : Int) (A1 : -9223372036854775808 ≤ an) (A2 : an ≤ 9223372036854775807) (A3 : -9223372036854775808 ≤ ad) (A4 : ad ≤ 9223372036854775807) (B1 : -9223372036854775808 ≤ bn) (B2 : bn ≤ 9223372036854775807) (B3 : -9223372036854775808 ≤ bd) (B4 : bd ≤ 9223372036854775807) (D1 : -9223372036854775808 ≤ cn) (D2 : cn ≤ 9223372036854775807) (D3 : -9223372036854775808 ≤ cd) (D4 : cd ≤ 9223372036854775807) (va vb : Bool) (xv : Int) (av : vldI an ad = va) (bv : vldI bn bd = vb) (hx : cmpS an ad bn bd = xv) (hc : (va = false ∧ vb = false ∧ xv = 0) ∨ (va = false ∧ vb = true ∧ xv = -1) ∨ (va = true ∧ vb = false ∧ xv = 1)) (w : World) (ht : TabW w) :
    Calls Tryd.prog 7 #[.agg #[.int .i64 an, .int .i64 ad], .agg #[.int .i64 bn, .int .i64 bd], .agg #[.int .i64 cn, .int .i64 cd]] w fun e w' => e = .returned (.bool true) ∧ Below w.heap.size w w' := by
  have W1 : Wf64 (an, ad) := ⟨A1, A2, A3, A4⟩
  have W2 : Wf64 (bn, bd) := ⟨B1, B2, B3, B4⟩
  have W3 : Wf64 (cn, cd) := ⟨D1, D2, D3, D4⟩
  have HT := Lib.hid ht
  clear ht
  have VA := fun W => valid_any an ad A1 A2 A3 A4 W
  have VB := fun W => valid_any bn bd B1 B2 B3 B4 W
  have C1 := fun W => cmp_any an ad bn bd W1 W2 W
  have C2 := fun W => cmp_any bn bd cn cd W2 W3 W
  have C3 := fun W => cmp_any an ad cn cd W1 W3 W
  have C4 := fun W => cmp_any bn bd an ad W2 W1 W
  rw [cmp_swap' an ad bn bd, Int.zero_sub] at C4
  have rx := cmp_range' an ad bn bd
  have ry := cmp_range' bn bd cn cd
  have rz := cmp_range' an ad cn cd
  have tr := cmp_trans' an ad bn bd cn cd
  rw [av] at VA
  rw [bv] at VB
  generalize cmpS an ad bn bd = x at *
  generalize cmpS bn bd cn cd = y at *
  generalize cmpS an ad cn cd = z at *
  subst hx
  clear av bv
  have RX := Lib.hid rx
  have RY := Lib.hid ry
  have RZ := Lib.hid rz
  have TR := Lib.hid tr
  have K1 := Lib.hid C1
  have K2 := Lib.hid C2
  have K3 := Lib.hid C3
  have K4 := Lib.hid C4
  have HVA := Lib.hid VA
  have HVB := Lib.hid VB
  clear rx ry rz tr C1 C2 C3 C4 VA VB W1 W2 W3 A1 A2 A3 A4 B1 B2 B3 B4 D1 D2 D3 D4
  go_enter Tryd.func7, Tryd.ntmps7
  go_upto_region 1 with fail
  have hK : Below w.heap.size w (((w.alloc (.cells #[.int .i64 an, .int .i64 ad] 23)).alloc (.cells #[.int .i64 bn, .int .i64 bd] 23)).alloc (.cells #[.int .i64 cn, .int .i64 cd] 23)) := (by repeat (first | with_reducible exact Below.refl _ _ | (with_reducible refine Below.setCell ?_ (by first | exact Nat.le_refl _ | omega | (simp; done) | (simp; omega)) _) | (with_reducible refine Below.alloc ?_ (by first | exact Nat.le_refl _ | omega | (simp; done) | (simp; omega)) _) | with_reducible refine Below.drew ?_ | with_reducible refine bel_drewN ?_ _ | (with_reducible refine bel_by (by with_reducible assumption) (by first | exact Nat.le_refl _ | omega | (simp; done) | (simp; omega)) ?_)))
  have hB := hK
  have c1_0_0 : (((w.alloc (.cells #[.int .i64 an, .int .i64 ad] 23)).alloc (.cells #[.int .i64 bn, .int .i64 bd] 23)).alloc (.cells #[.int .i64 cn, .int .i64 cd] 23)).cell? ⟨w.heap.size, 0, none⟩ = some (.int .i64 an) := by simp [go_sem]
  have c1_0_1 : (((w.alloc (.cells #[.int .i64 an, .int .i64 ad] 23)).alloc (.cells #[.int .i64 bn, .int .i64 bd] 23)).alloc (.cells #[.int .i64 cn, .int .i64 cd] 23)).cell? ⟨w.heap.size, 1, none⟩ = some (.int .i64 ad) := by simp [go_sem]
  have c1_1_0 : (((w.alloc (.cells #[.int .i64 an, .int .i64 ad] 23)).alloc (.cells #[.int .i64 bn, .int .i64 bd] 23)).alloc (.cells #[.int .i64 cn, .int .i64 cd] 23)).cell? ⟨w.heap.size + 1, 0, none⟩ = some (.int .i64 bn) := by simp [go_sem]
  have c1_1_1 : (((w.alloc (.cells #[.int .i64 an, .int .i64 ad] 23)).alloc (.cells #[.int .i64 bn, .int .i64 bd] 23)).alloc (.cells #[.int .i64 cn, .int .i64 cd] 23)).cell? ⟨w.heap.size + 1, 1, none⟩ = some (.int .i64 bd) := by simp [go_sem]
  have c1_2_0 : (((w.alloc (.cells #[.int .i64 an, .int .i64 ad] 23)).alloc (.cells #[.int .i64 bn, .int .i64 bd] 23)).alloc (.cells #[.int .i64 cn, .int .i64 cd] 23)).cell? ⟨w.heap.size + 1 + 1, 0, none⟩ = some (.int .i64 cn) := by simp [go_sem]
  have c1_2_1 : (((w.alloc (.cells #[.int .i64 an, .int .i64 ad] 23)).alloc (.cells #[.int .i64 bn, .int .i64 bd] 23)).alloc (.cells #[.int .i64 cn, .int .i64 cd] 23)).cell? ⟨w.heap.size + 1 + 1, 1, none⟩ = some (.int .i64 cd) := by simp [go_sem]
  have hz : (((w.alloc (.cells #[.int .i64 an, .int .i64 ad] 23)).alloc (.cells #[.int .i64 bn, .int .i64 bd] 23)).alloc (.cells #[.int .i64 cn, .int .i64 cd] 23)).heap.size = w.heap.size + 3 := by simp
  generalize (((w.alloc (.cells #[.int .i64 an, .int .i64 ad] 23)).alloc (.cells #[.int .i64 bn, .int .i64 bd] 23)).alloc (.cells #[.int .i64 cn, .int .i64 cd] 23)) = wA1 at hB hK hz c1_0_0 c1_0_1 c1_1_0 c1_1_1 c1_2_0 c1_2_1 ⊢
  clear hK
  have lt_c1_0_0 : w.heap.size < wA1.heap.size := by omega
  have lt_c1_0_1 : w.heap.size < wA1.heap.size := by omega
  have lt_c1_1_0 : w.heap.size + 1 < wA1.heap.size := by omega
  have lt_c1_1_1 : w.heap.size + 1 < wA1.heap.size := by omega
  have lt_c1_2_0 : w.heap.size + 1 + 1 < wA1.heap.size := by omega
  have lt_c1_2_1 : w.heap.size + 1 + 1 < wA1.heap.size := by omega
  have HB := Lib.hid hB
  clear hB hz
  go_cut [7, 8, 9] (fun s7 s8 s9 wx => s7 = .int .i64 x ∧ s8 = .int .i64 y ∧ s9 = .int .i64 z ∧ Below wA1.heap.size wA1 wx)
  case first =>
    have hBB : Below wA1.heap.size wA1 wA1 := Below.refl _ _
    go_region_held3 (fun w' => w'.cell? ⟨w.heap.size, 0, none⟩ = some (.int .i64 an) ∧ w'.cell? ⟨w.heap.size, 1, none⟩ = some (.int .i64 ad) ∧ w'.cell? ⟨w.heap.size + 1, 0, none⟩ = some (.int .i64 bn) ∧ w'.cell? ⟨w.heap.size + 1, 1, none⟩ = some (.int .i64 bd) ∧ w'.cell? ⟨w.heap.size + 1 + 1, 0, none⟩ = some (.int .i64 cn) ∧ w'.cell? ⟨w.heap.size + 1 + 1, 1, none⟩ = some (.int .i64 cd))
      ((first | (simp [go_sem, c1_0_0, c1_0_1, c1_1_0, c1_1_1, c1_2_0, c1_2_1]; done)))
      (first
    | (go_at_call 30; (with_reducible refine (K1.out _).mono ?_); rintro e v1 ⟨rfl, hb⟩; (repeat (with_reducible replace hb := undrew hb)); have c1_0_0 := (hb.cell (p := ⟨w.heap.size, 0, none⟩) lt_c1_0_0).trans c1_0_0; have c1_0_1 := (hb.cell (p := ⟨w.heap.size, 1, none⟩) lt_c1_0_1).trans c1_0_1; have c1_1_0 := (hb.cell (p := ⟨w.heap.size + 1, 0, none⟩) lt_c1_1_0).trans c1_1_0; have c1_1_1 := (hb.cell (p := ⟨w.heap.size + 1, 1, none⟩) lt_c1_1_1).trans c1_1_1; have c1_2_0 := (hb.cell (p := ⟨w.heap.size + 1 + 1, 0, none⟩) lt_c1_2_0).trans c1_2_0; have c1_2_1 := (hb.cell (p := ⟨w.heap.size + 1 + 1, 1, none⟩) lt_c1_2_1).trans c1_2_1; have hz := bsize hb; (try simp at hz); have lt_c1_0_0 : w.heap.size < v1.heap.size := (by omega); have lt_c1_0_1 : w.heap.size < v1.heap.size := (by omega); have lt_c1_1_0 : w.heap.size + 1 < v1.heap.size := (by omega); have lt_c1_1_1 : w.heap.size + 1 < v1.heap.size := (by omega); have lt_c1_2_0 : w.heap.size + 1 + 1 < v1.heap.size := (by omega); have lt_c1_2_1 : w.heap.size + 1 + 1 < v1.heap.size := (by omega); have hBB := hBB.trans (hb.mono hBB.size); clear hb hz)
    | (go_at_call 30; (with_reducible refine (K2.out _).mono ?_); rintro e v2 ⟨rfl, hb⟩; (repeat (with_reducible replace hb := undrew hb)); have c1_0_0 := (hb.cell (p := ⟨w.heap.size, 0, none⟩) lt_c1_0_0).trans c1_0_0; have c1_0_1 := (hb.cell (p := ⟨w.heap.size, 1, none⟩) lt_c1_0_1).trans c1_0_1; have c1_1_0 := (hb.cell (p := ⟨w.heap.size + 1, 0, none⟩) lt_c1_1_0).trans c1_1_0; have c1_1_1 := (hb.cell (p := ⟨w.heap.size + 1, 1, none⟩) lt_c1_1_1).trans c1_1_1; have c1_2_0 := (hb.cell (p := ⟨w.heap.size + 1 + 1, 0, none⟩) lt_c1_2_0).trans c1_2_0; have c1_2_1 := (hb.cell (p := ⟨w.heap.size + 1 + 1, 1, none⟩) lt_c1_2_1).trans c1_2_1; have hz := bsize hb; (try simp at hz); have lt_c1_0_0 : w.heap.size < v2.heap.size := (by omega); have lt_c1_0_1 : w.heap.size < v2.heap.size := (by omega); have lt_c1_1_0 : w.heap.size + 1 < v2.heap.size := (by omega); have lt_c1_1_1 : w.heap.size + 1 < v2.heap.size := (by omega); have lt_c1_2_0 : w.heap.size + 1 + 1 < v2.heap.size := (by omega); have lt_c1_2_1 : w.heap.size + 1 + 1 < v2.heap.size := (by omega); have hBB := hBB.trans (hb.mono hBB.size); clear hb hz)
    | (go_at_call 30; (with_reducible refine (K3.out _).mono ?_); rintro e v3 ⟨rfl, hb⟩; (repeat (with_reducible replace hb := undrew hb)); have c1_0_0 := (hb.cell (p := ⟨w.heap.size, 0, none⟩) lt_c1_0_0).trans c1_0_0; have c1_0_1 := (hb.cell (p := ⟨w.heap.size, 1, none⟩) lt_c1_0_1).trans c1_0_1; have c1_1_0 := (hb.cell (p := ⟨w.heap.size + 1, 0, none⟩) lt_c1_1_0).trans c1_1_0; have c1_1_1 := (hb.cell (p := ⟨w.heap.size + 1, 1, none⟩) lt_c1_1_1).trans c1_1_1; have c1_2_0 := (hb.cell (p := ⟨w.heap.size + 1 + 1, 0, none⟩) lt_c1_2_0).trans c1_2_0; have c1_2_1 := (hb.cell (p := ⟨w.heap.size + 1 + 1, 1, none⟩) lt_c1_2_1).trans c1_2_1; have hz := bsize hb; (try simp at hz); have lt_c1_0_0 : w.heap.size < v3.heap.size := (by omega); have lt_c1_0_1 : w.heap.size < v3.heap.size := (by omega); have lt_c1_1_0 : w.heap.size + 1 < v3.heap.size := (by omega); have lt_c1_1_1 : w.heap.size + 1 < v3.heap.size := (by omega); have lt_c1_2_0 : w.heap.size + 1 + 1 < v3.heap.size := (by omega); have lt_c1_2_1 : w.heap.size + 1 + 1 < v3.heap.size := (by omega); have hBB := hBB.trans (hb.mono hBB.size); clear hb hz))
    all_goals
      go_wp2_with fail
      go_meet
      exact ⟨rfl, rfl, rfl, (by repeat (first | with_reducible exact Below.refl _ _ | (with_reducible refine Below.setCell ?_ (by first | exact Nat.le_refl _ | omega | (simp; done) | (simp; omega)) _) | (with_reducible refine Below.alloc ?_ (by first | exact Nat.le_refl _ | omega | (simp; done) | (simp; omega)) _) | with_reducible refine Below.drew ?_ | with_reducible refine bel_drewN ?_ _ | (with_reducible refine bel_by (by with_reducible assumption) (by first | exact Nat.le_refl _ | omega | (simp; done) | (simp; omega)) ?_)))⟩
  obtain ⟨rfl, rfl, rfl, hb⟩ := hcut
  generalize wc = wc2 at *
  have c1_0_0 := (hb.cell (p := ⟨w.heap.size, 0, none⟩) lt_c1_0_0).trans c1_0_0
  have c1_0_1 := (hb.cell (p := ⟨w.heap.size, 1, none⟩) lt_c1_0_1).trans c1_0_1
  have c1_1_0 := (hb.cell (p := ⟨w.heap.size + 1, 0, none⟩) lt_c1_1_0).trans c1_1_0
  have c1_1_1 := (hb.cell (p := ⟨w.heap.size + 1, 1, none⟩) lt_c1_1_1).trans c1_1_1
  have c1_2_0 := (hb.cell (p := ⟨w.heap.size + 1 + 1, 0, none⟩) lt_c1_2_0).trans c1_2_0
  have c1_2_1 := (hb.cell (p := ⟨w.heap.size + 1 + 1, 1, none⟩) lt_c1_2_1).trans c1_2_1
  have hz := bsize hb
  try simp at hz
  have lt_c1_0_0 : w.heap.size < wc2.heap.size := by omega
  have lt_c1_0_1 : w.heap.size < wc2.heap.size := by omega
  have lt_c1_1_0 : w.heap.size + 1 < wc2.heap.size := by omega
  have lt_c1_1_1 : w.heap.size + 1 < wc2.heap.size := by omega
  have lt_c1_2_0 : w.heap.size + 1 + 1 < wc2.heap.size := by omega
  have lt_c1_2_1 : w.heap.size + 1 + 1 < wc2.heap.size := by omega
  have hB := HB.out.trans (hb.mono HB.out.size)
  clear HB
  have HB := Lib.hid hB
  clear hB
  clear hb hz
  go_upto_region 2 with fail
  go_cut [62] (fun s62 wx => s62 = .bool false ∧ Below wc2.heap.size wc2 wx)
  case first =>
    obtain ⟨rx0, rx1⟩ := RX.out
    have ex : IntKind.i64.wrap (-x) = -x := IntWalk.i64_in _ (by omega)
    have gx0 : (decide (x < -1)) = false := by simp; omega
    have gx1 : (decide (1 < x)) = false := by simp; omega
    by_cases hx : x ≤ 0
    · by_cases hy : y ≤ 0
      · obtain ⟨t0, t1⟩ := TR.out hx hy
        have hz1 : ¬ 0 < z := by omega
        cases hz : (z == 0)
        · clear t1
          go_wp2_with fail
          refine (K4.out _).mono ?_
          rintro e v1 ⟨rfl, hb⟩
          have hzv := bsize hb
          go_wp2_with fail
          go_meet
          exact ⟨by first | rfl | (simp; done) | (simp; omega), (by repeat (first | with_reducible exact Below.refl _ _ | (with_reducible refine Below.setCell ?_ (by first | exact Nat.le_refl _ | omega | (simp; done) | (simp; omega)) _) | (with_reducible refine Below.alloc ?_ (by first | exact Nat.le_refl _ | omega | (simp; done) | (simp; omega)) _) | with_reducible refine Below.drew ?_ | with_reducible refine bel_drewN ?_ _ | (with_reducible refine bel_by (by with_reducible assumption) (by first | exact Nat.le_refl _ | omega | (simp; done) | (simp; omega)) ?_)))⟩
        · obtain ⟨g1, g2⟩ := t1 (by simpa using hz)
          have hx0 : (x == 0) = true := by simpa using g1
          have hy0 : (y == 0) = true := by simpa using g2
          have hx1 : (x != 0) = false := by simpa using g1
          have hy1 : (y != 0) = false := by simpa using g2
          clear t0 t1 g1 g2
          go_wp2_with fail
          refine (K4.out _).mono ?_
          rintro e v1 ⟨rfl, hb⟩
          have hzv := bsize hb
          go_wp2_with fail
          go_meet
          exact ⟨by first | rfl | (simp; done) | (simp; omega), (by repeat (first | with_reducible exact Below.refl _ _ | (with_reducible refine Below.setCell ?_ (by first | exact Nat.le_refl _ | omega | (simp; done) | (simp; omega)) _) | (with_reducible refine Below.alloc ?_ (by first | exact Nat.le_refl _ | omega | (simp; done) | (simp; omega)) _) | with_reducible refine Below.drew ?_ | with_reducible refine bel_drewN ?_ _ | (with_reducible refine bel_by (by with_reducible assumption) (by first | exact Nat.le_refl _ | omega | (simp; done) | (simp; omega)) ?_)))⟩
      · go_wp2_with fail
        refine (K4.out _).mono ?_
        rintro e v1 ⟨rfl, hb⟩
        have hzv := bsize hb
        go_wp2_with fail
        go_meet
        exact ⟨by first | rfl | (simp; done) | (simp; omega), (by repeat (first | with_reducible exact Below.refl _ _ | (with_reducible refine Below.setCell ?_ (by first | exact Nat.le_refl _ | omega | (simp; done) | (simp; omega)) _) | (with_reducible refine Below.alloc ?_ (by first | exact Nat.le_refl _ | omega | (simp; done) | (simp; omega)) _) | with_reducible refine Below.drew ?_ | with_reducible refine bel_drewN ?_ _ | (with_reducible refine bel_by (by with_reducible assumption) (by first | exact Nat.le_refl _ | omega | (simp; done) | (simp; omega)) ?_)))⟩
    · go_wp2_with fail
      refine (K4.out _).mono ?_
      rintro e v1 ⟨rfl, hb⟩
      have hzv := bsize hb
      go_wp2_with fail
      go_meet
      exact ⟨by first | rfl | (simp; done) | (simp; omega), (by repeat (first | with_reducible exact Below.refl _ _ | (with_reducible refine Below.setCell ?_ (by first | exact Nat.le_refl _ | omega | (simp; done) | (simp; omega)) _) | (with_reducible refine Below.alloc ?_ (by first | exact Nat.le_refl _ | omega | (simp; done) | (simp; omega)) _) | with_reducible refine Below.drew ?_ | with_reducible refine bel_drewN ?_ _ | (with_reducible refine bel_by (by with_reducible assumption) (by first | exact Nat.le_refl _ | omega | (simp; done) | (simp; omega)) ?_)))⟩
  obtain ⟨rfl, hb⟩ := hcut
  generalize wc = wc3 at *
  have c1_0_0 := (hb.cell (p := ⟨w.heap.size, 0, none⟩) lt_c1_0_0).trans c1_0_0
  have c1_0_1 := (hb.cell (p := ⟨w.heap.size, 1, none⟩) lt_c1_0_1).trans c1_0_1
  have c1_1_0 := (hb.cell (p := ⟨w.heap.size + 1, 0, none⟩) lt_c1_1_0).trans c1_1_0
  have c1_1_1 := (hb.cell (p := ⟨w.heap.size + 1, 1, none⟩) lt_c1_1_1).trans c1_1_1
  have c1_2_0 := (hb.cell (p := ⟨w.heap.size + 1 + 1, 0, none⟩) lt_c1_2_0).trans c1_2_0
  have c1_2_1 := (hb.cell (p := ⟨w.heap.size + 1 + 1, 1, none⟩) lt_c1_2_1).trans c1_2_1
  have hz := bsize hb
  try simp at hz
  have lt_c1_0_0 : w.heap.size < wc3.heap.size := by omega
  have lt_c1_0_1 : w.heap.size < wc3.heap.size := by omega
  have lt_c1_1_0 : w.heap.size + 1 < wc3.heap.size := by omega
  have lt_c1_1_1 : w.heap.size + 1 < wc3.heap.size := by omega
  have lt_c1_2_0 : w.heap.size + 1 + 1 < wc3.heap.size := by omega
  have lt_c1_2_1 : w.heap.size + 1 + 1 < wc3.heap.size := by omega
  have hB := HB.out.trans (hb.mono HB.out.size)
  clear HB
  have HB := Lib.hid hB
  clear hB
  clear hb hz
  rcases hc with ⟨rfl, rfl, rfl⟩ | ⟨rfl, rfl, rfl⟩ | ⟨rfl, rfl, rfl⟩
  · go_wp2_with fail
    refine (HVA.out _).mono ?_
    rintro e w4 ⟨rfl, hb⟩
    have c1_0_0 := (hb.cell (p := ⟨w.heap.size, 0, none⟩) lt_c1_0_0).trans c1_0_0
    have c1_0_1 := (hb.cell (p := ⟨w.heap.size, 1, none⟩) lt_c1_0_1).trans c1_0_1
    have c1_1_0 := (hb.cell (p := ⟨w.heap.size + 1, 0, none⟩) lt_c1_1_0).trans c1_1_0
    have c1_1_1 := (hb.cell (p := ⟨w.heap.size + 1, 1, none⟩) lt_c1_1_1).trans c1_1_1
    have c1_2_0 := (hb.cell (p := ⟨w.heap.size + 1 + 1, 0, none⟩) lt_c1_2_0).trans c1_2_0
    have c1_2_1 := (hb.cell (p := ⟨w.heap.size + 1 + 1, 1, none⟩) lt_c1_2_1).trans c1_2_1
    have hz := bsize hb
    try simp at hz
    have lt_c1_0_0 : w.heap.size < w4.heap.size := by omega
    have lt_c1_0_1 : w.heap.size < w4.heap.size := by omega
    have lt_c1_1_0 : w.heap.size + 1 < w4.heap.size := by omega
    have lt_c1_1_1 : w.heap.size + 1 < w4.heap.size := by omega
    have lt_c1_2_0 : w.heap.size + 1 + 1 < w4.heap.size := by omega
    have lt_c1_2_1 : w.heap.size + 1 + 1 < w4.heap.size := by omega
    have hB := HB.out.trans (hb.mono HB.out.size)
    clear HB
    have HB := Lib.hid hB
    clear hB
    clear hb hz
    go_wp2_with fail
    have hT := HT.out.below HB.out
    refine (awake_any _ hT).mono ?_
    rintro e w5 ⟨rfl, hb⟩
    have c1_0_0 := (hb.cell (p := ⟨w.heap.size, 0, none⟩) lt_c1_0_0).trans c1_0_0
    have c1_0_1 := (hb.cell (p := ⟨w.heap.size, 1, none⟩) lt_c1_0_1).trans c1_0_1
    have c1_1_0 := (hb.cell (p := ⟨w.heap.size + 1, 0, none⟩) lt_c1_1_0).trans c1_1_0
    have c1_1_1 := (hb.cell (p := ⟨w.heap.size + 1, 1, none⟩) lt_c1_1_1).trans c1_1_1
    have c1_2_0 := (hb.cell (p := ⟨w.heap.size + 1 + 1, 0, none⟩) lt_c1_2_0).trans c1_2_0
    have c1_2_1 := (hb.cell (p := ⟨w.heap.size + 1 + 1, 1, none⟩) lt_c1_2_1).trans c1_2_1
    have hz := bsize hb
    try simp at hz
    have lt_c1_0_0 : w.heap.size < w5.heap.size := by omega
    have lt_c1_0_1 : w.heap.size < w5.heap.size := by omega
    have lt_c1_1_0 : w.heap.size + 1 < w5.heap.size := by omega
    have lt_c1_1_1 : w.heap.size + 1 < w5.heap.size := by omega
    have lt_c1_2_0 : w.heap.size + 1 + 1 < w5.heap.size := by omega
    have lt_c1_2_1 : w.heap.size + 1 + 1 < w5.heap.size := by omega
    have hB := HB.out.trans (hb.mono HB.out.size)
    clear HB
    have HB := Lib.hid hB
    clear hB
    clear hb hz
    go_wp2_with fail
    refine (HVA.out _).mono ?_
    rintro e w6 ⟨rfl, hb⟩
    have c1_0_0 := (hb.cell (p := ⟨w.heap.size, 0, none⟩) lt_c1_0_0).trans c1_0_0
    have c1_0_1 := (hb.cell (p := ⟨w.heap.size, 1, none⟩) lt_c1_0_1).trans c1_0_1
    have c1_1_0 := (hb.cell (p := ⟨w.heap.size + 1, 0, none⟩) lt_c1_1_0).trans c1_1_0
    have c1_1_1 := (hb.cell (p := ⟨w.heap.size + 1, 1, none⟩) lt_c1_1_1).trans c1_1_1
    have c1_2_0 := (hb.cell (p := ⟨w.heap.size + 1 + 1, 0, none⟩) lt_c1_2_0).trans c1_2_0
    have c1_2_1 := (hb.cell (p := ⟨w.heap.size + 1 + 1, 1, none⟩) lt_c1_2_1).trans c1_2_1
    have hz := bsize hb
    try simp at hz
    have lt_c1_0_0 : w.heap.size < w6.heap.size := by omega
    have lt_c1_0_1 : w.heap.size < w6.heap.size := by omega
    have lt_c1_1_0 : w.heap.size + 1 < w6.heap.size := by omega
    have lt_c1_1_1 : w.heap.size + 1 < w6.heap.size := by omega
    have lt_c1_2_0 : w.heap.size + 1 + 1 < w6.heap.size := by omega
    have lt_c1_2_1 : w.heap.size + 1 + 1 < w6.heap.size := by omega
    have hB := HB.out.trans (hb.mono HB.out.size)
    clear HB
    have HB := Lib.hid hB
    clear hB
    clear hb hz
    go_wp2_with fail
    refine (HVB.out _).mono ?_
    rintro e w7 ⟨rfl, hb⟩
    have c1_0_0 := (hb.cell (p := ⟨w.heap.size, 0, none⟩) lt_c1_0_0).trans c1_0_0
    have c1_0_1 := (hb.cell (p := ⟨w.heap.size, 1, none⟩) lt_c1_0_1).trans c1_0_1
    have c1_1_0 := (hb.cell (p := ⟨w.heap.size + 1, 0, none⟩) lt_c1_1_0).trans c1_1_0
    have c1_1_1 := (hb.cell (p := ⟨w.heap.size + 1, 1, none⟩) lt_c1_1_1).trans c1_1_1
    have c1_2_0 := (hb.cell (p := ⟨w.heap.size + 1 + 1, 0, none⟩) lt_c1_2_0).trans c1_2_0
    have c1_2_1 := (hb.cell (p := ⟨w.heap.size + 1 + 1, 1, none⟩) lt_c1_2_1).trans c1_2_1
    have hz := bsize hb
    try simp at hz
    have lt_c1_0_0 : w.heap.size < w7.heap.size := by omega
    have lt_c1_0_1 : w.heap.size < w7.heap.size := by omega
    have lt_c1_1_0 : w.heap.size + 1 < w7.heap.size := by omega
    have lt_c1_1_1 : w.heap.size + 1 < w7.heap.size := by omega
    have lt_c1_2_0 : w.heap.size + 1 + 1 < w7.heap.size := by omega
    have lt_c1_2_1 : w.heap.size + 1 + 1 < w7.heap.size := by omega
    have hB := HB.out.trans (hb.mono HB.out.size)
    clear HB
    have HB := Lib.hid hB
    clear hB
    clear hb hz
    go_wp2
    go_ret
    have hB := HB.out
    exact ⟨rfl, (by repeat (first | with_reducible exact Below.refl _ _ | (with_reducible refine Below.setCell ?_ (by first | exact Nat.le_refl _ | omega | (simp; done) | (simp; omega)) _) | (with_reducible refine Below.alloc ?_ (by first | exact Nat.le_refl _ | omega | (simp; done) | (simp; omega)) _) | with_reducible refine Below.drew ?_ | with_reducible refine bel_drewN ?_ _ | (with_reducible refine bel_by (by with_reducible assumption) (by first | exact Nat.le_refl _ | omega | (simp; done) | (simp; omega)) ?_)))⟩
  · go_wp2_with fail
    refine (HVA.out _).mono ?_
    rintro e w4 ⟨rfl, hb⟩
    have c1_0_0 := (hb.cell (p := ⟨w.heap.size, 0, none⟩) lt_c1_0_0).trans c1_0_0
    have c1_0_1 := (hb.cell (p := ⟨w.heap.size, 1, none⟩) lt_c1_0_1).trans c1_0_1
    have c1_1_0 := (hb.cell (p := ⟨w.heap.size + 1, 0, none⟩) lt_c1_1_0).trans c1_1_0
    have c1_1_1 := (hb.cell (p := ⟨w.heap.size + 1, 1, none⟩) lt_c1_1_1).trans c1_1_1
    have c1_2_0 := (hb.cell (p := ⟨w.heap.size + 1 + 1, 0, none⟩) lt_c1_2_0).trans c1_2_0
    have c1_2_1 := (hb.cell (p := ⟨w.heap.size + 1 + 1, 1, none⟩) lt_c1_2_1).trans c1_2_1
    have hz := bsize hb
    try simp at hz
    have lt_c1_0_0 : w.heap.size < w4.heap.size := by omega
    have lt_c1_0_1 : w.heap.size < w4.heap.size := by omega
    have lt_c1_1_0 : w.heap.size + 1 < w4.heap.size := by omega
    have lt_c1_1_1 : w.heap.size + 1 < w4.heap.size := by omega
    have lt_c1_2_0 : w.heap.size + 1 + 1 < w4.heap.size := by omega
    have lt_c1_2_1 : w.heap.size + 1 + 1 < w4.heap.size := by omega
    have hB := HB.out.trans (hb.mono HB.out.size)
    clear HB
    have HB := Lib.hid hB
    clear hB
    clear hb hz
    go_wp2_with fail
    have hT := HT.out.below HB.out
    refine (awake_any _ hT).mono ?_
    rintro e w5 ⟨rfl, hb⟩
    have c1_0_0 := (hb.cell (p := ⟨w.heap.size, 0, none⟩) lt_c1_0_0).trans c1_0_0
    have c1_0_1 := (hb.cell (p := ⟨w.heap.size, 1, none⟩) lt_c1_0_1).trans c1_0_1
    have c1_1_0 := (hb.cell (p := ⟨w.heap.size + 1, 0, none⟩) lt_c1_1_0).trans c1_1_0
    have c1_1_1 := (hb.cell (p := ⟨w.heap.size + 1, 1, none⟩) lt_c1_1_1).trans c1_1_1
    have c1_2_0 := (hb.cell (p := ⟨w.heap.size + 1 + 1, 0, none⟩) lt_c1_2_0).trans c1_2_0
    have c1_2_1 := (hb.cell (p := ⟨w.heap.size + 1 + 1, 1, none⟩) lt_c1_2_1).trans c1_2_1
    have hz := bsize hb
    try simp at hz
    have lt_c1_0_0 : w.heap.size < w5.heap.size := by omega
    have lt_c1_0_1 : w.heap.size < w5.heap.size := by omega
    have lt_c1_1_0 : w.heap.size + 1 < w5.heap.size := by omega
    have lt_c1_1_1 : w.heap.size + 1 < w5.heap.size := by omega
    have lt_c1_2_0 : w.heap.size + 1 + 1 < w5.heap.size := by omega
    have lt_c1_2_1 : w.heap.size + 1 + 1 < w5.heap.size := by omega
    have hB := HB.out.trans (hb.mono HB.out.size)
    clear HB
    have HB := Lib.hid hB
    clear hB
    clear hb hz
    go_wp2_with fail
    refine (HVA.out _).mono ?_
    rintro e w6 ⟨rfl, hb⟩
    have c1_0_0 := (hb.cell (p := ⟨w.heap.size, 0, none⟩) lt_c1_0_0).trans c1_0_0
    have c1_0_1 := (hb.cell (p := ⟨w.heap.size, 1, none⟩) lt_c1_0_1).trans c1_0_1
    have c1_1_0 := (hb.cell (p := ⟨w.heap.size + 1, 0, none⟩) lt_c1_1_0).trans c1_1_0
    have c1_1_1 := (hb.cell (p := ⟨w.heap.size + 1, 1, none⟩) lt_c1_1_1).trans c1_1_1
    have c1_2_0 := (hb.cell (p := ⟨w.heap.size + 1 + 1, 0, none⟩) lt_c1_2_0).trans c1_2_0
    have c1_2_1 := (hb.cell (p := ⟨w.heap.size + 1 + 1, 1, none⟩) lt_c1_2_1).trans c1_2_1
    have hz := bsize hb
    try simp at hz
    have lt_c1_0_0 : w.heap.size < w6.heap.size := by omega
    have lt_c1_0_1 : w.heap.size < w6.heap.size := by omega
    have lt_c1_1_0 : w.heap.size + 1 < w6.heap.size := by omega
    have lt_c1_1_1 : w.heap.size + 1 < w6.heap.size := by omega
    have lt_c1_2_0 : w.heap.size + 1 + 1 < w6.heap.size := by omega
    have lt_c1_2_1 : w.heap.size + 1 + 1 < w6.heap.size := by omega
    have hB := HB.out.trans (hb.mono HB.out.size)
    clear HB
    have HB := Lib.hid hB
    clear hB
    clear hb hz
    go_wp2_with fail
    refine (HVB.out _).mono ?_
    rintro e w7 ⟨rfl, hb⟩
    have c1_0_0 := (hb.cell (p := ⟨w.heap.size, 0, none⟩) lt_c1_0_0).trans c1_0_0
    have c1_0_1 := (hb.cell (p := ⟨w.heap.size, 1, none⟩) lt_c1_0_1).trans c1_0_1
    have c1_1_0 := (hb.cell (p := ⟨w.heap.size + 1, 0, none⟩) lt_c1_1_0).trans c1_1_0
    have c1_1_1 := (hb.cell (p := ⟨w.heap.size + 1, 1, none⟩) lt_c1_1_1).trans c1_1_1
    have c1_2_0 := (hb.cell (p := ⟨w.heap.size + 1 + 1, 0, none⟩) lt_c1_2_0).trans c1_2_0
    have c1_2_1 := (hb.cell (p := ⟨w.heap.size + 1 + 1, 1, none⟩) lt_c1_2_1).trans c1_2_1
    have hz := bsize hb
    try simp at hz
    have lt_c1_0_0 : w.heap.size < w7.heap.size := by omega
    have lt_c1_0_1 : w.heap.size < w7.heap.size := by omega
    have lt_c1_1_0 : w.heap.size + 1 < w7.heap.size := by omega
    have lt_c1_1_1 : w.heap.size + 1 < w7.heap.size := by omega
    have lt_c1_2_0 : w.heap.size + 1 + 1 < w7.heap.size := by omega
    have lt_c1_2_1 : w.heap.size + 1 + 1 < w7.heap.size := by omega
    have hB := HB.out.trans (hb.mono HB.out.size)
    clear HB
    have HB := Lib.hid hB
    clear hB
    clear hb hz
    go_wp2
    go_ret
    have hB := HB.out
    exact ⟨rfl, (by repeat (first | with_reducible exact Below.refl _ _ | (with_reducible refine Below.setCell ?_ (by first | exact Nat.le_refl _ | omega | (simp; done) | (simp; omega)) _) | (with_reducible refine Below.alloc ?_ (by first | exact Nat.le_refl _ | omega | (simp; done) | (simp; omega)) _) | with_reducible refine Below.drew ?_ | with_reducible refine bel_drewN ?_ _ | (with_reducible refine bel_by (by with_reducible assumption) (by first | exact Nat.le_refl _ | omega | (simp; done) | (simp; omega)) ?_)))⟩
  · go_wp2_with fail
    refine (HVA.out _).mono ?_
    rintro e w4 ⟨rfl, hb⟩
    have c1_0_0 := (hb.cell (p := ⟨w.heap.size, 0, none⟩) lt_c1_0_0).trans c1_0_0
    have c1_0_1 := (hb.cell (p := ⟨w.heap.size, 1, none⟩) lt_c1_0_1).trans c1_0_1
    have c1_1_0 := (hb.cell (p := ⟨w.heap.size + 1, 0, none⟩) lt_c1_1_0).trans c1_1_0
    have c1_1_1 := (hb.cell (p := ⟨w.heap.size + 1, 1, none⟩) lt_c1_1_1).trans c1_1_1
    have c1_2_0 := (hb.cell (p := ⟨w.heap.size + 1 + 1, 0, none⟩) lt_c1_2_0).trans c1_2_0
    have c1_2_1 := (hb.cell (p := ⟨w.heap.size + 1 + 1, 1, none⟩) lt_c1_2_1).trans c1_2_1
    have hz := bsize hb
    try simp at hz
    have lt_c1_0_0 : w.heap.size < w4.heap.size := by omega
    have lt_c1_0_1 : w.heap.size < w4.heap.size := by omega
    have lt_c1_1_0 : w.heap.size + 1 < w4.heap.size := by omega
    have lt_c1_1_1 : w.heap.size + 1 < w4.heap.size := by omega
    have lt_c1_2_0 : w.heap.size + 1 + 1 < w4.heap.size := by omega
    have lt_c1_2_1 : w.heap.size + 1 + 1 < w4.heap.size := by omega
    have hB := HB.out.trans (hb.mono HB.out.size)
    clear HB
    have HB := Lib.hid hB
    clear hB
    clear hb hz
    go_wp2_with fail
    refine (HVB.out _).mono ?_
    rintro e w5 ⟨rfl, hb⟩
    have c1_0_0 := (hb.cell (p := ⟨w.heap.size, 0, none⟩) lt_c1_0_0).trans c1_0_0
    have c1_0_1 := (hb.cell (p := ⟨w.heap.size, 1, none⟩) lt_c1_0_1).trans c1_0_1
    have c1_1_0 := (hb.cell (p := ⟨w.heap.size + 1, 0, none⟩) lt_c1_1_0).trans c1_1_0
    have c1_1_1 := (hb.cell (p := ⟨w.heap.size + 1, 1, none⟩) lt_c1_1_1).trans c1_1_1
    have c1_2_0 := (hb.cell (p := ⟨w.heap.size + 1 + 1, 0, none⟩) lt_c1_2_0).trans c1_2_0
    have c1_2_1 := (hb.cell (p := ⟨w.heap.size + 1 + 1, 1, none⟩) lt_c1_2_1).trans c1_2_1
    have hz := bsize hb
    try simp at hz
    have lt_c1_0_0 : w.heap.size < w5.heap.size := by omega
    have lt_c1_0_1 : w.heap.size < w5.heap.size := by omega
    have lt_c1_1_0 : w.heap.size + 1 < w5.heap.size := by omega
    have lt_c1_1_1 : w.heap.size + 1 < w5.heap.size := by omega
    have lt_c1_2_0 : w.heap.size + 1 + 1 < w5.heap.size := by omega
    have lt_c1_2_1 : w.heap.size + 1 + 1 < w5.heap.size := by omega
    have hB := HB.out.trans (hb.mono HB.out.size)
    clear HB
    have HB := Lib.hid hB
    clear hB
    clear hb hz
    go_wp2_with fail
    have hT := HT.out.below HB.out
    refine (awake_any _ hT).mono ?_
    rintro e w6 ⟨rfl, hb⟩
    have c1_0_0 := (hb.cell (p := ⟨w.heap.size, 0, none⟩) lt_c1_0_0).trans c1_0_0
    have c1_0_1 := (hb.cell (p := ⟨w.heap.size, 1, none⟩) lt_c1_0_1).trans c1_0_1
    have c1_1_0 := (hb.cell (p := ⟨w.heap.size + 1, 0, none⟩) lt_c1_1_0).trans c1_1_0
    have c1_1_1 := (hb.cell (p := ⟨w.heap.size + 1, 1, none⟩) lt_c1_1_1).trans c1_1_1
    have c1_2_0 := (hb.cell (p := ⟨w.heap.size + 1 + 1, 0, none⟩) lt_c1_2_0).trans c1_2_0
    have c1_2_1 := (hb.cell (p := ⟨w.heap.size + 1 + 1, 1, none⟩) lt_c1_2_1).trans c1_2_1
    have hz := bsize hb
    try simp at hz
    have lt_c1_0_0 : w.heap.size < w6.heap.size := by omega
    have lt_c1_0_1 : w.heap.size < w6.heap.size := by omega
    have lt_c1_1_0 : w.heap.size + 1 < w6.heap.size := by omega
    have lt_c1_1_1 : w.heap.size + 1 < w6.heap.size := by omega
    have lt_c1_2_0 : w.heap.size + 1 + 1 < w6.heap.size := by omega
    have lt_c1_2_1 : w.heap.size + 1 + 1 < w6.heap.size := by omega
    have hB := HB.out.trans (hb.mono HB.out.size)
    clear HB
    have HB := Lib.hid hB
    clear hB
    clear hb hz
    go_wp2_with fail
    refine (HVA.out _).mono ?_
    rintro e w7 ⟨rfl, hb⟩
    have c1_0_0 := (hb.cell (p := ⟨w.heap.size, 0, none⟩) lt_c1_0_0).trans c1_0_0
    have c1_0_1 := (hb.cell (p := ⟨w.heap.size, 1, none⟩) lt_c1_0_1).trans c1_0_1
    have c1_1_0 := (hb.cell (p := ⟨w.heap.size + 1, 0, none⟩) lt_c1_1_0).trans c1_1_0
    have c1_1_1 := (hb.cell (p := ⟨w.heap.size + 1, 1, none⟩) lt_c1_1_1).trans c1_1_1
    have c1_2_0 := (hb.cell (p := ⟨w.heap.size + 1 + 1, 0, none⟩) lt_c1_2_0).trans c1_2_0
    have c1_2_1 := (hb.cell (p := ⟨w.heap.size + 1 + 1, 1, none⟩) lt_c1_2_1).trans c1_2_1
    have hz := bsize hb
    try simp at hz
    have lt_c1_0_0 : w.heap.size < w7.heap.size := by omega
    have lt_c1_0_1 : w.heap.size < w7.heap.size := by omega
    have lt_c1_1_0 : w.heap.size + 1 < w7.heap.size := by omega
    have lt_c1_1_1 : w.heap.size + 1 < w7.heap.size := by omega
    have lt_c1_2_0 : w.heap.size + 1 + 1 < w7.heap.size := by omega
    have lt_c1_2_1 : w.heap.size + 1 + 1 < w7.heap.size := by omega
    have hB := HB.out.trans (hb.mono HB.out.size)
    clear HB
    have HB := Lib.hid hB
    clear hB
    clear hb hz
    go_wp2_with fail
    refine (HVB.out _).mono ?_
    rintro e w8 ⟨rfl, hb⟩
    have c1_0_0 := (hb.cell (p := ⟨w.heap.size, 0, none⟩) lt_c1_0_0).trans c1_0_0
    have c1_0_1 := (hb.cell (p := ⟨w.heap.size, 1, none⟩) lt_c1_0_1).trans c1_0_1
    have c1_1_0 := (hb.cell (p := ⟨w.heap.size + 1, 0, none⟩) lt_c1_1_0).trans c1_1_0
    have c1_1_1 := (hb.cell (p := ⟨w.heap.size + 1, 1, none⟩) lt_c1_1_1).trans c1_1_1
    have c1_2_0 := (hb.cell (p := ⟨w.heap.size + 1 + 1, 0, none⟩) lt_c1_2_0).trans c1_2_0
    have c1_2_1 := (hb.cell (p := ⟨w.heap.size + 1 + 1, 1, none⟩) lt_c1_2_1).trans c1_2_1
    have hz := bsize hb
    try simp at hz
    have lt_c1_0_0 : w.heap.size < w8.heap.size := by omega
    have lt_c1_0_1 : w.heap.size < w8.heap.size := by omega
    have lt_c1_1_0 : w.heap.size + 1 < w8.heap.size := by omega
    have lt_c1_1_1 : w.heap.size + 1 < w8.heap.size := by omega
    have lt_c1_2_0 : w.heap.size + 1 + 1 < w8.heap.size := by omega
    have lt_c1_2_1 : w.heap.size + 1 + 1 < w8.heap.size := by omega
    have hB := HB.out.trans (hb.mono HB.out.size)
    clear HB
    have HB := Lib.hid hB
    clear hB
    clear hb hz
    go_wp2
    go_ret
    have hB := HB.out
    exact ⟨rfl, (by repeat (first | with_reducible exact Below.refl _ _ | (with_reducible refine Below.setCell ?_ (by first | exact Nat.le_refl _ | omega | (simp; done) | (simp; omega)) _) | (with_reducible refine Below.alloc ?_ (by first | exact Nat.le_refl _ | omega | (simp; done) | (simp; omega)) _) | with_reducible refine Below.drew ?_ | with_reducible refine bel_drewN ?_ _ | (with_reducible refine bel_by (by with_reducible assumption) (by first | exact Nat.le_refl _ | omega | (simp; done) | (simp; omega)) ?_)))⟩

set_option maxHeartbeats 8000000 in
set_option maxRecDepth 100000 in
theorem order_yes (an ad bn bd cn cd : Int) (A1 : -9223372036854775808 ≤ an) (A2 : an ≤ 9223372036854775807) (A3 : -9223372036854775808 ≤ ad) (A4 : ad ≤ 9223372036854775807) (B1 : -9223372036854775808 ≤ bn) (B2 : bn ≤ 9223372036854775807) (B3 : -9223372036854775808 ≤ bd) (B4 : bd ≤ 9223372036854775807) (D1 : -9223372036854775808 ≤ cn) (D2 : cn ≤ 9223372036854775807) (D3 : -9223372036854775808 ≤ cd) (D4 : cd ≤ 9223372036854775807) (av : vldI an ad = true) (bv : vldI bn bd = true) (w : World) (ht : TabW w) :
    Calls Tryd.prog 7 #[.agg #[.int .i64 an, .int .i64 ad], .agg #[.int .i64 bn, .int .i64 bd], .agg #[.int .i64 cn, .int .i64 cd]] w fun e w' => e = .returned (.bool true) ∧ Below w.heap.size w w' := by
  have W1 : Wf64 (an, ad) := ⟨A1, A2, A3, A4⟩
  have W2 : Wf64 (bn, bd) := ⟨B1, B2, B3, B4⟩
  have W3 : Wf64 (cn, cd) := ⟨D1, D2, D3, D4⟩
  have HT := Lib.hid ht
  clear ht
  have VA := fun W => valid_any an ad A1 A2 A3 A4 W
  have VB := fun W => valid_any bn bd B1 B2 B3 B4 W
  have C1 := fun W => cmp_any an ad bn bd W1 W2 W
  have C2 := fun W => cmp_any bn bd cn cd W2 W3 W
  have C3 := fun W => cmp_any an ad cn cd W1 W3 W
  have C4 := fun W => cmp_any bn bd an ad W2 W1 W
  rw [cmp_swap' an ad bn bd, Int.zero_sub] at C4
  have rx := cmp_range' an ad bn bd
  have ry := cmp_range' bn bd cn cd
  have rz := cmp_range' an ad cn cd
  have tr := cmp_trans' an ad bn bd cn cd
  have C5 := fun W => neg_any an ad A1 A2 A3 A4 W
  rw [negS_yes av] at C5
  have C6 := fun W => neg_any bn bd B1 B2 B3 B4 W
  rw [negS_yes bv] at C6
  obtain ⟨a1, a2, a3, a4, _⟩ := vldI_out av
  obtain ⟨b1, b2, b3, b4, _⟩ := vldI_out bv
  have C7 := fun W => cmp_any (-an) ad (-bn) bd ⟨by simp only; omega, by simp only; omega, by simp only; omega, by simp only; omega⟩ ⟨by simp only; omega, by simp only; omega, by simp only; omega, by simp only; omega⟩ W
  rw [cmp_neg' av bv, Int.zero_sub] at C7
  have HZ := cmp_zero' av bv
  have C8 := fun W => sub_any an ad bn bd W1 W2 W
  have C9 : (subS an ad bn bd).2.2 = 0 → ∀ W, Calls Tryd.prog 30 #[.agg #[.int .i64 (subS an ad bn bd).1, .int .i64 (subS an ad bn bd).2.1], .agg #[.int .i64 0, .int .i64 1]] W fun e w' => e = .returned (.int .i64 (cmpS an ad bn bd)) ∧ Below W.heap.size W w' := by
    intro h W
    rw [← cmp_sub' av bv h]
    exact cmp_any _ _ 0 1 (sub_wf an ad bn bd) (by unfold Wf64; decide) W
  have C10 := fun W => add_any an ad cn cd W1 W3 W
  have C11 := fun W => add_any bn bd cn cd W2 W3 W
  have C12 : (addS an ad cn cd).2.2 = 0 → (addS bn bd cn cd).2.2 = 0 → ∀ W, Calls Tryd.prog 30 #[.agg #[.int .i64 (addS an ad cn cd).1, .int .i64 (addS an ad cn cd).2.1], .agg #[.int .i64 (addS bn bd cn cd).1, .int .i64 (addS bn bd cn cd).2.1]] W fun e w' => e = .returned (.int .i64 (cmpS an ad bn bd)) ∧ Below W.heap.size W w' := by
    intro h1 h2 W
    rw [← cmp_add' av bv h1 h2]
    exact cmp_any _ _ _ _ (add_wf an ad cn cd) (add_wf bn bd cn cd) W
  generalize subS an ad bn bd = d at *
  generalize addS an ad cn cd = u at *
  generalize addS bn bd cn cd = t at *
  rw [av] at VA
  rw [bv] at VB
  generalize cmpS an ad bn bd = x at *
  generalize cmpS bn bd cn cd = y at *
  generalize cmpS an ad cn cd = z at *
  have K5 := Lib.hid C5
  have K6 := Lib.hid C6
  have K7 := Lib.hid C7
  have K8 := Lib.hid C8
  have K9 := Lib.hid C9
  have K10 := Lib.hid C10
  have K11 := Lib.hid C11
  have K12 := Lib.hid C12
  have HZ' := Lib.hid HZ
  clear HZ av bv a1 a2 a3 a4 b1 b2 b3 b4 C5 C6 C7 C8 C9 C10 C11 C12
  have RX := Lib.hid rx
  have RY := Lib.hid ry
  have RZ := Lib.hid rz
  have TR := Lib.hid tr
  have K1 := Lib.hid C1
  have K2 := Lib.hid C2
  have K3 := Lib.hid C3
  have K4 := Lib.hid C4
  have HVA := Lib.hid VA
  have HVB := Lib.hid VB
  clear rx ry rz tr C1 C2 C3 C4 VA VB W1 W2 W3 A1 A2 A3 A4 B1 B2 B3 B4 D1 D2 D3 D4
  go_enter Tryd.func7, Tryd.ntmps7
  go_upto_region 1 with fail
  have hK : Below w.heap.size w (((w.alloc (.cells #[.int .i64 an, .int .i64 ad] 23)).alloc (.cells #[.int .i64 bn, .int .i64 bd] 23)).alloc (.cells #[.int .i64 cn, .int .i64 cd] 23)) := (by repeat (first | with_reducible exact Below.refl _ _ | (with_reducible refine Below.setCell ?_ (by first | exact Nat.le_refl _ | omega | (simp; done) | (simp; omega)) _) | (with_reducible refine Below.alloc ?_ (by first | exact Nat.le_refl _ | omega | (simp; done) | (simp; omega)) _) | with_reducible refine Below.drew ?_ | with_reducible refine bel_drewN ?_ _ | (with_reducible refine bel_by (by with_reducible assumption) (by first | exact Nat.le_refl _ | omega | (simp; done) | (simp; omega)) ?_)))
  have hB := hK
  have c1_0_0 : (((w.alloc (.cells #[.int .i64 an, .int .i64 ad] 23)).alloc (.cells #[.int .i64 bn, .int .i64 bd] 23)).alloc (.cells #[.int .i64 cn, .int .i64 cd] 23)).cell? ⟨w.heap.size, 0, none⟩ = some (.int .i64 an) := by simp [go_sem]
  have c1_0_1 : (((w.alloc (.cells #[.int .i64 an, .int .i64 ad] 23)).alloc (.cells #[.int .i64 bn, .int .i64 bd] 23)).alloc (.cells #[.int .i64 cn, .int .i64 cd] 23)).cell? ⟨w.heap.size, 1, none⟩ = some (.int .i64 ad) := by simp [go_sem]
  have c1_1_0 : (((w.alloc (.cells #[.int .i64 an, .int .i64 ad] 23)).alloc (.cells #[.int .i64 bn, .int .i64 bd] 23)).alloc (.cells #[.int .i64 cn, .int .i64 cd] 23)).cell? ⟨w.heap.size + 1, 0, none⟩ = some (.int .i64 bn) := by simp [go_sem]
  have c1_1_1 : (((w.alloc (.cells #[.int .i64 an, .int .i64 ad] 23)).alloc (.cells #[.int .i64 bn, .int .i64 bd] 23)).alloc (.cells #[.int .i64 cn, .int .i64 cd] 23)).cell? ⟨w.heap.size + 1, 1, none⟩ = some (.int .i64 bd) := by simp [go_sem]
  have c1_2_0 : (((w.alloc (.cells #[.int .i64 an, .int .i64 ad] 23)).alloc (.cells #[.int .i64 bn, .int .i64 bd] 23)).alloc (.cells #[.int .i64 cn, .int .i64 cd] 23)).cell? ⟨w.heap.size + 1 + 1, 0, none⟩ = some (.int .i64 cn) := by simp [go_sem]
  have c1_2_1 : (((w.alloc (.cells #[.int .i64 an, .int .i64 ad] 23)).alloc (.cells #[.int .i64 bn, .int .i64 bd] 23)).alloc (.cells #[.int .i64 cn, .int .i64 cd] 23)).cell? ⟨w.heap.size + 1 + 1, 1, none⟩ = some (.int .i64 cd) := by simp [go_sem]
  have hz : (((w.alloc (.cells #[.int .i64 an, .int .i64 ad] 23)).alloc (.cells #[.int .i64 bn, .int .i64 bd] 23)).alloc (.cells #[.int .i64 cn, .int .i64 cd] 23)).heap.size = w.heap.size + 3 := by simp
  generalize (((w.alloc (.cells #[.int .i64 an, .int .i64 ad] 23)).alloc (.cells #[.int .i64 bn, .int .i64 bd] 23)).alloc (.cells #[.int .i64 cn, .int .i64 cd] 23)) = wA1 at hB hK hz c1_0_0 c1_0_1 c1_1_0 c1_1_1 c1_2_0 c1_2_1 ⊢
  clear hK
  have lt_c1_0_0 : w.heap.size < wA1.heap.size := by omega
  have lt_c1_0_1 : w.heap.size < wA1.heap.size := by omega
  have lt_c1_1_0 : w.heap.size + 1 < wA1.heap.size := by omega
  have lt_c1_1_1 : w.heap.size + 1 < wA1.heap.size := by omega
  have lt_c1_2_0 : w.heap.size + 1 + 1 < wA1.heap.size := by omega
  have lt_c1_2_1 : w.heap.size + 1 + 1 < wA1.heap.size := by omega
  have HB := Lib.hid hB
  clear hB hz
  go_cut [7, 8, 9] (fun s7 s8 s9 wx => s7 = .int .i64 x ∧ s8 = .int .i64 y ∧ s9 = .int .i64 z ∧ Below wA1.heap.size wA1 wx)
  case first =>
    have hBB : Below wA1.heap.size wA1 wA1 := Below.refl _ _
    go_region_held3 (fun w' => w'.cell? ⟨w.heap.size, 0, none⟩ = some (.int .i64 an) ∧ w'.cell? ⟨w.heap.size, 1, none⟩ = some (.int .i64 ad) ∧ w'.cell? ⟨w.heap.size + 1, 0, none⟩ = some (.int .i64 bn) ∧ w'.cell? ⟨w.heap.size + 1, 1, none⟩ = some (.int .i64 bd) ∧ w'.cell? ⟨w.heap.size + 1 + 1, 0, none⟩ = some (.int .i64 cn) ∧ w'.cell? ⟨w.heap.size + 1 + 1, 1, none⟩ = some (.int .i64 cd))
      ((first | (simp [go_sem, c1_0_0, c1_0_1, c1_1_0, c1_1_1, c1_2_0, c1_2_1]; done)))
      (first
    | (go_at_call 30; (with_reducible refine (K1.out _).mono ?_); rintro e v1 ⟨rfl, hb⟩; (repeat (with_reducible replace hb := undrew hb)); have c1_0_0 := (hb.cell (p := ⟨w.heap.size, 0, none⟩) lt_c1_0_0).trans c1_0_0; have c1_0_1 := (hb.cell (p := ⟨w.heap.size, 1, none⟩) lt_c1_0_1).trans c1_0_1; have c1_1_0 := (hb.cell (p := ⟨w.heap.size + 1, 0, none⟩) lt_c1_1_0).trans c1_1_0; have c1_1_1 := (hb.cell (p := ⟨w.heap.size + 1, 1, none⟩) lt_c1_1_1).trans c1_1_1; have c1_2_0 := (hb.cell (p := ⟨w.heap.size + 1 + 1, 0, none⟩) lt_c1_2_0).trans c1_2_0; have c1_2_1 := (hb.cell (p := ⟨w.heap.size + 1 + 1, 1, none⟩) lt_c1_2_1).trans c1_2_1; have hz := bsize hb; (try simp at hz); have lt_c1_0_0 : w.heap.size < v1.heap.size := (by omega); have lt_c1_0_1 : w.heap.size < v1.heap.size := (by omega); have lt_c1_1_0 : w.heap.size + 1 < v1.heap.size := (by omega); have lt_c1_1_1 : w.heap.size + 1 < v1.heap.size := (by omega); have lt_c1_2_0 : w.heap.size + 1 + 1 < v1.heap.size := (by omega); have lt_c1_2_1 : w.heap.size + 1 + 1 < v1.heap.size := (by omega); have hBB := hBB.trans (hb.mono hBB.size); clear hb hz)
    | (go_at_call 30; (with_reducible refine (K2.out _).mono ?_); rintro e v2 ⟨rfl, hb⟩; (repeat (with_reducible replace hb := undrew hb)); have c1_0_0 := (hb.cell (p := ⟨w.heap.size, 0, none⟩) lt_c1_0_0).trans c1_0_0; have c1_0_1 := (hb.cell (p := ⟨w.heap.size, 1, none⟩) lt_c1_0_1).trans c1_0_1; have c1_1_0 := (hb.cell (p := ⟨w.heap.size + 1, 0, none⟩) lt_c1_1_0).trans c1_1_0; have c1_1_1 := (hb.cell (p := ⟨w.heap.size + 1, 1, none⟩) lt_c1_1_1).trans c1_1_1; have c1_2_0 := (hb.cell (p := ⟨w.heap.size + 1 + 1, 0, none⟩) lt_c1_2_0).trans c1_2_0; have c1_2_1 := (hb.cell (p := ⟨w.heap.size + 1 + 1, 1, none⟩) lt_c1_2_1).trans c1_2_1; have hz := bsize hb; (try simp at hz); have lt_c1_0_0 : w.heap.size < v2.heap.size := (by omega); have lt_c1_0_1 : w.heap.size < v2.heap.size := (by omega); have lt_c1_1_0 : w.heap.size + 1 < v2.heap.size := (by omega); have lt_c1_1_1 : w.heap.size + 1 < v2.heap.size := (by omega); have lt_c1_2_0 : w.heap.size + 1 + 1 < v2.heap.size := (by omega); have lt_c1_2_1 : w.heap.size + 1 + 1 < v2.heap.size := (by omega); have hBB := hBB.trans (hb.mono hBB.size); clear hb hz)
    | (go_at_call 30; (with_reducible refine (K3.out _).mono ?_); rintro e v3 ⟨rfl, hb⟩; (repeat (with_reducible replace hb := undrew hb)); have c1_0_0 := (hb.cell (p := ⟨w.heap.size, 0, none⟩) lt_c1_0_0).trans c1_0_0; have c1_0_1 := (hb.cell (p := ⟨w.heap.size, 1, none⟩) lt_c1_0_1).trans c1_0_1; have c1_1_0 := (hb.cell (p := ⟨w.heap.size + 1, 0, none⟩) lt_c1_1_0).trans c1_1_0; have c1_1_1 := (hb.cell (p := ⟨w.heap.size + 1, 1, none⟩) lt_c1_1_1).trans c1_1_1; have c1_2_0 := (hb.cell (p := ⟨w.heap.size + 1 + 1, 0, none⟩) lt_c1_2_0).trans c1_2_0; have c1_2_1 := (hb.cell (p := ⟨w.heap.size + 1 + 1, 1, none⟩) lt_c1_2_1).trans c1_2_1; have hz := bsize hb; (try simp at hz); have lt_c1_0_0 : w.heap.size < v3.heap.size := (by omega); have lt_c1_0_1 : w.heap.size < v3.heap.size := (by omega); have lt_c1_1_0 : w.heap.size + 1 < v3.heap.size := (by omega); have lt_c1_1_1 : w.heap.size + 1 < v3.heap.size := (by omega); have lt_c1_2_0 : w.heap.size + 1 + 1 < v3.heap.size := (by omega); have lt_c1_2_1 : w.heap.size + 1 + 1 < v3.heap.size := (by omega); have hBB := hBB.trans (hb.mono hBB.size); clear hb hz))
    all_goals
      go_wp2_with fail
      go_meet
      exact ⟨rfl, rfl, rfl, (by repeat (first | with_reducible exact Below.refl _ _ | (with_reducible refine Below.setCell ?_ (by first | exact Nat.le_refl _ | omega | (simp; done) | (simp; omega)) _) | (with_reducible refine Below.alloc ?_ (by first | exact Nat.le_refl _ | omega | (simp; done) | (simp; omega)) _) | with_reducible refine Below.drew ?_ | with_reducible refine bel_drewN ?_ _ | (with_reducible refine bel_by (by with_reducible assumption) (by first | exact Nat.le_refl _ | omega | (simp; done) | (simp; omega)) ?_)))⟩
  obtain ⟨rfl, rfl, rfl, hb⟩ := hcut
  generalize wc = wc2 at *
  have c1_0_0 := (hb.cell (p := ⟨w.heap.size, 0, none⟩) lt_c1_0_0).trans c1_0_0
  have c1_0_1 := (hb.cell (p := ⟨w.heap.size, 1, none⟩) lt_c1_0_1).trans c1_0_1
  have c1_1_0 := (hb.cell (p := ⟨w.heap.size + 1, 0, none⟩) lt_c1_1_0).trans c1_1_0
  have c1_1_1 := (hb.cell (p := ⟨w.heap.size + 1, 1, none⟩) lt_c1_1_1).trans c1_1_1
  have c1_2_0 := (hb.cell (p := ⟨w.heap.size + 1 + 1, 0, none⟩) lt_c1_2_0).trans c1_2_0
  have c1_2_1 := (hb.cell (p := ⟨w.heap.size + 1 + 1, 1, none⟩) lt_c1_2_1).trans c1_2_1
  have hz := bsize hb
  try simp at hz
  have lt_c1_0_0 : w.heap.size < wc2.heap.size := by omega
  have lt_c1_0_1 : w.heap.size < wc2.heap.size := by omega
  have lt_c1_1_0 : w.heap.size + 1 < wc2.heap.size := by omega
  have lt_c1_1_1 : w.heap.size + 1 < wc2.heap.size := by omega
  have lt_c1_2_0 : w.heap.size + 1 + 1 < wc2.heap.size := by omega
  have lt_c1_2_1 : w.heap.size + 1 + 1 < wc2.heap.size := by omega
  have hB := HB.out.trans (hb.mono HB.out.size)
  clear HB
  have HB := Lib.hid hB
  clear hB
  clear hb hz
  go_upto_region 2 with fail
  go_cut [62] (fun s62 wx => s62 = .bool false ∧ Below wc2.heap.size wc2 wx)
  case first =>
    obtain ⟨rx0, rx1⟩ := RX.out
    have ex : IntKind.i64.wrap (-x) = -x := IntWalk.i64_in _ (by omega)
    have gx0 : (decide (x < -1)) = false := by simp; omega
    have gx1 : (decide (1 < x)) = false := by simp; omega
    by_cases hx : x ≤ 0
    · by_cases hy : y ≤ 0
      · obtain ⟨t0, t1⟩ := TR.out hx hy
        have hz1 : ¬ 0 < z := by omega
        cases hz : (z == 0)
        · clear t1
          go_wp2_with fail
          refine (K4.out _).mono ?_
          rintro e v1 ⟨rfl, hb⟩
          have hzv := bsize hb
          go_wp2_with fail
          go_meet
          exact ⟨by first | rfl | (simp; done) | (simp; omega), (by repeat (first | with_reducible exact Below.refl _ _ | (with_reducible refine Below.setCell ?_ (by first | exact Nat.le_refl _ | omega | (simp; done) | (simp; omega)) _) | (with_reducible refine Below.alloc ?_ (by first | exact Nat.le_refl _ | omega | (simp; done) | (simp; omega)) _) | with_reducible refine Below.drew ?_ | with_reducible refine bel_drewN ?_ _ | (with_reducible refine bel_by (by with_reducible assumption) (by first | exact Nat.le_refl _ | omega | (simp; done) | (simp; omega)) ?_)))⟩
        · obtain ⟨g1, g2⟩ := t1 (by simpa using hz)
          have hx0 : (x == 0) = true := by simpa using g1
          have hy0 : (y == 0) = true := by simpa using g2
          have hx1 : (x != 0) = false := by simpa using g1
          have hy1 : (y != 0) = false := by simpa using g2
          clear t0 t1 g1 g2
          go_wp2_with fail
          refine (K4.out _).mono ?_
          rintro e v1 ⟨rfl, hb⟩
          have hzv := bsize hb
          go_wp2_with fail
          go_meet
          exact ⟨by first | rfl | (simp; done) | (simp; omega), (by repeat (first | with_reducible exact Below.refl _ _ | (with_reducible refine Below.setCell ?_ (by first | exact Nat.le_refl _ | omega | (simp; done) | (simp; omega)) _) | (with_reducible refine Below.alloc ?_ (by first | exact Nat.le_refl _ | omega | (simp; done) | (simp; omega)) _) | with_reducible refine Below.drew ?_ | with_reducible refine bel_drewN ?_ _ | (with_reducible refine bel_by (by with_reducible assumption) (by first | exact Nat.le_refl _ | omega | (simp; done) | (simp; omega)) ?_)))⟩
      · go_wp2_with fail
        refine (K4.out _).mono ?_
        rintro e v1 ⟨rfl, hb⟩
        have hzv := bsize hb
        go_wp2_with fail
        go_meet
        exact ⟨by first | rfl | (simp; done) | (simp; omega), (by repeat (first | with_reducible exact Below.refl _ _ | (with_reducible refine Below.setCell ?_ (by first | exact Nat.le_refl _ | omega | (simp; done) | (simp; omega)) _) | (with_reducible refine Below.alloc ?_ (by first | exact Nat.le_refl _ | omega | (simp; done) | (simp; omega)) _) | with_reducible refine Below.drew ?_ | with_reducible refine bel_drewN ?_ _ | (with_reducible refine bel_by (by with_reducible assumption) (by first | exact Nat.le_refl _ | omega | (simp; done) | (simp; omega)) ?_)))⟩
    · go_wp2_with fail
      refine (K4.out _).mono ?_
      rintro e v1 ⟨rfl, hb⟩
      have hzv := bsize hb
      go_wp2_with fail
      go_meet
      exact ⟨by first | rfl | (simp; done) | (simp; omega), (by repeat (first | with_reducible exact Below.refl _ _ | (with_reducible refine Below.setCell ?_ (by first | exact Nat.le_refl _ | omega | (simp; done) | (simp; omega)) _) | (with_reducible refine Below.alloc ?_ (by first | exact Nat.le_refl _ | omega | (simp; done) | (simp; omega)) _) | with_reducible refine Below.drew ?_ | with_reducible refine bel_drewN ?_ _ | (with_reducible refine bel_by (by with_reducible assumption) (by first | exact Nat.le_refl _ | omega | (simp; done) | (simp; omega)) ?_)))⟩
  obtain ⟨rfl, hb⟩ := hcut
  generalize wc = wc3 at *
  have c1_0_0 := (hb.cell (p := ⟨w.heap.size, 0, none⟩) lt_c1_0_0).trans c1_0_0
  have c1_0_1 := (hb.cell (p := ⟨w.heap.size, 1, none⟩) lt_c1_0_1).trans c1_0_1
  have c1_1_0 := (hb.cell (p := ⟨w.heap.size + 1, 0, none⟩) lt_c1_1_0).trans c1_1_0
  have c1_1_1 := (hb.cell (p := ⟨w.heap.size + 1, 1, none⟩) lt_c1_1_1).trans c1_1_1
  have c1_2_0 := (hb.cell (p := ⟨w.heap.size + 1 + 1, 0, none⟩) lt_c1_2_0).trans c1_2_0
  have c1_2_1 := (hb.cell (p := ⟨w.heap.size + 1 + 1, 1, none⟩) lt_c1_2_1).trans c1_2_1
  have hz := bsize hb
  try simp at hz
  have lt_c1_0_0 : w.heap.size < wc3.heap.size := by omega
  have lt_c1_0_1 : w.heap.size < wc3.heap.size := by omega
  have lt_c1_1_0 : w.heap.size + 1 < wc3.heap.size := by omega
  have lt_c1_1_1 : w.heap.size + 1 < wc3.heap.size := by omega
  have lt_c1_2_0 : w.heap.size + 1 + 1 < wc3.heap.size := by omega
  have lt_c1_2_1 : w.heap.size + 1 + 1 < wc3.heap.size := by omega
  have hB := HB.out.trans (hb.mono HB.out.size)
  clear HB
  have HB := Lib.hid hB
  clear hB
  clear hb hz
  go_wp2_with fail
  refine (HVA.out _).mono ?_
  rintro e w4 ⟨rfl, hb⟩
  have c1_0_0 := (hb.cell (p := ⟨w.heap.size, 0, none⟩) lt_c1_0_0).trans c1_0_0
  have c1_0_1 := (hb.cell (p := ⟨w.heap.size, 1, none⟩) lt_c1_0_1).trans c1_0_1
  have c1_1_0 := (hb.cell (p := ⟨w.heap.size + 1, 0, none⟩) lt_c1_1_0).trans c1_1_0
  have c1_1_1 := (hb.cell (p := ⟨w.heap.size + 1, 1, none⟩) lt_c1_1_1).trans c1_1_1
  have c1_2_0 := (hb.cell (p := ⟨w.heap.size + 1 + 1, 0, none⟩) lt_c1_2_0).trans c1_2_0
  have c1_2_1 := (hb.cell (p := ⟨w.heap.size + 1 + 1, 1, none⟩) lt_c1_2_1).trans c1_2_1
  have hz := bsize hb
  try simp at hz
  have lt_c1_0_0 : w.heap.size < w4.heap.size := by omega
  have lt_c1_0_1 : w.heap.size < w4.heap.size := by omega
  have lt_c1_1_0 : w.heap.size + 1 < w4.heap.size := by omega
  have lt_c1_1_1 : w.heap.size + 1 < w4.heap.size := by omega
  have lt_c1_2_0 : w.heap.size + 1 + 1 < w4.heap.size := by omega
  have lt_c1_2_1 : w.heap.size + 1 + 1 < w4.heap.size := by omega
  have hB := HB.out.trans (hb.mono HB.out.size)
  clear HB
  have HB := Lib.hid hB
  clear hB
  clear hb hz
  go_wp2_with fail
  refine (HVB.out _).mono ?_
  rintro e w5 ⟨rfl, hb⟩
  have c1_0_0 := (hb.cell (p := ⟨w.heap.size, 0, none⟩) lt_c1_0_0).trans c1_0_0
  have c1_0_1 := (hb.cell (p := ⟨w.heap.size, 1, none⟩) lt_c1_0_1).trans c1_0_1
  have c1_1_0 := (hb.cell (p := ⟨w.heap.size + 1, 0, none⟩) lt_c1_1_0).trans c1_1_0
  have c1_1_1 := (hb.cell (p := ⟨w.heap.size + 1, 1, none⟩) lt_c1_1_1).trans c1_1_1
  have c1_2_0 := (hb.cell (p := ⟨w.heap.size + 1 + 1, 0, none⟩) lt_c1_2_0).trans c1_2_0
  have c1_2_1 := (hb.cell (p := ⟨w.heap.size + 1 + 1, 1, none⟩) lt_c1_2_1).trans c1_2_1
  have hz := bsize hb
  try simp at hz
  have lt_c1_0_0 : w.heap.size < w5.heap.size := by omega
  have lt_c1_0_1 : w.heap.size < w5.heap.size := by omega
  have lt_c1_1_0 : w.heap.size + 1 < w5.heap.size := by omega
  have lt_c1_1_1 : w.heap.size + 1 < w5.heap.size := by omega
  have lt_c1_2_0 : w.heap.size + 1 + 1 < w5.heap.size := by omega
  have lt_c1_2_1 : w.heap.size + 1 + 1 < w5.heap.size := by omega
  have hB := HB.out.trans (hb.mono HB.out.size)
  clear HB
  have HB := Lib.hid hB
  clear hB
  clear hb hz
  go_upto_region 6 with fail
  go_cut [109] (fun s109 wx => s109 = .bool false ∧ Below w5.heap.size w5 wx)
  case first =>
    obtain ⟨rx0, rx1⟩ := RX.out
    have ex : IntKind.i64.wrap (-x) = -x := IntWalk.i64_in _ (by omega)
    cases hq1 : (an == bn) <;> cases hq2 : (ad == bd)
    case false.false =>
      have hx0 : (x == 0) = false := by
        rw [← Bool.not_eq_true]
        intro h
        obtain ⟨g1, g2⟩ := HZ'.out.1 (by simpa using h)
        simp [g1] at hq1
      have hBB : Below w5.heap.size w5 w5 := Below.refl _ _
      go_region_held3 (fun w' => w'.cell? ⟨w.heap.size, 0, none⟩ = some (.int .i64 an) ∧ w'.cell? ⟨w.heap.size, 1, none⟩ = some (.int .i64 ad) ∧ w'.cell? ⟨w.heap.size + 1, 0, none⟩ = some (.int .i64 bn) ∧ w'.cell? ⟨w.heap.size + 1, 1, none⟩ = some (.int .i64 bd) ∧ w'.cell? ⟨w.heap.size + 1 + 1, 0, none⟩ = some (.int .i64 cn) ∧ w'.cell? ⟨w.heap.size + 1 + 1, 1, none⟩ = some (.int .i64 cd))
        ((first | (simp [go_sem, c1_0_0, c1_0_1, c1_1_0, c1_1_1, c1_2_0, c1_2_1]; done)))
        (first
    | (go_at_call 20; (with_reducible refine (K5.out _).mono ?_); rintro e v1 ⟨rfl, hb⟩; (repeat (with_reducible replace hb := undrew hb)); have c1_0_0 := (hb.cell (p := ⟨w.heap.size, 0, none⟩) lt_c1_0_0).trans c1_0_0; have c1_0_1 := (hb.cell (p := ⟨w.heap.size, 1, none⟩) lt_c1_0_1).trans c1_0_1; have c1_1_0 := (hb.cell (p := ⟨w.heap.size + 1, 0, none⟩) lt_c1_1_0).trans c1_1_0; have c1_1_1 := (hb.cell (p := ⟨w.heap.size + 1, 1, none⟩) lt_c1_1_1).trans c1_1_1; have c1_2_0 := (hb.cell (p := ⟨w.heap.size + 1 + 1, 0, none⟩) lt_c1_2_0).trans c1_2_0; have c1_2_1 := (hb.cell (p := ⟨w.heap.size + 1 + 1, 1, none⟩) lt_c1_2_1).trans c1_2_1; have hz := bsize hb; (try simp at hz); have lt_c1_0_0 : w.heap.size < v1.heap.size := (by omega); have lt_c1_0_1 : w.heap.size < v1.heap.size := (by omega); have lt_c1_1_0 : w.heap.size + 1 < v1.heap.size := (by omega); have lt_c1_1_1 : w.heap.size + 1 < v1.heap.size := (by omega); have lt_c1_2_0 : w.heap.size + 1 + 1 < v1.heap.size := (by omega); have lt_c1_2_1 : w.heap.size + 1 + 1 < v1.heap.size := (by omega); have hBB := hBB.trans (hb.mono hBB.size); clear hb hz)
    | (go_at_call 20; (with_reducible refine (K6.out _).mono ?_); rintro e v2 ⟨rfl, hb⟩; (repeat (with_reducible replace hb := undrew hb)); have c1_0_0 := (hb.cell (p := ⟨w.heap.size, 0, none⟩) lt_c1_0_0).trans c1_0_0; have c1_0_1 := (hb.cell (p := ⟨w.heap.size, 1, none⟩) lt_c1_0_1).trans c1_0_1; have c1_1_0 := (hb.cell (p := ⟨w.heap.size + 1, 0, none⟩) lt_c1_1_0).trans c1_1_0; have c1_1_1 := (hb.cell (p := ⟨w.heap.size + 1, 1, none⟩) lt_c1_1_1).trans c1_1_1; have c1_2_0 := (hb.cell (p := ⟨w.heap.size + 1 + 1, 0, none⟩) lt_c1_2_0).trans c1_2_0; have c1_2_1 := (hb.cell (p := ⟨w.heap.size + 1 + 1, 1, none⟩) lt_c1_2_1).trans c1_2_1; have hz := bsize hb; (try simp at hz); have lt_c1_0_0 : w.heap.size < v2.heap.size := (by omega); have lt_c1_0_1 : w.heap.size < v2.heap.size := (by omega); have lt_c1_1_0 : w.heap.size + 1 < v2.heap.size := (by omega); have lt_c1_1_1 : w.heap.size + 1 < v2.heap.size := (by omega); have lt_c1_2_0 : w.heap.size + 1 + 1 < v2.heap.size := (by omega); have lt_c1_2_1 : w.heap.size + 1 + 1 < v2.heap.size := (by omega); have hBB := hBB.trans (hb.mono hBB.size); clear hb hz)
    | (go_at_call 30; (with_reducible refine (K7.out _).mono ?_); rintro e v3 ⟨rfl, hb⟩; (repeat (with_reducible replace hb := undrew hb)); have c1_0_0 := (hb.cell (p := ⟨w.heap.size, 0, none⟩) lt_c1_0_0).trans c1_0_0; have c1_0_1 := (hb.cell (p := ⟨w.heap.size, 1, none⟩) lt_c1_0_1).trans c1_0_1; have c1_1_0 := (hb.cell (p := ⟨w.heap.size + 1, 0, none⟩) lt_c1_1_0).trans c1_1_0; have c1_1_1 := (hb.cell (p := ⟨w.heap.size + 1, 1, none⟩) lt_c1_1_1).trans c1_1_1; have c1_2_0 := (hb.cell (p := ⟨w.heap.size + 1 + 1, 0, none⟩) lt_c1_2_0).trans c1_2_0; have c1_2_1 := (hb.cell (p := ⟨w.heap.size + 1 + 1, 1, none⟩) lt_c1_2_1).trans c1_2_1; have hz := bsize hb; (try simp at hz); have lt_c1_0_0 : w.heap.size < v3.heap.size := (by omega); have lt_c1_0_1 : w.heap.size < v3.heap.size := (by omega); have lt_c1_1_0 : w.heap.size + 1 < v3.heap.size := (by omega); have lt_c1_1_1 : w.heap.size + 1 < v3.heap.size := (by omega); have lt_c1_2_0 : w.heap.size + 1 + 1 < v3.heap.size := (by omega); have lt_c1_2_1 : w.heap.size + 1 + 1 < v3.heap.size := (by omega); have hBB := hBB.trans (hb.mono hBB.size); clear hb hz))
      all_goals
        go_wp2_with fail
        go_meet
        exact ⟨rfl, (by repeat (first | with_reducible exact Below.refl _ _ | (with_reducible refine Below.setCell ?_ (by first | exact Nat.le_refl _ | omega | (simp; done) | (simp; omega)) _) | (with_reducible refine Below.alloc ?_ (by first | exact Nat.le_refl _ | omega | (simp; done) | (simp; omega)) _) | with_reducible refine Below.drew ?_ | with_reducible refine bel_drewN ?_ _ | (with_reducible refine bel_by (by with_reducible assumption) (by first | exact Nat.le_refl _ | omega | (simp; done) | (simp; omega)) ?_)))⟩
    case false.true =>
      have hx0 : (x == 0) = false := by
        rw [← Bool.not_eq_true]
        intro h
        obtain ⟨g1, g2⟩ := HZ'.out.1 (by simpa using h)
        simp [g1] at hq1
      have hBB : Below w5.heap.size w5 w5 := Below.refl _ _
      go_region_held3 (fun w' => w'.cell? ⟨w.heap.size, 0, none⟩ = some (.int .i64 an) ∧ w'.cell? ⟨w.heap.size, 1, none⟩ = some (.int .i64 ad) ∧ w'.cell? ⟨w.heap.size + 1, 0, none⟩ = some (.int .i64 bn) ∧ w'.cell? ⟨w.heap.size + 1, 1, none⟩ = some (.int .i64 bd) ∧ w'.cell? ⟨w.heap.size + 1 + 1, 0, none⟩ = some (.int .i64 cn) ∧ w'.cell? ⟨w.heap.size + 1 + 1, 1, none⟩ = some (.int .i64 cd))
        ((first | (simp [go_sem, c1_0_0, c1_0_1, c1_1_0, c1_1_1, c1_2_0, c1_2_1]; done)))
        (first
    | (go_at_call 20; (with_reducible refine (K5.out _).mono ?_); rintro e v1 ⟨rfl, hb⟩; (repeat (with_reducible replace hb := undrew hb)); have c1_0_0 := (hb.cell (p := ⟨w.heap.size, 0, none⟩) lt_c1_0_0).trans c1_0_0; have c1_0_1 := (hb.cell (p := ⟨w.heap.size, 1, none⟩) lt_c1_0_1).trans c1_0_1; have c1_1_0 := (hb.cell (p := ⟨w.heap.size + 1, 0, none⟩) lt_c1_1_0).trans c1_1_0; have c1_1_1 := (hb.cell (p := ⟨w.heap.size + 1, 1, none⟩) lt_c1_1_1).trans c1_1_1; have c1_2_0 := (hb.cell (p := ⟨w.heap.size + 1 + 1, 0, none⟩) lt_c1_2_0).trans c1_2_0; have c1_2_1 := (hb.cell (p := ⟨w.heap.size + 1 + 1, 1, none⟩) lt_c1_2_1).trans c1_2_1; have hz := bsize hb; (try simp at hz); have lt_c1_0_0 : w.heap.size < v1.heap.size := (by omega); have lt_c1_0_1 : w.heap.size < v1.heap.size := (by omega); have lt_c1_1_0 : w.heap.size + 1 < v1.heap.size := (by omega); have lt_c1_1_1 : w.heap.size + 1 < v1.heap.size := (by omega); have lt_c1_2_0 : w.heap.size + 1 + 1 < v1.heap.size := (by omega); have lt_c1_2_1 : w.heap.size + 1 + 1 < v1.heap.size := (by omega); have hBB := hBB.trans (hb.mono hBB.size); clear hb hz)
    | (go_at_call 20; (with_reducible refine (K6.out _).mono ?_); rintro e v2 ⟨rfl, hb⟩; (repeat (with_reducible replace hb := undrew hb)); have c1_0_0 := (hb.cell (p := ⟨w.heap.size, 0, none⟩) lt_c1_0_0).trans c1_0_0; have c1_0_1 := (hb.cell (p := ⟨w.heap.size, 1, none⟩) lt_c1_0_1).trans c1_0_1; have c1_1_0 := (hb.cell (p := ⟨w.heap.size + 1, 0, none⟩) lt_c1_1_0).trans c1_1_0; have c1_1_1 := (hb.cell (p := ⟨w.heap.size + 1, 1, none⟩) lt_c1_1_1).trans c1_1_1; have c1_2_0 := (hb.cell (p := ⟨w.heap.size + 1 + 1, 0, none⟩) lt_c1_2_0).trans c1_2_0; have c1_2_1 := (hb.cell (p := ⟨w.heap.size + 1 + 1, 1, none⟩) lt_c1_2_1).trans c1_2_1; have hz := bsize hb; (try simp at hz); have lt_c1_0_0 : w.heap.size < v2.heap.size := (by omega); have lt_c1_0_1 : w.heap.size < v2.heap.size := (by omega); have lt_c1_1_0 : w.heap.size + 1 < v2.heap.size := (by omega); have lt_c1_1_1 : w.heap.size + 1 < v2.heap.size := (by omega); have lt_c1_2_0 : w.heap.size + 1 + 1 < v2.heap.size := (by omega); have lt_c1_2_1 : w.heap.size + 1 + 1 < v2.heap.size := (by omega); have hBB := hBB.trans (hb.mono hBB.size); clear hb hz)
    | (go_at_call 30; (with_reducible refine (K7.out _).mono ?_); rintro e v3 ⟨rfl, hb⟩; (repeat (with_reducible replace hb := undrew hb)); have c1_0_0 := (hb.cell (p := ⟨w.heap.size, 0, none⟩) lt_c1_0_0).trans c1_0_0; have c1_0_1 := (hb.cell (p := ⟨w.heap.size, 1, none⟩) lt_c1_0_1).trans c1_0_1; have c1_1_0 := (hb.cell (p := ⟨w.heap.size + 1, 0, none⟩) lt_c1_1_0).trans c1_1_0; have c1_1_1 := (hb.cell (p := ⟨w.heap.size + 1, 1, none⟩) lt_c1_1_1).trans c1_1_1; have c1_2_0 := (hb.cell (p := ⟨w.heap.size + 1 + 1, 0, none⟩) lt_c1_2_0).trans c1_2_0; have c1_2_1 := (hb.cell (p := ⟨w.heap.size + 1 + 1, 1, none⟩) lt_c1_2_1).trans c1_2_1; have hz := bsize hb; (try simp at hz); have lt_c1_0_0 : w.heap.size < v3.heap.size := (by omega); have lt_c1_0_1 : w.heap.size < v3.heap.size := (by omega); have lt_c1_1_0 : w.heap.size + 1 < v3.heap.size := (by omega); have lt_c1_1_1 : w.heap.size + 1 < v3.heap.size := (by omega); have lt_c1_2_0 : w.heap.size + 1 + 1 < v3.heap.size := (by omega); have lt_c1_2_1 : w.heap.size + 1 + 1 < v3.heap.size := (by omega); have hBB := hBB.trans (hb.mono hBB.size); clear hb hz))
      all_goals
        go_wp2_with fail
        go_meet
        exact ⟨rfl, (by repeat (first | with_reducible exact Below.refl _ _ | (with_reducible refine Below.setCell ?_ (by first | exact Nat.le_refl _ | omega | (simp; done) | (simp; omega)) _) | (with_reducible refine Below.alloc ?_ (by first | exact Nat.le_refl _ | omega | (simp; done) | (simp; omega)) _) | with_reducible refine Below.drew ?_ | with_reducible refine bel_drewN ?_ _ | (with_reducible refine bel_by (by with_reducible assumption) (by first | exact Nat.le_refl _ | omega | (simp; done) | (simp; omega)) ?_)))⟩
    case true.false =>
      have hx0 : (x == 0) = false := by
        rw [← Bool.not_eq_true]
        intro h
        obtain ⟨g1, g2⟩ := HZ'.out.1 (by simpa using h)
        simp [g2] at hq2
      have hBB : Below w5.heap.size w5 w5 := Below.refl _ _
      go_region_held3 (fun w' => w'.cell? ⟨w.heap.size, 0, none⟩ = some (.int .i64 an) ∧ w'.cell? ⟨w.heap.size, 1, none⟩ = some (.int .i64 ad) ∧ w'.cell? ⟨w.heap.size + 1, 0, none⟩ = some (.int .i64 bn) ∧ w'.cell? ⟨w.heap.size + 1, 1, none⟩ = some (.int .i64 bd) ∧ w'.cell? ⟨w.heap.size + 1 + 1, 0, none⟩ = some (.int .i64 cn) ∧ w'.cell? ⟨w.heap.size + 1 + 1, 1, none⟩ = some (.int .i64 cd))
        ((first | (simp [go_sem, c1_0_0, c1_0_1, c1_1_0, c1_1_1, c1_2_0, c1_2_1]; done)))
        (first
    | (go_at_call 20; (with_reducible refine (K5.out _).mono ?_); rintro e v1 ⟨rfl, hb⟩; (repeat (with_reducible replace hb := undrew hb)); have c1_0_0 := (hb.cell (p := ⟨w.heap.size, 0, none⟩) lt_c1_0_0).trans c1_0_0; have c1_0_1 := (hb.cell (p := ⟨w.heap.size, 1, none⟩) lt_c1_0_1).trans c1_0_1; have c1_1_0 := (hb.cell (p := ⟨w.heap.size + 1, 0, none⟩) lt_c1_1_0).trans c1_1_0; have c1_1_1 := (hb.cell (p := ⟨w.heap.size + 1, 1, none⟩) lt_c1_1_1).trans c1_1_1; have c1_2_0 := (hb.cell (p := ⟨w.heap.size + 1 + 1, 0, none⟩) lt_c1_2_0).trans c1_2_0; have c1_2_1 := (hb.cell (p := ⟨w.heap.size + 1 + 1, 1, none⟩) lt_c1_2_1).trans c1_2_1; have hz := bsize hb; (try simp at hz); have lt_c1_0_0 : w.heap.size < v1.heap.size := (by omega); have lt_c1_0_1 : w.heap.size < v1.heap.size := (by omega); have lt_c1_1_0 : w.heap.size + 1 < v1.heap.size := (by omega); have lt_c1_1_1 : w.heap.size + 1 < v1.heap.size := (by omega); have lt_c1_2_0 : w.heap.size + 1 + 1 < v1.heap.size := (by omega); have lt_c1_2_1 : w.heap.size + 1 + 1 < v1.heap.size := (by omega); have hBB := hBB.trans (hb.mono hBB.size); clear hb hz)
    | (go_at_call 20; (with_reducible refine (K6.out _).mono ?_); rintro e v2 ⟨rfl, hb⟩; (repeat (with_reducible replace hb := undrew hb)); have c1_0_0 := (hb.cell (p := ⟨w.heap.size, 0, none⟩) lt_c1_0_0).trans c1_0_0; have c1_0_1 := (hb.cell (p := ⟨w.heap.size, 1, none⟩) lt_c1_0_1).trans c1_0_1; have c1_1_0 := (hb.cell (p := ⟨w.heap.size + 1, 0, none⟩) lt_c1_1_0).trans c1_1_0; have c1_1_1 := (hb.cell (p := ⟨w.heap.size + 1, 1, none⟩) lt_c1_1_1).trans c1_1_1; have c1_2_0 := (hb.cell (p := ⟨w.heap.size + 1 + 1, 0, none⟩) lt_c1_2_0).trans c1_2_0; have c1_2_1 := (hb.cell (p := ⟨w.heap.size + 1 + 1, 1, none⟩) lt_c1_2_1).trans c1_2_1; have hz := bsize hb; (try simp at hz); have lt_c1_0_0 : w.heap.size < v2.heap.size := (by omega); have lt_c1_0_1 : w.heap.size < v2.heap.size := (by omega); have lt_c1_1_0 : w.heap.size + 1 < v2.heap.size := (by omega); have lt_c1_1_1 : w.heap.size + 1 < v2.heap.size := (by omega); have lt_c1_2_0 : w.heap.size + 1 + 1 < v2.heap.size := (by omega); have lt_c1_2_1 : w.heap.size + 1 + 1 < v2.heap.size := (by omega); have hBB := hBB.trans (hb.mono hBB.size); clear hb hz)
    | (go_at_call 30; (with_reducible refine (K7.out _).mono ?_); rintro e v3 ⟨rfl, hb⟩; (repeat (with_reducible replace hb := undrew hb)); have c1_0_0 := (hb.cell (p := ⟨w.heap.size, 0, none⟩) lt_c1_0_0).trans c1_0_0; have c1_0_1 := (hb.cell (p := ⟨w.heap.size, 1, none⟩) lt_c1_0_1).trans c1_0_1; have c1_1_0 := (hb.cell (p := ⟨w.heap.size + 1, 0, none⟩) lt_c1_1_0).trans c1_1_0; have c1_1_1 := (hb.cell (p := ⟨w.heap.size + 1, 1, none⟩) lt_c1_1_1).trans c1_1_1; have c1_2_0 := (hb.cell (p := ⟨w.heap.size + 1 + 1, 0, none⟩) lt_c1_2_0).trans c1_2_0; have c1_2_1 := (hb.cell (p := ⟨w.heap.size + 1 + 1, 1, none⟩) lt_c1_2_1).trans c1_2_1; have hz := bsize hb; (try simp at hz); have lt_c1_0_0 : w.heap.size < v3.heap.size := (by omega); have lt_c1_0_1 : w.heap.size < v3.heap.size := (by omega); have lt_c1_1_0 : w.heap.size + 1 < v3.heap.size := (by omega); have lt_c1_1_1 : w.heap.size + 1 < v3.heap.size := (by omega); have lt_c1_2_0 : w.heap.size + 1 + 1 < v3.heap.size := (by omega); have lt_c1_2_1 : w.heap.size + 1 + 1 < v3.heap.size := (by omega); have hBB := hBB.trans (hb.mono hBB.size); clear hb hz))
      all_goals
        go_wp2_with fail
        go_meet
        exact ⟨rfl, (by repeat (first | with_reducible exact Below.refl _ _ | (with_reducible refine Below.setCell ?_ (by first | exact Nat.le_refl _ | omega | (simp; done) | (simp; omega)) _) | (with_reducible refine Below.alloc ?_ (by first | exact Nat.le_refl _ | omega | (simp; done) | (simp; omega)) _) | with_reducible refine Below.drew ?_ | with_reducible refine bel_drewN ?_ _ | (with_reducible refine bel_by (by with_reducible assumption) (by first | exact Nat.le_refl _ | omega | (simp; done) | (simp; omega)) ?_)))⟩
    case true.true =>
      have hx0 : (x == 0) = true := by simpa using HZ'.out.2 ⟨by simpa using hq1, by simpa using hq2⟩
      have hBB : Below w5.heap.size w5 w5 := Below.refl _ _
      go_region_held3 (fun w' => w'.cell? ⟨w.heap.size, 0, none⟩ = some (.int .i64 an) ∧ w'.cell? ⟨w.heap.size, 1, none⟩ = some (.int .i64 ad) ∧ w'.cell? ⟨w.heap.size + 1, 0, none⟩ = some (.int .i64 bn) ∧ w'.cell? ⟨w.heap.size + 1, 1, none⟩ = some (.int .i64 bd) ∧ w'.cell? ⟨w.heap.size + 1 + 1, 0, none⟩ = some (.int .i64 cn) ∧ w'.cell? ⟨w.heap.size + 1 + 1, 1, none⟩ = some (.int .i64 cd))
        ((first | (simp [go_sem, c1_0_0, c1_0_1, c1_1_0, c1_1_1, c1_2_0, c1_2_1]; done)))
        (first
    | (go_at_call 20; (with_reducible refine (K5.out _).mono ?_); rintro e v1 ⟨rfl, hb⟩; (repeat (with_reducible replace hb := undrew hb)); have c1_0_0 := (hb.cell (p := ⟨w.heap.size, 0, none⟩) lt_c1_0_0).trans c1_0_0; have c1_0_1 := (hb.cell (p := ⟨w.heap.size, 1, none⟩) lt_c1_0_1).trans c1_0_1; have c1_1_0 := (hb.cell (p := ⟨w.heap.size + 1, 0, none⟩) lt_c1_1_0).trans c1_1_0; have c1_1_1 := (hb.cell (p := ⟨w.heap.size + 1, 1, none⟩) lt_c1_1_1).trans c1_1_1; have c1_2_0 := (hb.cell (p := ⟨w.heap.size + 1 + 1, 0, none⟩) lt_c1_2_0).trans c1_2_0; have c1_2_1 := (hb.cell (p := ⟨w.heap.size + 1 + 1, 1, none⟩) lt_c1_2_1).trans c1_2_1; have hz := bsize hb; (try simp at hz); have lt_c1_0_0 : w.heap.size < v1.heap.size := (by omega); have lt_c1_0_1 : w.heap.size < v1.heap.size := (by omega); have lt_c1_1_0 : w.heap.size + 1 < v1.heap.size := (by omega); have lt_c1_1_1 : w.heap.size + 1 < v1.heap.size := (by omega); have lt_c1_2_0 : w.heap.size + 1 + 1 < v1.heap.size := (by omega); have lt_c1_2_1 : w.heap.size + 1 + 1 < v1.heap.size := (by omega); have hBB := hBB.trans (hb.mono hBB.size); clear hb hz)
    | (go_at_call 20; (with_reducible refine (K6.out _).mono ?_); rintro e v2 ⟨rfl, hb⟩; (repeat (with_reducible replace hb := undrew hb)); have c1_0_0 := (hb.cell (p := ⟨w.heap.size, 0, none⟩) lt_c1_0_0).trans c1_0_0; have c1_0_1 := (hb.cell (p := ⟨w.heap.size, 1, none⟩) lt_c1_0_1).trans c1_0_1; have c1_1_0 := (hb.cell (p := ⟨w.heap.size + 1, 0, none⟩) lt_c1_1_0).trans c1_1_0; have c1_1_1 := (hb.cell (p := ⟨w.heap.size + 1, 1, none⟩) lt_c1_1_1).trans c1_1_1; have c1_2_0 := (hb.cell (p := ⟨w.heap.size + 1 + 1, 0, none⟩) lt_c1_2_0).trans c1_2_0; have c1_2_1 := (hb.cell (p := ⟨w.heap.size + 1 + 1, 1, none⟩) lt_c1_2_1).trans c1_2_1; have hz := bsize hb; (try simp at hz); have lt_c1_0_0 : w.heap.size < v2.heap.size := (by omega); have lt_c1_0_1 : w.heap.size < v2.heap.size := (by omega); have lt_c1_1_0 : w.heap.size + 1 < v2.heap.size := (by omega); have lt_c1_1_1 : w.heap.size + 1 < v2.heap.size := (by omega); have lt_c1_2_0 : w.heap.size + 1 + 1 < v2.heap.size := (by omega); have lt_c1_2_1 : w.heap.size + 1 + 1 < v2.heap.size := (by omega); have hBB := hBB.trans (hb.mono hBB.size); clear hb hz)
    | (go_at_call 30; (with_reducible refine (K7.out _).mono ?_); rintro e v3 ⟨rfl, hb⟩; (repeat (with_reducible replace hb := undrew hb)); have c1_0_0 := (hb.cell (p := ⟨w.heap.size, 0, none⟩) lt_c1_0_0).trans c1_0_0; have c1_0_1 := (hb.cell (p := ⟨w.heap.size, 1, none⟩) lt_c1_0_1).trans c1_0_1; have c1_1_0 := (hb.cell (p := ⟨w.heap.size + 1, 0, none⟩) lt_c1_1_0).trans c1_1_0; have c1_1_1 := (hb.cell (p := ⟨w.heap.size + 1, 1, none⟩) lt_c1_1_1).trans c1_1_1; have c1_2_0 := (hb.cell (p := ⟨w.heap.size + 1 + 1, 0, none⟩) lt_c1_2_0).trans c1_2_0; have c1_2_1 := (hb.cell (p := ⟨w.heap.size + 1 + 1, 1, none⟩) lt_c1_2_1).trans c1_2_1; have hz := bsize hb; (try simp at hz); have lt_c1_0_0 : w.heap.size < v3.heap.size := (by omega); have lt_c1_0_1 : w.heap.size < v3.heap.size := (by omega); have lt_c1_1_0 : w.heap.size + 1 < v3.heap.size := (by omega); have lt_c1_1_1 : w.heap.size + 1 < v3.heap.size := (by omega); have lt_c1_2_0 : w.heap.size + 1 + 1 < v3.heap.size := (by omega); have lt_c1_2_1 : w.heap.size + 1 + 1 < v3.heap.size := (by omega); have hBB := hBB.trans (hb.mono hBB.size); clear hb hz))
      all_goals
        go_wp2_with fail
        go_meet
        exact ⟨rfl, (by repeat (first | with_reducible exact Below.refl _ _ | (with_reducible refine Below.setCell ?_ (by first | exact Nat.le_refl _ | omega | (simp; done) | (simp; omega)) _) | (with_reducible refine Below.alloc ?_ (by first | exact Nat.le_refl _ | omega | (simp; done) | (simp; omega)) _) | with_reducible refine Below.drew ?_ | with_reducible refine bel_drewN ?_ _ | (with_reducible refine bel_by (by with_reducible assumption) (by first | exact Nat.le_refl _ | omega | (simp; done) | (simp; omega)) ?_)))⟩
  obtain ⟨rfl, hb⟩ := hcut
  generalize wc = wc7 at *
  have c1_0_0 := (hb.cell (p := ⟨w.heap.size, 0, none⟩) lt_c1_0_0).trans c1_0_0
  have c1_0_1 := (hb.cell (p := ⟨w.heap.size, 1, none⟩) lt_c1_0_1).trans c1_0_1
  have c1_1_0 := (hb.cell (p := ⟨w.heap.size + 1, 0, none⟩) lt_c1_1_0).trans c1_1_0
  have c1_1_1 := (hb.cell (p := ⟨w.heap.size + 1, 1, none⟩) lt_c1_1_1).trans c1_1_1
  have c1_2_0 := (hb.cell (p := ⟨w.heap.size + 1 + 1, 0, none⟩) lt_c1_2_0).trans c1_2_0
  have c1_2_1 := (hb.cell (p := ⟨w.heap.size + 1 + 1, 1, none⟩) lt_c1_2_1).trans c1_2_1
  have hz := bsize hb
  try simp at hz
  have lt_c1_0_0 : w.heap.size < wc7.heap.size := by omega
  have lt_c1_0_1 : w.heap.size < wc7.heap.size := by omega
  have lt_c1_1_0 : w.heap.size + 1 < wc7.heap.size := by omega
  have lt_c1_1_1 : w.heap.size + 1 < wc7.heap.size := by omega
  have lt_c1_2_0 : w.heap.size + 1 + 1 < wc7.heap.size := by omega
  have lt_c1_2_1 : w.heap.size + 1 + 1 < wc7.heap.size := by omega
  have hB := HB.out.trans (hb.mono HB.out.size)
  clear HB
  have HB := Lib.hid hB
  clear hB
  clear hb hz
  go_wp2_with fail
  refine (K8.out _).mono ?_
  rintro e w8 ⟨rfl, hb⟩
  have c1_0_0 := (hb.cell (p := ⟨w.heap.size, 0, none⟩) lt_c1_0_0).trans c1_0_0
  have c1_0_1 := (hb.cell (p := ⟨w.heap.size, 1, none⟩) lt_c1_0_1).trans c1_0_1
  have c1_1_0 := (hb.cell (p := ⟨w.heap.size + 1, 0, none⟩) lt_c1_1_0).trans c1_1_0
  have c1_1_1 := (hb.cell (p := ⟨w.heap.size + 1, 1, none⟩) lt_c1_1_1).trans c1_1_1
  have c1_2_0 := (hb.cell (p := ⟨w.heap.size + 1 + 1, 0, none⟩) lt_c1_2_0).trans c1_2_0
  have c1_2_1 := (hb.cell (p := ⟨w.heap.size + 1 + 1, 1, none⟩) lt_c1_2_1).trans c1_2_1
  have hz := bsize hb
  try simp at hz
  have lt_c1_0_0 : w.heap.size < w8.heap.size := by omega
  have lt_c1_0_1 : w.heap.size < w8.heap.size := by omega
  have lt_c1_1_0 : w.heap.size + 1 < w8.heap.size := by omega
  have lt_c1_1_1 : w.heap.size + 1 < w8.heap.size := by omega
  have lt_c1_2_0 : w.heap.size + 1 + 1 < w8.heap.size := by omega
  have lt_c1_2_1 : w.heap.size + 1 + 1 < w8.heap.size := by omega
  have hB := HB.out.trans (hb.mono HB.out.size)
  clear HB
  have HB := Lib.hid hB
  clear hB
  clear hb hz
  go_upto_region 9 with fail
  have hP := HB.out
  have hK : Below w8.heap.size w8 (w8.alloc (.cells #[.int .i64 d.1, .int .i64 d.2.1] 23)) := (by repeat (first | with_reducible exact Below.refl _ _ | (with_reducible refine Below.setCell ?_ (by first | exact Nat.le_refl _ | omega | (simp; done) | (simp; omega)) _) | (with_reducible refine Below.alloc ?_ (by first | exact Nat.le_refl _ | omega | (simp; done) | (simp; omega)) _) | with_reducible refine Below.drew ?_ | with_reducible refine bel_drewN ?_ _ | (with_reducible refine bel_by (by with_reducible assumption) (by first | exact Nat.le_refl _ | omega | (simp; done) | (simp; omega)) ?_)))
  have hB : Below w.heap.size w (w8.alloc (.cells #[.int .i64 d.1, .int .i64 d.2.1] 23)) := hP.trans (hK.mono hP.size)
  have c1_0_0 : (w8.alloc (.cells #[.int .i64 d.1, .int .i64 d.2.1] 23)).cell? ⟨w.heap.size, 0, none⟩ = some (.int .i64 an) := (hK.cell (p := ⟨w.heap.size, 0, none⟩) lt_c1_0_0).trans c1_0_0
  have c1_0_1 : (w8.alloc (.cells #[.int .i64 d.1, .int .i64 d.2.1] 23)).cell? ⟨w.heap.size, 1, none⟩ = some (.int .i64 ad) := (hK.cell (p := ⟨w.heap.size, 1, none⟩) lt_c1_0_1).trans c1_0_1
  have c1_1_0 : (w8.alloc (.cells #[.int .i64 d.1, .int .i64 d.2.1] 23)).cell? ⟨w.heap.size + 1, 0, none⟩ = some (.int .i64 bn) := (hK.cell (p := ⟨w.heap.size + 1, 0, none⟩) lt_c1_1_0).trans c1_1_0
  have c1_1_1 : (w8.alloc (.cells #[.int .i64 d.1, .int .i64 d.2.1] 23)).cell? ⟨w.heap.size + 1, 1, none⟩ = some (.int .i64 bd) := (hK.cell (p := ⟨w.heap.size + 1, 1, none⟩) lt_c1_1_1).trans c1_1_1
  have c1_2_0 : (w8.alloc (.cells #[.int .i64 d.1, .int .i64 d.2.1] 23)).cell? ⟨w.heap.size + 1 + 1, 0, none⟩ = some (.int .i64 cn) := (hK.cell (p := ⟨w.heap.size + 1 + 1, 0, none⟩) lt_c1_2_0).trans c1_2_0
  have c1_2_1 : (w8.alloc (.cells #[.int .i64 d.1, .int .i64 d.2.1] 23)).cell? ⟨w.heap.size + 1 + 1, 1, none⟩ = some (.int .i64 cd) := (hK.cell (p := ⟨w.heap.size + 1 + 1, 1, none⟩) lt_c1_2_1).trans c1_2_1
  have c9_0_0 : (w8.alloc (.cells #[.int .i64 d.1, .int .i64 d.2.1] 23)).cell? ⟨w8.heap.size, 0, none⟩ = some (.int .i64 d.1) := by simp [go_sem]
  have c9_0_1 : (w8.alloc (.cells #[.int .i64 d.1, .int .i64 d.2.1] 23)).cell? ⟨w8.heap.size, 1, none⟩ = some (.int .i64 d.2.1) := by simp [go_sem]
  have hz : (w8.alloc (.cells #[.int .i64 d.1, .int .i64 d.2.1] 23)).heap.size = w8.heap.size + 1 := by simp
  generalize (w8.alloc (.cells #[.int .i64 d.1, .int .i64 d.2.1] 23)) = wA9 at hB hK hz c1_0_0 c1_0_1 c1_1_0 c1_1_1 c1_2_0 c1_2_1 c9_0_0 c9_0_1 ⊢
  clear hK
  have lt_c1_0_0 : w.heap.size < wA9.heap.size := by omega
  have lt_c1_0_1 : w.heap.size < wA9.heap.size := by omega
  have lt_c1_1_0 : w.heap.size + 1 < wA9.heap.size := by omega
  have lt_c1_1_1 : w.heap.size + 1 < wA9.heap.size := by omega
  have lt_c1_2_0 : w.heap.size + 1 + 1 < wA9.heap.size := by omega
  have lt_c1_2_1 : w.heap.size + 1 + 1 < wA9.heap.size := by omega
  have lt_c9_0_0 : w8.heap.size < wA9.heap.size := by omega
  have lt_c9_0_1 : w8.heap.size < wA9.heap.size := by omega
  clear hP HB
  have HB := Lib.hid hB
  clear hB hz
  go_cut [124] (fun s124 wx => s124 = .bool false ∧ Below wA9.heap.size wA9 wx)
  case first =>
    cases hd : (d.2.2 == 0)
    · go_quiet (fail)
      go_wp2
      go_meet
      exact ⟨by first | rfl | (simp; done), (by repeat (first | with_reducible exact Below.refl _ _ | (with_reducible refine Below.setCell ?_ (by first | exact Nat.le_refl _ | omega | (simp; done) | (simp; omega)) _) | (with_reducible refine Below.alloc ?_ (by first | exact Nat.le_refl _ | omega | (simp; done) | (simp; omega)) _) | with_reducible refine Below.drew ?_ | with_reducible refine bel_drewN ?_ _ | (with_reducible refine bel_by (by with_reducible assumption) (by first | exact Nat.le_refl _ | omega | (simp; done) | (simp; omega)) ?_)))⟩
    · have C9 := K9.out (by simpa using hd)
      have K9 := Lib.hid C9
      clear C9
      have hBB : Below wA9.heap.size wA9 wA9 := Below.refl _ _
      go_region_held3 (fun w' => w'.cell? ⟨w.heap.size, 0, none⟩ = some (.int .i64 an) ∧ w'.cell? ⟨w.heap.size, 1, none⟩ = some (.int .i64 ad) ∧ w'.cell? ⟨w.heap.size + 1, 0, none⟩ = some (.int .i64 bn) ∧ w'.cell? ⟨w.heap.size + 1, 1, none⟩ = some (.int .i64 bd) ∧ w'.cell? ⟨w.heap.size + 1 + 1, 0, none⟩ = some (.int .i64 cn) ∧ w'.cell? ⟨w.heap.size + 1 + 1, 1, none⟩ = some (.int .i64 cd) ∧ w'.cell? ⟨w8.heap.size, 0, none⟩ = some (.int .i64 d.1) ∧ w'.cell? ⟨w8.heap.size, 1, none⟩ = some (.int .i64 d.2.1))
        ((first | (simp [go_sem, c1_0_0, c1_0_1, c1_1_0, c1_1_1, c1_2_0, c1_2_1, c9_0_0, c9_0_1]; done)))
        (first
    | (go_at_call 16; (with_reducible refine (f_bel _ _ _).mono ?_); rintro e wf ⟨rfl, hb⟩; (repeat (with_reducible replace hb := undrew hb)); have c1_0_0 := (hb.cell (p := ⟨w.heap.size, 0, none⟩) lt_c1_0_0).trans c1_0_0; have c1_0_1 := (hb.cell (p := ⟨w.heap.size, 1, none⟩) lt_c1_0_1).trans c1_0_1; have c1_1_0 := (hb.cell (p := ⟨w.heap.size + 1, 0, none⟩) lt_c1_1_0).trans c1_1_0; have c1_1_1 := (hb.cell (p := ⟨w.heap.size + 1, 1, none⟩) lt_c1_1_1).trans c1_1_1; have c1_2_0 := (hb.cell (p := ⟨w.heap.size + 1 + 1, 0, none⟩) lt_c1_2_0).trans c1_2_0; have c1_2_1 := (hb.cell (p := ⟨w.heap.size + 1 + 1, 1, none⟩) lt_c1_2_1).trans c1_2_1; have c9_0_0 := (hb.cell (p := ⟨w8.heap.size, 0, none⟩) lt_c9_0_0).trans c9_0_0; have c9_0_1 := (hb.cell (p := ⟨w8.heap.size, 1, none⟩) lt_c9_0_1).trans c9_0_1; have hz := bsize hb; (try simp at hz); have lt_c1_0_0 : w.heap.size < wf.heap.size := (by omega); have lt_c1_0_1 : w.heap.size < wf.heap.size := (by omega); have lt_c1_1_0 : w.heap.size + 1 < wf.heap.size := (by omega); have lt_c1_1_1 : w.heap.size + 1 < wf.heap.size := (by omega); have lt_c1_2_0 : w.heap.size + 1 + 1 < wf.heap.size := (by omega); have lt_c1_2_1 : w.heap.size + 1 + 1 < wf.heap.size := (by omega); have lt_c9_0_0 : w8.heap.size < wf.heap.size := (by omega); have lt_c9_0_1 : w8.heap.size < wf.heap.size := (by omega); have hBB := hBB.trans (hb.mono hBB.size); clear hb hz)
    | (go_at_call 30; (with_reducible refine (K9.out _).mono ?_); rintro e v1 ⟨rfl, hb⟩; (repeat (with_reducible replace hb := undrew hb)); have c1_0_0 := (hb.cell (p := ⟨w.heap.size, 0, none⟩) lt_c1_0_0).trans c1_0_0; have c1_0_1 := (hb.cell (p := ⟨w.heap.size, 1, none⟩) lt_c1_0_1).trans c1_0_1; have c1_1_0 := (hb.cell (p := ⟨w.heap.size + 1, 0, none⟩) lt_c1_1_0).trans c1_1_0; have c1_1_1 := (hb.cell (p := ⟨w.heap.size + 1, 1, none⟩) lt_c1_1_1).trans c1_1_1; have c1_2_0 := (hb.cell (p := ⟨w.heap.size + 1 + 1, 0, none⟩) lt_c1_2_0).trans c1_2_0; have c1_2_1 := (hb.cell (p := ⟨w.heap.size + 1 + 1, 1, none⟩) lt_c1_2_1).trans c1_2_1; have c9_0_0 := (hb.cell (p := ⟨w8.heap.size, 0, none⟩) lt_c9_0_0).trans c9_0_0; have c9_0_1 := (hb.cell (p := ⟨w8.heap.size, 1, none⟩) lt_c9_0_1).trans c9_0_1; have hz := bsize hb; (try simp at hz); have lt_c1_0_0 : w.heap.size < v1.heap.size := (by omega); have lt_c1_0_1 : w.heap.size < v1.heap.size := (by omega); have lt_c1_1_0 : w.heap.size + 1 < v1.heap.size := (by omega); have lt_c1_1_1 : w.heap.size + 1 < v1.heap.size := (by omega); have lt_c1_2_0 : w.heap.size + 1 + 1 < v1.heap.size := (by omega); have lt_c1_2_1 : w.heap.size + 1 + 1 < v1.heap.size := (by omega); have lt_c9_0_0 : w8.heap.size < v1.heap.size := (by omega); have lt_c9_0_1 : w8.heap.size < v1.heap.size := (by omega); have hBB := hBB.trans (hb.mono hBB.size); clear hb hz))
      all_goals
        go_wp2_with fail
        go_meet
        exact ⟨by first | rfl | (simp; done), (by repeat (first | with_reducible exact Below.refl _ _ | (with_reducible refine Below.setCell ?_ (by first | exact Nat.le_refl _ | omega | (simp; done) | (simp; omega)) _) | (with_reducible refine Below.alloc ?_ (by first | exact Nat.le_refl _ | omega | (simp; done) | (simp; omega)) _) | with_reducible refine Below.drew ?_ | with_reducible refine bel_drewN ?_ _ | (with_reducible refine bel_by (by with_reducible assumption) (by first | exact Nat.le_refl _ | omega | (simp; done) | (simp; omega)) ?_)))⟩
  obtain ⟨rfl, hb⟩ := hcut
  generalize wc = wc10 at *
  have c1_0_0 := (hb.cell (p := ⟨w.heap.size, 0, none⟩) lt_c1_0_0).trans c1_0_0
  have c1_0_1 := (hb.cell (p := ⟨w.heap.size, 1, none⟩) lt_c1_0_1).trans c1_0_1
  have c1_1_0 := (hb.cell (p := ⟨w.heap.size + 1, 0, none⟩) lt_c1_1_0).trans c1_1_0
  have c1_1_1 := (hb.cell (p := ⟨w.heap.size + 1, 1, none⟩) lt_c1_1_1).trans c1_1_1
  have c1_2_0 := (hb.cell (p := ⟨w.heap.size + 1 + 1, 0, none⟩) lt_c1_2_0).trans c1_2_0
  have c1_2_1 := (hb.cell (p := ⟨w.heap.size + 1 + 1, 1, none⟩) lt_c1_2_1).trans c1_2_1
  have c9_0_0 := (hb.cell (p := ⟨w8.heap.size, 0, none⟩) lt_c9_0_0).trans c9_0_0
  have c9_0_1 := (hb.cell (p := ⟨w8.heap.size, 1, none⟩) lt_c9_0_1).trans c9_0_1
  have hz := bsize hb
  try simp at hz
  have lt_c1_0_0 : w.heap.size < wc10.heap.size := by omega
  have lt_c1_0_1 : w.heap.size < wc10.heap.size := by omega
  have lt_c1_1_0 : w.heap.size + 1 < wc10.heap.size := by omega
  have lt_c1_1_1 : w.heap.size + 1 < wc10.heap.size := by omega
  have lt_c1_2_0 : w.heap.size + 1 + 1 < wc10.heap.size := by omega
  have lt_c1_2_1 : w.heap.size + 1 + 1 < wc10.heap.size := by omega
  have lt_c9_0_0 : w8.heap.size < wc10.heap.size := by omega
  have lt_c9_0_1 : w8.heap.size < wc10.heap.size := by omega
  have hB := HB.out.trans (hb.mono HB.out.size)
  clear HB
  have HB := Lib.hid hB
  clear hB
  clear hb hz
  go_wp2_with fail
  refine (K10.out _).mono ?_
  rintro e w11 ⟨rfl, hb⟩
  have c1_0_0 := (hb.cell (p := ⟨w.heap.size, 0, none⟩) lt_c1_0_0).trans c1_0_0
  have c1_0_1 := (hb.cell (p := ⟨w.heap.size, 1, none⟩) lt_c1_0_1).trans c1_0_1
  have c1_1_0 := (hb.cell (p := ⟨w.heap.size + 1, 0, none⟩) lt_c1_1_0).trans c1_1_0
  have c1_1_1 := (hb.cell (p := ⟨w.heap.size + 1, 1, none⟩) lt_c1_1_1).trans c1_1_1
  have c1_2_0 := (hb.cell (p := ⟨w.heap.size + 1 + 1, 0, none⟩) lt_c1_2_0).trans c1_2_0
  have c1_2_1 := (hb.cell (p := ⟨w.heap.size + 1 + 1, 1, none⟩) lt_c1_2_1).trans c1_2_1
  have c9_0_0 := (hb.cell (p := ⟨w8.heap.size, 0, none⟩) lt_c9_0_0).trans c9_0_0
  have c9_0_1 := (hb.cell (p := ⟨w8.heap.size, 1, none⟩) lt_c9_0_1).trans c9_0_1
  have hz := bsize hb
  try simp at hz
  have lt_c1_0_0 : w.heap.size < w11.heap.size := by omega
  have lt_c1_0_1 : w.heap.size < w11.heap.size := by omega
  have lt_c1_1_0 : w.heap.size + 1 < w11.heap.size := by omega
  have lt_c1_1_1 : w.heap.size + 1 < w11.heap.size := by omega
  have lt_c1_2_0 : w.heap.size + 1 + 1 < w11.heap.size := by omega
  have lt_c1_2_1 : w.heap.size + 1 + 1 < w11.heap.size := by omega
  have lt_c9_0_0 : w8.heap.size < w11.heap.size := by omega
  have lt_c9_0_1 : w8.heap.size < w11.heap.size := by omega
  have hB := HB.out.trans (hb.mono HB.out.size)
  clear HB
  have HB := Lib.hid hB
  clear hB
  clear hb hz
  go_wp2_with fail
  have hP := HB.out
  have hK : Below w11.heap.size w11 (w11.alloc (.cells #[.int .i64 u.1, .int .i64 u.2.1] 23)) := (by repeat (first | with_reducible exact Below.refl _ _ | (with_reducible refine Below.setCell ?_ (by first | exact Nat.le_refl _ | omega | (simp; done) | (simp; omega)) _) | (with_reducible refine Below.alloc ?_ (by first | exact Nat.le_refl _ | omega | (simp; done) | (simp; omega)) _) | with_reducible refine Below.drew ?_ | with_reducible refine bel_drewN ?_ _ | (with_reducible refine bel_by (by with_reducible assumption) (by first | exact Nat.le_refl _ | omega | (simp; done) | (simp; omega)) ?_)))
  have hB : Below w.heap.size w (w11.alloc (.cells #[.int .i64 u.1, .int .i64 u.2.1] 23)) := hP.trans (hK.mono hP.size)
  have c1_0_0 : (w11.alloc (.cells #[.int .i64 u.1, .int .i64 u.2.1] 23)).cell? ⟨w.heap.size, 0, none⟩ = some (.int .i64 an) := (hK.cell (p := ⟨w.heap.size, 0, none⟩) lt_c1_0_0).trans c1_0_0
  have c1_0_1 : (w11.alloc (.cells #[.int .i64 u.1, .int .i64 u.2.1] 23)).cell? ⟨w.heap.size, 1, none⟩ = some (.int .i64 ad) := (hK.cell (p := ⟨w.heap.size, 1, none⟩) lt_c1_0_1).trans c1_0_1
  have c1_1_0 : (w11.alloc (.cells #[.int .i64 u.1, .int .i64 u.2.1] 23)).cell? ⟨w.heap.size + 1, 0, none⟩ = some (.int .i64 bn) := (hK.cell (p := ⟨w.heap.size + 1, 0, none⟩) lt_c1_1_0).trans c1_1_0
  have c1_1_1 : (w11.alloc (.cells #[.int .i64 u.1, .int .i64 u.2.1] 23)).cell? ⟨w.heap.size + 1, 1, none⟩ = some (.int .i64 bd) := (hK.cell (p := ⟨w.heap.size + 1, 1, none⟩) lt_c1_1_1).trans c1_1_1
  have c1_2_0 : (w11.alloc (.cells #[.int .i64 u.1, .int .i64 u.2.1] 23)).cell? ⟨w.heap.size + 1 + 1, 0, none⟩ = some (.int .i64 cn) := (hK.cell (p := ⟨w.heap.size + 1 + 1, 0, none⟩) lt_c1_2_0).trans c1_2_0
  have c1_2_1 : (w11.alloc (.cells #[.int .i64 u.1, .int .i64 u.2.1] 23)).cell? ⟨w.heap.size + 1 + 1, 1, none⟩ = some (.int .i64 cd) := (hK.cell (p := ⟨w.heap.size + 1 + 1, 1, none⟩) lt_c1_2_1).trans c1_2_1
  have c9_0_0 : (w11.alloc (.cells #[.int .i64 u.1, .int .i64 u.2.1] 23)).cell? ⟨w8.heap.size, 0, none⟩ = some (.int .i64 d.1) := (hK.cell (p := ⟨w8.heap.size, 0, none⟩) lt_c9_0_0).trans c9_0_0
  have c9_0_1 : (w11.alloc (.cells #[.int .i64 u.1, .int .i64 u.2.1] 23)).cell? ⟨w8.heap.size, 1, none⟩ = some (.int .i64 d.2.1) := (hK.cell (p := ⟨w8.heap.size, 1, none⟩) lt_c9_0_1).trans c9_0_1
  have c12_0_0 : (w11.alloc (.cells #[.int .i64 u.1, .int .i64 u.2.1] 23)).cell? ⟨w11.heap.size, 0, none⟩ = some (.int .i64 u.1) := by simp [go_sem]
  have c12_0_1 : (w11.alloc (.cells #[.int .i64 u.1, .int .i64 u.2.1] 23)).cell? ⟨w11.heap.size, 1, none⟩ = some (.int .i64 u.2.1) := by simp [go_sem]
  have hz : (w11.alloc (.cells #[.int .i64 u.1, .int .i64 u.2.1] 23)).heap.size = w11.heap.size + 1 := by simp
  generalize (w11.alloc (.cells #[.int .i64 u.1, .int .i64 u.2.1] 23)) = wA12 at hB hK hz c1_0_0 c1_0_1 c1_1_0 c1_1_1 c1_2_0 c1_2_1 c9_0_0 c9_0_1 c12_0_0 c12_0_1 ⊢
  clear hK
  have lt_c1_0_0 : w.heap.size < wA12.heap.size := by omega
  have lt_c1_0_1 : w.heap.size < wA12.heap.size := by omega
  have lt_c1_1_0 : w.heap.size + 1 < wA12.heap.size := by omega
  have lt_c1_1_1 : w.heap.size + 1 < wA12.heap.size := by omega
  have lt_c1_2_0 : w.heap.size + 1 + 1 < wA12.heap.size := by omega
  have lt_c1_2_1 : w.heap.size + 1 + 1 < wA12.heap.size := by omega
  have lt_c9_0_0 : w8.heap.size < wA12.heap.size := by omega
  have lt_c9_0_1 : w8.heap.size < wA12.heap.size := by omega
  have lt_c12_0_0 : w11.heap.size < wA12.heap.size := by omega
  have lt_c12_0_1 : w11.heap.size < wA12.heap.size := by omega
  clear hP HB
  have HB := Lib.hid hB
  clear hB hz
  refine (K11.out _).mono ?_
  rintro e w12 ⟨rfl, hb⟩
  have c1_0_0 := (hb.cell (p := ⟨w.heap.size, 0, none⟩) lt_c1_0_0).trans c1_0_0
  have c1_0_1 := (hb.cell (p := ⟨w.heap.size, 1, none⟩) lt_c1_0_1).trans c1_0_1
  have c1_1_0 := (hb.cell (p := ⟨w.heap.size + 1, 0, none⟩) lt_c1_1_0).trans c1_1_0
  have c1_1_1 := (hb.cell (p := ⟨w.heap.size + 1, 1, none⟩) lt_c1_1_1).trans c1_1_1
  have c1_2_0 := (hb.cell (p := ⟨w.heap.size + 1 + 1, 0, none⟩) lt_c1_2_0).trans c1_2_0
  have c1_2_1 := (hb.cell (p := ⟨w.heap.size + 1 + 1, 1, none⟩) lt_c1_2_1).trans c1_2_1
  have c9_0_0 := (hb.cell (p := ⟨w8.heap.size, 0, none⟩) lt_c9_0_0).trans c9_0_0
  have c9_0_1 := (hb.cell (p := ⟨w8.heap.size, 1, none⟩) lt_c9_0_1).trans c9_0_1
  have c12_0_0 := (hb.cell (p := ⟨w11.heap.size, 0, none⟩) lt_c12_0_0).trans c12_0_0
  have c12_0_1 := (hb.cell (p := ⟨w11.heap.size, 1, none⟩) lt_c12_0_1).trans c12_0_1
  have hz := bsize hb
  try simp at hz
  have lt_c1_0_0 : w.heap.size < w12.heap.size := by omega
  have lt_c1_0_1 : w.heap.size < w12.heap.size := by omega
  have lt_c1_1_0 : w.heap.size + 1 < w12.heap.size := by omega
  have lt_c1_1_1 : w.heap.size + 1 < w12.heap.size := by omega
  have lt_c1_2_0 : w.heap.size + 1 + 1 < w12.heap.size := by omega
  have lt_c1_2_1 : w.heap.size + 1 + 1 < w12.heap.size := by omega
  have lt_c9_0_0 : w8.heap.size < w12.heap.size := by omega
  have lt_c9_0_1 : w8.heap.size < w12.heap.size := by omega
  have lt_c12_0_0 : w11.heap.size < w12.heap.size := by omega
  have lt_c12_0_1 : w11.heap.size < w12.heap.size := by omega
  have hB := HB.out.trans (hb.mono HB.out.size)
  clear HB
  have HB := Lib.hid hB
  clear hB
  clear hb hz
  go_wp2_with fail
  have hP := HB.out
  have hK : Below w12.heap.size w12 (w12.alloc (.cells #[.int .i64 t.1, .int .i64 t.2.1] 23)) := (by repeat (first | with_reducible exact Below.refl _ _ | (with_reducible refine Below.setCell ?_ (by first | exact Nat.le_refl _ | omega | (simp; done) | (simp; omega)) _) | (with_reducible refine Below.alloc ?_ (by first | exact Nat.le_refl _ | omega | (simp; done) | (simp; omega)) _) | with_reducible refine Below.drew ?_ | with_reducible refine bel_drewN ?_ _ | (with_reducible refine bel_by (by with_reducible assumption) (by first | exact Nat.le_refl _ | omega | (simp; done) | (simp; omega)) ?_)))
  have hB : Below w.heap.size w (w12.alloc (.cells #[.int .i64 t.1, .int .i64 t.2.1] 23)) := hP.trans (hK.mono hP.size)
  have c1_0_0 : (w12.alloc (.cells #[.int .i64 t.1, .int .i64 t.2.1] 23)).cell? ⟨w.heap.size, 0, none⟩ = some (.int .i64 an) := (hK.cell (p := ⟨w.heap.size, 0, none⟩) lt_c1_0_0).trans c1_0_0
  have c1_0_1 : (w12.alloc (.cells #[.int .i64 t.1, .int .i64 t.2.1] 23)).cell? ⟨w.heap.size, 1, none⟩ = some (.int .i64 ad) := (hK.cell (p := ⟨w.heap.size, 1, none⟩) lt_c1_0_1).trans c1_0_1
  have c1_1_0 : (w12.alloc (.cells #[.int .i64 t.1, .int .i64 t.2.1] 23)).cell? ⟨w.heap.size + 1, 0, none⟩ = some (.int .i64 bn) := (hK.cell (p := ⟨w.heap.size + 1, 0, none⟩) lt_c1_1_0).trans c1_1_0
  have c1_1_1 : (w12.alloc (.cells #[.int .i64 t.1, .int .i64 t.2.1] 23)).cell? ⟨w.heap.size + 1, 1, none⟩ = some (.int .i64 bd) := (hK.cell (p := ⟨w.heap.size + 1, 1, none⟩) lt_c1_1_1).trans c1_1_1
  have c1_2_0 : (w12.alloc (.cells #[.int .i64 t.1, .int .i64 t.2.1] 23)).cell? ⟨w.heap.size + 1 + 1, 0, none⟩ = some (.int .i64 cn) := (hK.cell (p := ⟨w.heap.size + 1 + 1, 0, none⟩) lt_c1_2_0).trans c1_2_0
  have c1_2_1 : (w12.alloc (.cells #[.int .i64 t.1, .int .i64 t.2.1] 23)).cell? ⟨w.heap.size + 1 + 1, 1, none⟩ = some (.int .i64 cd) := (hK.cell (p := ⟨w.heap.size + 1 + 1, 1, none⟩) lt_c1_2_1).trans c1_2_1
  have c9_0_0 : (w12.alloc (.cells #[.int .i64 t.1, .int .i64 t.2.1] 23)).cell? ⟨w8.heap.size, 0, none⟩ = some (.int .i64 d.1) := (hK.cell (p := ⟨w8.heap.size, 0, none⟩) lt_c9_0_0).trans c9_0_0
  have c9_0_1 : (w12.alloc (.cells #[.int .i64 t.1, .int .i64 t.2.1] 23)).cell? ⟨w8.heap.size, 1, none⟩ = some (.int .i64 d.2.1) := (hK.cell (p := ⟨w8.heap.size, 1, none⟩) lt_c9_0_1).trans c9_0_1
  have c12_0_0 : (w12.alloc (.cells #[.int .i64 t.1, .int .i64 t.2.1] 23)).cell? ⟨w11.heap.size, 0, none⟩ = some (.int .i64 u.1) := (hK.cell (p := ⟨w11.heap.size, 0, none⟩) lt_c12_0_0).trans c12_0_0
  have c12_0_1 : (w12.alloc (.cells #[.int .i64 t.1, .int .i64 t.2.1] 23)).cell? ⟨w11.heap.size, 1, none⟩ = some (.int .i64 u.2.1) := (hK.cell (p := ⟨w11.heap.size, 1, none⟩) lt_c12_0_1).trans c12_0_1
  have c13_0_0 : (w12.alloc (.cells #[.int .i64 t.1, .int .i64 t.2.1] 23)).cell? ⟨w12.heap.size, 0, none⟩ = some (.int .i64 t.1) := by simp [go_sem]
  have c13_0_1 : (w12.alloc (.cells #[.int .i64 t.1, .int .i64 t.2.1] 23)).cell? ⟨w12.heap.size, 1, none⟩ = some (.int .i64 t.2.1) := by simp [go_sem]
  have hz : (w12.alloc (.cells #[.int .i64 t.1, .int .i64 t.2.1] 23)).heap.size = w12.heap.size + 1 := by simp
  generalize (w12.alloc (.cells #[.int .i64 t.1, .int .i64 t.2.1] 23)) = wA13 at hB hK hz c1_0_0 c1_0_1 c1_1_0 c1_1_1 c1_2_0 c1_2_1 c9_0_0 c9_0_1 c12_0_0 c12_0_1 c13_0_0 c13_0_1 ⊢
  clear hK
  have lt_c1_0_0 : w.heap.size < wA13.heap.size := by omega
  have lt_c1_0_1 : w.heap.size < wA13.heap.size := by omega
  have lt_c1_1_0 : w.heap.size + 1 < wA13.heap.size := by omega
  have lt_c1_1_1 : w.heap.size + 1 < wA13.heap.size := by omega
  have lt_c1_2_0 : w.heap.size + 1 + 1 < wA13.heap.size := by omega
  have lt_c1_2_1 : w.heap.size + 1 + 1 < wA13.heap.size := by omega
  have lt_c9_0_0 : w8.heap.size < wA13.heap.size := by omega
  have lt_c9_0_1 : w8.heap.size < wA13.heap.size := by omega
  have lt_c12_0_0 : w11.heap.size < wA13.heap.size := by omega
  have lt_c12_0_1 : w11.heap.size < wA13.heap.size := by omega
  have lt_c13_0_0 : w12.heap.size < wA13.heap.size := by omega
  have lt_c13_0_1 : w12.heap.size < wA13.heap.size := by omega
  clear hP HB
  have HB := Lib.hid hB
  clear hB hz
  have hT := HT.out.below HB.out
  refine (awake_any _ hT).mono ?_
  rintro e w13 ⟨rfl, hb⟩
  have c1_0_0 := (hb.cell (p := ⟨w.heap.size, 0, none⟩) lt_c1_0_0).trans c1_0_0
  have c1_0_1 := (hb.cell (p := ⟨w.heap.size, 1, none⟩) lt_c1_0_1).trans c1_0_1
  have c1_1_0 := (hb.cell (p := ⟨w.heap.size + 1, 0, none⟩) lt_c1_1_0).trans c1_1_0
  have c1_1_1 := (hb.cell (p := ⟨w.heap.size + 1, 1, none⟩) lt_c1_1_1).trans c1_1_1
  have c1_2_0 := (hb.cell (p := ⟨w.heap.size + 1 + 1, 0, none⟩) lt_c1_2_0).trans c1_2_0
  have c1_2_1 := (hb.cell (p := ⟨w.heap.size + 1 + 1, 1, none⟩) lt_c1_2_1).trans c1_2_1
  have c9_0_0 := (hb.cell (p := ⟨w8.heap.size, 0, none⟩) lt_c9_0_0).trans c9_0_0
  have c9_0_1 := (hb.cell (p := ⟨w8.heap.size, 1, none⟩) lt_c9_0_1).trans c9_0_1
  have c12_0_0 := (hb.cell (p := ⟨w11.heap.size, 0, none⟩) lt_c12_0_0).trans c12_0_0
  have c12_0_1 := (hb.cell (p := ⟨w11.heap.size, 1, none⟩) lt_c12_0_1).trans c12_0_1
  have c13_0_0 := (hb.cell (p := ⟨w12.heap.size, 0, none⟩) lt_c13_0_0).trans c13_0_0
  have c13_0_1 := (hb.cell (p := ⟨w12.heap.size, 1, none⟩) lt_c13_0_1).trans c13_0_1
  have hz := bsize hb
  try simp at hz
  have lt_c1_0_0 : w.heap.size < w13.heap.size := by omega
  have lt_c1_0_1 : w.heap.size < w13.heap.size := by omega
  have lt_c1_1_0 : w.heap.size + 1 < w13.heap.size := by omega
  have lt_c1_1_1 : w.heap.size + 1 < w13.heap.size := by omega
  have lt_c1_2_0 : w.heap.size + 1 + 1 < w13.heap.size := by omega
  have lt_c1_2_1 : w.heap.size + 1 + 1 < w13.heap.size := by omega
  have lt_c9_0_0 : w8.heap.size < w13.heap.size := by omega
  have lt_c9_0_1 : w8.heap.size < w13.heap.size := by omega
  have lt_c12_0_0 : w11.heap.size < w13.heap.size := by omega
  have lt_c12_0_1 : w11.heap.size < w13.heap.size := by omega
  have lt_c13_0_0 : w12.heap.size < w13.heap.size := by omega
  have lt_c13_0_1 : w12.heap.size < w13.heap.size := by omega
  have hB := HB.out.trans (hb.mono HB.out.size)
  clear HB
  have HB := Lib.hid hB
  clear hB
  clear hb hz
  cases hu : (u.2.2 == 0)
  · have hu' : (u.2.2 != 0) = true := by simp [bne, hu]
    go_wp2
    go_ret
    have hB := HB.out
    exact ⟨rfl, (by repeat (first | with_reducible exact Below.refl _ _ | (with_reducible refine Below.setCell ?_ (by first | exact Nat.le_refl _ | omega | (simp; done) | (simp; omega)) _) | (with_reducible refine Below.alloc ?_ (by first | exact Nat.le_refl _ | omega | (simp; done) | (simp; omega)) _) | with_reducible refine Below.drew ?_ | with_reducible refine bel_drewN ?_ _ | (with_reducible refine bel_by (by with_reducible assumption) (by first | exact Nat.le_refl _ | omega | (simp; done) | (simp; omega)) ?_)))⟩
  have hu' : (u.2.2 != 0) = false := by simp [bne, hu]
  cases hv : (t.2.2 == 0)
  · have hv' : (t.2.2 != 0) = true := by simp [bne, hv]
    go_wp2
    go_ret
    have hB := HB.out
    exact ⟨rfl, (by repeat (first | with_reducible exact Below.refl _ _ | (with_reducible refine Below.setCell ?_ (by first | exact Nat.le_refl _ | omega | (simp; done) | (simp; omega)) _) | (with_reducible refine Below.alloc ?_ (by first | exact Nat.le_refl _ | omega | (simp; done) | (simp; omega)) _) | with_reducible refine Below.drew ?_ | with_reducible refine bel_drewN ?_ _ | (with_reducible refine bel_by (by with_reducible assumption) (by first | exact Nat.le_refl _ | omega | (simp; done) | (simp; omega)) ?_)))⟩
  have hv' : (t.2.2 != 0) = false := by simp [bne, hv]
  have C12 := K12.out (by simpa using hu) (by simpa using hv)
  have K12 := Lib.hid C12
  clear C12
  go_wp2_with fail
  refine (K12.out _).mono ?_
  rintro e w14 ⟨rfl, hb⟩
  have c1_0_0 := (hb.cell (p := ⟨w.heap.size, 0, none⟩) lt_c1_0_0).trans c1_0_0
  have c1_0_1 := (hb.cell (p := ⟨w.heap.size, 1, none⟩) lt_c1_0_1).trans c1_0_1
  have c1_1_0 := (hb.cell (p := ⟨w.heap.size + 1, 0, none⟩) lt_c1_1_0).trans c1_1_0
  have c1_1_1 := (hb.cell (p := ⟨w.heap.size + 1, 1, none⟩) lt_c1_1_1).trans c1_1_1
  have c1_2_0 := (hb.cell (p := ⟨w.heap.size + 1 + 1, 0, none⟩) lt_c1_2_0).trans c1_2_0
  have c1_2_1 := (hb.cell (p := ⟨w.heap.size + 1 + 1, 1, none⟩) lt_c1_2_1).trans c1_2_1
  have c9_0_0 := (hb.cell (p := ⟨w8.heap.size, 0, none⟩) lt_c9_0_0).trans c9_0_0
  have c9_0_1 := (hb.cell (p := ⟨w8.heap.size, 1, none⟩) lt_c9_0_1).trans c9_0_1
  have c12_0_0 := (hb.cell (p := ⟨w11.heap.size, 0, none⟩) lt_c12_0_0).trans c12_0_0
  have c12_0_1 := (hb.cell (p := ⟨w11.heap.size, 1, none⟩) lt_c12_0_1).trans c12_0_1
  have c13_0_0 := (hb.cell (p := ⟨w12.heap.size, 0, none⟩) lt_c13_0_0).trans c13_0_0
  have c13_0_1 := (hb.cell (p := ⟨w12.heap.size, 1, none⟩) lt_c13_0_1).trans c13_0_1
  have hz := bsize hb
  try simp at hz
  have lt_c1_0_0 : w.heap.size < w14.heap.size := by omega
  have lt_c1_0_1 : w.heap.size < w14.heap.size := by omega
  have lt_c1_1_0 : w.heap.size + 1 < w14.heap.size := by omega
  have lt_c1_1_1 : w.heap.size + 1 < w14.heap.size := by omega
  have lt_c1_2_0 : w.heap.size + 1 + 1 < w14.heap.size := by omega
  have lt_c1_2_1 : w.heap.size + 1 + 1 < w14.heap.size := by omega
  have lt_c9_0_0 : w8.heap.size < w14.heap.size := by omega
  have lt_c9_0_1 : w8.heap.size < w14.heap.size := by omega
  have lt_c12_0_0 : w11.heap.size < w14.heap.size := by omega
  have lt_c12_0_1 : w11.heap.size < w14.heap.size := by omega
  have lt_c13_0_0 : w12.heap.size < w14.heap.size := by omega
  have lt_c13_0_1 : w12.heap.size < w14.heap.size := by omega
  have hB := HB.out.trans (hb.mono HB.out.size)
  clear HB
  have HB := Lib.hid hB
  clear hB
  clear hb hz
  go_wp2
  go_ret
  have hB := HB.out
  exact ⟨rfl, (by repeat (first | with_reducible exact Below.refl _ _ | (with_reducible refine Below.setCell ?_ (by first | exact Nat.le_refl _ | omega | (simp; done) | (simp; omega)) _) | (with_reducible refine Below.alloc ?_ (by first | exact Nat.le_refl _ | omega | (simp; done) | (simp; omega)) _) | with_reducible refine Below.drew ?_ | with_reducible refine bel_drewN ?_ _ | (with_reducible refine bel_by (by with_reducible assumption) (by first | exact Nat.le_refl _ | omega | (simp; done) | (simp; omega)) ?_)))⟩

theorem order_walk (an ad bn bd cn cd : Int) (A1 : -9223372036854775808 ≤ an) (A2 : an ≤ 9223372036854775807) (A3 : -9223372036854775808 ≤ ad) (A4 : ad ≤ 9223372036854775807) (B1 : -9223372036854775808 ≤ bn) (B2 : bn ≤ 9223372036854775807) (B3 : -9223372036854775808 ≤ bd) (B4 : bd ≤ 9223372036854775807) (D1 : -9223372036854775808 ≤ cn) (D2 : cn ≤ 9223372036854775807) (D3 : -9223372036854775808 ≤ cd) (D4 : cd ≤ 9223372036854775807) (w : World) (ht : TabW w) :
    Calls Tryd.prog 7 #[.agg #[.int .i64 an, .int .i64 ad], .agg #[.int .i64 bn, .int .i64 bd], .agg #[.int .i64 cn, .int .i64 cd]] w fun e w' => e = .returned (.bool true) ∧ Below w.heap.size w w' := by
  cases av : vldI an ad <;> cases bv : vldI bn bd
  case true.true => exact order_yes an ad bn bd cn cd A1 A2 A3 A4 B1 B2 B3 B4 D1 D2 D3 D4 av bv w ht
  case false.false => exact order_no an ad bn bd cn cd A1 A2 A3 A4 B1 B2 B3 B4 D1 D2 D3 D4 _ _ 0 av bv (by unfold cmpS; rw [av, bv]; rfl) (Or.inl ⟨rfl, rfl, rfl⟩) w ht
  case false.true => exact order_no an ad bn bd cn cd A1 A2 A3 A4 B1 B2 B3 B4 D1 D2 D3 D4 _ _ (-1) av bv (by unfold cmpS; rw [av, bv]; rfl) (Or.inr (Or.inl ⟨rfl, rfl, rfl⟩)) w ht
  case true.false => exact order_no an ad bn bd cn cd A1 A2 A3 A4 B1 B2 B3 B4 D1 D2 D3 D4 _ _ 1 av bv (by unfold cmpS; rw [av, bv]; rfl) (Or.inr (Or.inr ⟨rfl, rfl, rfl⟩)) w ht
end Go.Proofs.YtfdalnkdeeminaaDoor
