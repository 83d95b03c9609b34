/- awake: the example of the chapter. -/
import Derived.Test.YtpcdbnlljdfogaaVio
import Derived.Test.YtpcdbnlljdfogaaPrv
import Derived.Test.YtpcdbnlljdfogaaSam
set_option linter.unusedSimpArgs false
set_option linter.unusedVariables false
namespace Go.Proofs.Ytpcdbnlljdfogaa
open Go.RowKit

def g0 (b : Nat) : Gph := ⟨[1, 1], [1], [(0, 0), (1, 0)], some ⟨b, 0, none⟩, b, 0, 2, some ⟨b + 1, 0, none⟩, b + 1, 0, 1, some ⟨b + 1 + 1, 0, none⟩, b + 1 + 1, 0, 2⟩
theorem g0_chk (b : Nat) : chk (g0 b) = 0 := by kernel_rfl
def R0 : List Int := [0, 1, 1, 0, 0, 1, 1, 0, 0, 1]
theorem g0_fill (b : Nat) : fillG (g0 b) 10 10 = some R0 := by kernel_rfl
theorem g0_gre (b : Nat) : greG (g0 b) 10 10 = some [0] := by kernel_rfl
theorem g0_covL (b : Nat) : covL (g0 b) R0 = [] := by kernel_rfl
theorem g0_covR (b : Nat) : covR (g0 b) R0 = [0] := by kernel_rfl
theorem g0_vioL (b : Nat) : vioL (g0 b) R0 = [0, 1] := by kernel_rfl
theorem g0_vioE (b : Nat) : vioE (g0 b) R0 = 0 := by kernel_rfl
theorem g0_prv (b : Nat) (a1 a2 : Option Addr) (b1 o1 c1 b2 o2 c2 : Nat) : prvB (g0 b) [0] ⟨[], [0], a1, b1, o1, c1, a2, b2, o2, c2⟩ = true := by
  kernel_rfl
theorem nw_one (w : World) (x : Int) : SlI (w.alloc (.cells #[.int .i64 x] 3)) (some ⟨w.heap.size, 0, none⟩) w.heap.size 0 1 1 [x] := by
  refine ⟨rfl, fun _ => rfl, fun _ => by simp, Nat.le_refl _, by unfold maxLen; omega, (fun h => by cases h), fun k hk => ?_⟩
  match k, hk with
  | 0, _ => simp [go_sem]
  | k + 1, hk => exact absurd hk (by simp)
theorem nw_two (w : World) (x y : Int) : SlI (w.alloc (.cells #[.int .i64 x, .int .i64 y] 3)) (some ⟨w.heap.size, 0, none⟩) w.heap.size 0 2 2 [x, y] := by
  refine ⟨rfl, fun _ => rfl, fun _ => by simp, Nat.le_refl _, by unfold maxLen; omega, (fun h => by cases h), fun k hk => ?_⟩
  match k, hk with
  | 0, _ => simp [go_sem]
  | 1, _ => simp [go_sem]
  | k + 2, hk => exact absurd hk (by simp)
set_option maxHeartbeats 16000000 in
set_option maxRecDepth 100000 in
theorem awk_any (w : World) : Calls Try.prog 11 #[] w fun e w' => e = .returned (.bool true) ∧ Below w.heap.size w w' := by
  have HG := Lib.hid (fun W hg => gre_any (g0 w.heap.size) W hg (g0_chk _) 10 10 [0] (g0_gre _))
  have HC := Lib.hid (fun W hg => cov_any (g0 w.heap.size) W hg (g0_chk _) 10 10 R0 (g0_fill _))
  have HV := Lib.hid (fun W hg => vio_any (g0 w.heap.size) W hg (g0_chk _) 10 10 R0 (g0_fill _))
  rw [g0_covL, g0_covR] at HC
  rw [g0_vioL, g0_vioE] at HV
  unfold Gph.val at HG HC HV
  go_enter Try.func11, Try.ntmps11
  go_wp2_with fail
  obtain ⟨W4, hW4⟩ : ∃ W4, W4 = (((w.alloc (.cells #[.int .i64 1, .int .i64 1] 3)).alloc (.cells #[.int .i64 1] 3)).alloc (.cells #[.int .i64 0, .int .i64 0, .int .i64 1, .int .i64 0] 52)).alloc (.cells #[.slice (some ⟨w.heap.size, 0, none⟩) 2 2, .slice (some ⟨w.heap.size + 1, 0, none⟩) 1 1, .slice (some ⟨w.heap.size + 1 + 1, 0, none⟩) 2 2] 25) := ⟨_, rfl⟩
  rw [← hW4]
  have hs4 : W4.heap.size = w.heap.size + 1 + 1 + 1 + 1 := by rw [hW4]; simp
  have HB4 := Lib.hid (show Below w.heap.size w W4 by rw [hW4]; exact ((((Below.refl w.heap.size w).alloc (by simp) _).alloc (by simp) _).alloc (by simp; omega) _).alloc (by simp; omega) _)
  have HGp := Lib.hid (show GpAt W4 (g0 w.heap.size) by
    refine ⟨⟨rfl, fun _ => rfl, fun _ => by show w.heap.size < _; omega, Nat.le_refl _, by show 2 ≤ maxLen; unfold maxLen; omega, (fun h => by cases h), ?_⟩, ⟨rfl, fun _ => rfl, fun _ => by show w.heap.size + 1 < _; omega, Nat.le_refl _, by show 1 ≤ maxLen; unfold maxLen; omega, (fun h => by cases h), ?_⟩, ⟨rfl, fun _ => rfl, fun _ => by show w.heap.size + 1 + 1 < _; omega, Nat.le_refl _, by show 2 ≤ maxLen; unfold maxLen; omega, ?_, ?_⟩⟩
    · intro k hk
      show W4.cell? ⟨w.heap.size, 0 + k, none⟩ = _
      match k, hk with
      | 0, _ => rw [hW4]; simp [go_sem, g0]
      | 1, _ => rw [hW4]; simp [go_sem, g0]
      | k + 2, hk => exact absurd hk (by simp [g0])
    · intro k hk
      show W4.cell? ⟨w.heap.size + 1, 0 + k, none⟩ = _
      match k, hk with
      | 0, _ => rw [hW4]; simp [go_sem, g0]
      | k + 1, hk => exact absurd hk (by simp [g0])
    · intro k hk
      show W4.cell? ⟨w.heap.size + 1 + 1, 0 + k * 2, none⟩ = _
      match k, hk with
      | 0, _ => rw [hW4]; simp [go_sem, g0]
      | 1, _ => rw [hW4]; simp [go_sem, g0]
      | k + 2, hk => exact absurd hk (by simp [g0])
    · intro k hk
      show W4.cell? ⟨w.heap.size + 1 + 1, 0 + k * 2 + 1, none⟩ = _
      match k, hk with
      | 0, _ => rw [hW4]; simp [go_sem, g0]
      | 1, _ => rw [hW4]; simp [go_sem, g0]
      | k + 2, hk => exact absurd hk (by simp [g0]))
  have b0 : W4.cell? ⟨w.heap.size + 1 + 1 + 1, 0, none⟩ = some (.slice (some ⟨w.heap.size, 0, none⟩) 2 2) := by rw [hW4]; simp [go_sem]
  have b1 : W4.cell? ⟨w.heap.size + 1 + 1 + 1, 1, none⟩ = some (.slice (some ⟨w.heap.size + 1, 0, none⟩) 1 1) := by rw [hW4]; simp [go_sem]
  have b2 : W4.cell? ⟨w.heap.size + 1 + 1 + 1, 2, none⟩ = some (.slice (some ⟨w.heap.size + 1 + 1, 0, none⟩) 2 2) := by rw [hW4]; simp [go_sem]
  have hb4 : w.heap.size + 1 + 1 + 1 < W4.heap.size := by omega
  have hw4 : w.heap.size ≤ W4.heap.size := by omega
  have HG4 := Lib.hid (HG.out W4 HGp.out)
  clear hW4 hs4 HG
  refine HG4.out.mono ?_
  rintro e w5 ⟨v, rfl, ho, hb5⟩
  obtain ⟨am, bm, cm, rfl, hsm, -⟩ := own_sli ho
  have HSm := Lib.hid hsm
  have HB5 := Lib.hid (HB4.out.trans (hb5.mono hw4))
  have HGp5 := Lib.hid (HGp.out.keep hb5)
  replace b0 := (hb5.cell (p := ⟨w.heap.size + 1 + 1 + 1, 0, none⟩) hb4).trans b0
  replace b1 := (hb5.cell (p := ⟨w.heap.size + 1 + 1 + 1, 1, none⟩) hb4).trans b1
  replace b2 := (hb5.cell (p := ⟨w.heap.size + 1 + 1 + 1, 2, none⟩) hb4).trans b2
  have hb5' := Nat.lt_of_lt_of_le hb4 hb5.size
  have hw5 : w.heap.size ≤ w5.heap.size := HB5.out.size
  have HC5 := Lib.hid (HC.out w5 HGp5.out)
  clear ho hb5 hsm hb4 hw4 HG4 HB4 HGp HC
  go_wp2_with fail
  refine HC5.out.mono ?_
  rintro e w6 ⟨v1, v2, rfl, ho1, ho2, hb6⟩
  obtain ⟨a1, d1, c1, rfl, hs1, -⟩ := own_sli ho1
  obtain ⟨a2, d2, c2, rfl, hs2, -⟩ := own_sli ho2
  have hb7 := hb6.alloc hb6.size (.cells #[.slice a1 ([] : List Int).length c1, .slice a2 [(0 : Int)].length c2] 36)
  have hn7 := (Below.refl w6.heap.size w6).alloc (Nat.le_refl _) (.cells #[.slice a1 ([] : List Int).length c1, .slice a2 [(0 : Int)].length c2] 36)
  obtain ⟨W7, hW7⟩ : ∃ W7, W7 = w6.alloc (.cells #[.slice a1 ([] : List Int).length c1, .slice a2 [(0 : Int)].length c2] 36) := ⟨_, rfl⟩
  rw [← hW7] at hb7 hn7
  have k0 : W7.cell? ⟨w6.heap.size, 0, none⟩ = some (.slice a1 0 c1) := by rw [hW7]; simp [go_sem]
  have k1 : W7.cell? ⟨w6.heap.size, 1, none⟩ = some (.slice a2 1 c2) := by rw [hW7]; simp [go_sem]
  have hk7 : w6.heap.size < W7.heap.size := by rw [hW7]; simp
  have HSm7 := Lib.hid (HSm.out.keep hb7)
  have HS17 := Lib.hid (hs1.keep hn7)
  have HS27 := Lib.hid (hs2.keep hn7)
  have HB7 := Lib.hid (HB5.out.trans (hb7.mono hw5))
  have HGp7 := Lib.hid (HGp5.out.keep hb7)
  have B0 := Lib.hid ((hb7.cell (p := ⟨w.heap.size + 1 + 1 + 1, 0, none⟩) hb5').trans b0)
  have B1 := Lib.hid ((hb7.cell (p := ⟨w.heap.size + 1 + 1 + 1, 1, none⟩) hb5').trans b1)
  have B2 := Lib.hid ((hb7.cell (p := ⟨w.heap.size + 1 + 1 + 1, 2, none⟩) hb5').trans b2)
  have K0 := Lib.hid k0
  have K1 := Lib.hid k1
  replace b0 := (hb6.cell (p := ⟨w.heap.size + 1 + 1 + 1, 0, none⟩) hb5').trans b0
  replace b1 := (hb6.cell (p := ⟨w.heap.size + 1 + 1 + 1, 1, none⟩) hb5').trans b1
  replace b2 := (hb6.cell (p := ⟨w.heap.size + 1 + 1 + 1, 2, none⟩) hb5').trans b2
  have hb6' := Nat.lt_of_lt_of_le hb5' hb6.size
  have hb7' := Nat.lt_of_lt_of_le hb5' hb7.size
  have hw7 : w.heap.size ≤ W7.heap.size := HB7.out.size
  have HV7 := Lib.hid (HV.out W7 HGp7.out)
  simp only [List.length_nil, List.length_singleton] at hW7
  have HW7 := Lib.hid hW7
  clear ho1 ho2 hb6 hb7 hn7 hs1 hs2 hb5' hw5 HC5 HSm HGp5 HB5 HV hW7 k0 k1
  go_wp2_with fail
  rw [← HW7.out]
  refine HV7.out.mono ?_
  rintro e w8 ⟨v3, rfl, ho3, hb8⟩
  obtain ⟨a3, d3, c3, rfl, hs3, -⟩ := own_sli ho3
  have HS38 := Lib.hid hs3
  have HSm8 := Lib.hid (HSm7.out.keep hb8)
  have HS18 := Lib.hid (HS17.out.keep hb8)
  have HS28 := Lib.hid (HS27.out.keep hb8)
  have HB8 := Lib.hid (HB7.out.trans (hb8.mono hw7))
  have HGp8 := Lib.hid (HGp7.out.keep hb8)
  replace b0 := (hb8.cell (p := ⟨w.heap.size + 1 + 1 + 1, 0, none⟩) hb7').trans B0.out
  replace b1 := (hb8.cell (p := ⟨w.heap.size + 1 + 1 + 1, 1, none⟩) hb7').trans B1.out
  replace b2 := (hb8.cell (p := ⟨w.heap.size + 1 + 1 + 1, 2, none⟩) hb7').trans B2.out
  have k0 := (hb8.cell (p := ⟨w6.heap.size, 0, none⟩) hk7).trans K0.out
  have k1 := (hb8.cell (p := ⟨w6.heap.size, 1, none⟩) hk7).trans K1.out
  have hb8' := Nat.lt_of_lt_of_le hb7' hb8.size
  have hk8 := Nat.lt_of_lt_of_le hk7 hb8.size
  have hw8 : w.heap.size ≤ w8.heap.size := HB8.out.size
  clear ho3 hb8 hs3 HSm7 HS17 HS27 HB7 HGp7 B0 B1 B2 K0 K1 HW7 HV7 hb7' hk7 hw7 hb6'
  go_wp2_with fail
  have hbn9 := (Below.refl w8.heap.size w8).alloc (Nat.le_refl _) (.cells #[.int .i64 0] 3)
  refine (same_any (HSm8.out.keep hbn9) (nw_one w8 0)).mono ?_
  rintro e w9' ⟨rfl, q9, hw9⟩
  have hbm9 : Below w8.heap.size w8 w9' := by rw [hw9]; exact bel_drewN hbn9 q9
  clear hw9 hbn9
  have HSm9 := Lib.hid (HSm8.out.keep hbm9)
  have HS19 := Lib.hid (HS18.out.keep hbm9)
  have HS29 := Lib.hid (HS28.out.keep hbm9)
  have HS39 := Lib.hid (HS38.out.keep hbm9)
  have HB9 := Lib.hid (HB8.out.trans (hbm9.mono hw8))
  have HGp9 := Lib.hid (HGp8.out.keep hbm9)
  replace b0 := (hbm9.cell (p := ⟨w.heap.size + 1 + 1 + 1, 0, none⟩) hb8').trans b0
  replace b1 := (hbm9.cell (p := ⟨w.heap.size + 1 + 1 + 1, 1, none⟩) hb8').trans b1
  replace b2 := (hbm9.cell (p := ⟨w.heap.size + 1 + 1 + 1, 2, none⟩) hb8').trans b2
  replace k0 := (hbm9.cell (p := ⟨w6.heap.size, 0, none⟩) hk8).trans k0
  replace k1 := (hbm9.cell (p := ⟨w6.heap.size, 1, none⟩) hk8).trans k1
  have hb9' := Nat.lt_of_lt_of_le hb8' hbm9.size
  have hk9 := Nat.lt_of_lt_of_le hk8 hbm9.size
  have hw9 : w.heap.size ≤ w9'.heap.size := HB9.out.size
  clear hbm9 HSm8 HS18 HS28 HS38 HB8 HGp8 hb8' hk8 hw8
  go_wp2_with fail
  have hbn10 := (Below.refl w9'.heap.size w9').alloc (Nat.le_refl _) (.cells #[.int .i64 0] 3)
  refine (same_any (HS29.out.keep hbn10) (nw_one w9' 0)).mono ?_
  rintro e w10' ⟨rfl, q10, hw10⟩
  have hbm10 : Below w9'.heap.size w9' w10' := by rw [hw10]; exact bel_drewN hbn10 q10
  clear hw10 hbn10
  have HSm10 := Lib.hid (HSm9.out.keep hbm10)
  have HS110 := Lib.hid (HS19.out.keep hbm10)
  have HS210 := Lib.hid (HS29.out.keep hbm10)
  have HS310 := Lib.hid (HS39.out.keep hbm10)
  have HB10 := Lib.hid (HB9.out.trans (hbm10.mono hw9))
  have HGp10 := Lib.hid (HGp9.out.keep hbm10)
  replace b0 := (hbm10.cell (p := ⟨w.heap.size + 1 + 1 + 1, 0, none⟩) hb9').trans b0
  replace b1 := (hbm10.cell (p := ⟨w.heap.size + 1 + 1 + 1, 1, none⟩) hb9').trans b1
  replace b2 := (hbm10.cell (p := ⟨w.heap.size + 1 + 1 + 1, 2, none⟩) hb9').trans b2
  replace k0 := (hbm10.cell (p := ⟨w6.heap.size, 0, none⟩) hk9).trans k0
  replace k1 := (hbm10.cell (p := ⟨w6.heap.size, 1, none⟩) hk9).trans k1
  have hb10' := Nat.lt_of_lt_of_le hb9' hbm10.size
  have hk10 := Nat.lt_of_lt_of_le hk9 hbm10.size
  have hw10 : w.heap.size ≤ w10'.heap.size := HB10.out.size
  clear hbm10 HSm9 HS19 HS29 HS39 HB9 HGp9 hb9' hk9 hw9
  go_wp2_with fail
  have hbn11 := (Below.refl w10'.heap.size w10').alloc (Nat.le_refl _) (.cells #[.int .i64 0, .int .i64 1] 3)
  refine (same_any (HS310.out.keep hbn11) (nw_two w10' 0 1)).mono ?_
  rintro e w11' ⟨rfl, q11, hw11⟩
  have hbm11 : Below w10'.heap.size w10' w11' := by rw [hw11]; exact bel_drewN hbn11 q11
  clear hw11 hbn11
  have HSm11 := Lib.hid (HSm10.out.keep hbm11)
  have HS111 := Lib.hid (HS110.out.keep hbm11)
  have HS211 := Lib.hid (HS210.out.keep hbm11)
  have HS311 := Lib.hid (HS310.out.keep hbm11)
  have HB11 := Lib.hid (HB10.out.trans (hbm11.mono hw10))
  have HGp11 := Lib.hid (HGp10.out.keep hbm11)
  replace b0 := (hbm11.cell (p := ⟨w.heap.size + 1 + 1 + 1, 0, none⟩) hb10').trans b0
  replace b1 := (hbm11.cell (p := ⟨w.heap.size + 1 + 1 + 1, 1, none⟩) hb10').trans b1
  replace b2 := (hbm11.cell (p := ⟨w.heap.size + 1 + 1 + 1, 2, none⟩) hb10').trans b2
  replace k0 := (hbm11.cell (p := ⟨w6.heap.size, 0, none⟩) hk10).trans k0
  replace k1 := (hbm11.cell (p := ⟨w6.heap.size, 1, none⟩) hk10).trans k1
  have hb11' := Nat.lt_of_lt_of_le hb10' hbm11.size
  have hk11 := Nat.lt_of_lt_of_le hk10 hbm11.size
  have hw11 : w.heap.size ≤ w11'.heap.size := HB11.out.size
  clear hbm11 HSm10 HS110 HS210 HS310 HB10 HGp10 hb10' hk10 hw10
  go_wp2_with fail
  have HPr := prv_any (g0 w.heap.size) ⟨[], [0], a1, d1, 0, c1, a2, d2, 0, c2⟩ w11' HGp11.out ⟨HS111.out, HS211.out⟩ HSm11.out
  rw [g0_prv] at HPr
  refine HPr.mono ?_
  rintro e w12 ⟨rfl, hb12⟩
  have HB12 := Lib.hid (HB11.out.trans (hb12.mono hw11))
  clear hb12 HPr
  go_wp2_with fail
  go_ret
  exact ⟨rfl, HB12.out⟩
end Go.Proofs.Ytpcdbnlljdfogaa
