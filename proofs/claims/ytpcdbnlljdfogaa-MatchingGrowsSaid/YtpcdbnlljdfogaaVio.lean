/- Violator: the left vertices outside of the cover. -/
import Derived.Test.YtpcdbnlljdfogaaCov
set_option linter.unusedSimpArgs false
set_option linter.unusedVariables false
namespace Go.Proofs.Ytpcdbnlljdfogaa
open Go.RowKit

def vioL (g : Gph) (R : List Int) : List Int := selN (fun i => !(covL g R).contains (i : Int)) g.L.length
def vioE (g : Gph) (R : List Int) : Int := if (vioL g R).length = 0 then 8 else 0
set_option maxHeartbeats 8000000 in
set_option maxRecDepth 100000 in
theorem vio_no (g : Gph) (w : World) (hg : GpAt w g) (hc : chk g ≠ 0) :
    Calls Try.prog 20 #[g.val] w fun e w' => e = .returned (.tuple #[.slice none 0 0, .int .i64 (chk g)]) ∧ Below w.heap.size w w' := by
  have HB := Lib.hid ((Below.refl w.heap.size w).alloc (Nat.le_refl _) (gBox g))
  have HCk := Lib.hid (cov_no g _ (hg.keep HB.out) hc)
  have hz : (chk g != 0) = true := by simpa using hc
  have hs0 : w.heap.size ≤ (w.alloc (gBox g)).heap.size := HB.out.size
  clear hg hc
  unfold Gph.val at HCk ⊢
  unfold gBox at HB HCk hs0
  generalize chk g = f at *
  go_enter Try.func20, Try.ntmps20
  go_wp2_with fail
  refine HCk.out.mono ?_
  rintro e w1 ⟨rfl, hb1⟩
  have HB1 := Lib.hid ((HB.out.trans (hb1.mono hs0)).alloc (Nat.le_trans hs0 hb1.size) (.cells #[.slice none 0 0, .slice none 0 0] 36))
  clear hb1
  go_wp2_with fail
  go_ret2
  exact ⟨rfl, HB1.out⟩
set_option maxHeartbeats 8000000 in
set_option maxRecDepth 100000 in
theorem vio_any (g : Gph) (w : World) (hg : GpAt w g) (hc : chk g = 0) (F K : Nat) (Rf : List Int) (hf : fillG g F K = some Rf) :
    Calls Try.prog 20 #[g.val] w fun e w' => ∃ v, e = .returned (.tuple #[v, .int .i64 (vioE g Rf)]) ∧ OwI w' w.heap.size v (vioL g Rf).length (vioL g Rf) ∧ Below w.heap.size w w' := by
  have HB := Lib.hid ((Below.refl w.heap.size w).alloc (Nat.le_refl _) (gBox g))
  have HGB := Lib.hid (gb_new w g 25)
  have HCk := Lib.hid (cov_any g _ (hg.keep HB.out) hc F K Rf hf)
  have hs0 : w.heap.size + 1 ≤ (w.alloc (gBox g)).heap.size := by simp
  have HV := Lib.hid (show vioL g Rf = selN (fun i => !(covL g Rf).contains (i : Int)) g.L.length from rfl)
  have HE := Lib.hid (show vioE g Rf = if (vioL g Rf).length = 0 then 8 else 0 from rfl)
  obtain ⟨l1, l2, l3, _⟩ := chk_ok hc
  have hcl : (covL g Rf).length ≤ 64 := Nat.le_trans (selN_len _ _) l1
  clear hg hc hf
  unfold Gph.val at HCk ⊢
  unfold gBox at HB HCk hs0 HGB
  generalize covL g Rf = CL at *
  obtain ⟨VL, hVL⟩ : ∃ y, y = vioL g Rf := ⟨_, rfl⟩
  rw [← hVL] at HV HE ⊢
  clear hVL
  generalize covR g Rf = CR at *
  generalize hve : vioE g Rf = ve at *
  go_enter Try.func20, Try.ntmps20
  go_wp2_with fail
  refine HCk.out.mono ?_
  rintro e w1 ⟨v1, v2, rfl, ho1, ho2, hb1⟩
  obtain ⟨a1, b1, c1, rfl, hs1, _⟩ := own_sli ho1
  obtain ⟨a2, c2, rfl, _⟩ := own_shape ho2
  have hsz := hb1.size
  have HB1 := Lib.hid ((HB.out.trans (hb1.mono (Nat.le_of_succ_le hs0))).alloc (by omega) (.cells #[.slice a1 CL.length c1, .slice a2 CR.length c2] 36))
  have HGB1 := Lib.hid ((HGB.out.keep hb1).keep ((Below.refl _ _).alloc (Nat.le_refl _) (.cells #[.slice a1 CL.length c1, .slice a2 CR.length c2] 36)))
  have HS1 := Lib.hid (hs1.keep ((Below.refl _ _).alloc (Nat.le_refl _) (.cells #[.slice a1 CL.length c1, .slice a2 CR.length c2] 36)))
  have cb := show (w1.alloc (.cells #[.slice a1 CL.length c1, .slice a2 CR.length c2] 36)).cell? ⟨w1.heap.size, 0, none⟩ = some (.slice a1 CL.length c1) by simp [go_sem]
  have HC := Lib.hid (idxC_any (fun i => !CL.contains (i : Int)) g.aL g.L.length g.cL (w1.alloc (.cells #[.slice a1 CL.length c1, .slice a2 CR.length c2] 36)) w1.heap.size (by omega) (fun i V hi hV =>
    vio1_any V w1.heap.size (i : Int) ((hV.cell (p := ⟨w1.heap.size, 0, none⟩) (by simp)).trans cb) (HS1.out.keep hV)))
  rw [← HV.out] at HC
  clear ho1 ho2 hb1 HCk HB HGB hs1 HS1 cb
  obtain ⟨g0, g1, g2, gl⟩ := HGB1.out
  go_wp2_with fail
  refine HC.out.mono ?_
  rintro e w2 ⟨v, rfl, ho, hb2⟩
  have hs2 : w.heap.size ≤ (w1.alloc (.cells #[.slice a1 CL.length c1, .slice a2 CR.length c2] 36)).heap.size := HB1.out.size
  have HO := Lib.hid (ho.mono hs2)
  have HB2 := Lib.hid (HB1.out.trans (hb2.mono hs2))
  obtain ⟨a3, c3, rfl, -⟩ := own_shape ho
  clear ho hb2 HC g0 g1 g2 gl
  by_cases hv : VL.length = 0
  · have hz : ((VL.length : Int) == 0) = true := by simp [hv]
    have hve8 : ve = 8 := by rw [HE.out, if_pos hv]
    have HN := Lib.hid (show OwI w2 w.heap.size (.slice none 0 0) VL.length VL by
      have : VL = [] := List.eq_nil_of_length_eq_zero hv
      subst this
      exact World.ownsRow_nil _ _ _ _)
    subst hve8
    clear hve HO hv
    go_wp2_with fail
    go_ret2
    exact ⟨_, rfl, HN.out, HB2.out⟩
  · have hz : ((VL.length : Int) == 0) = false := by simp; intro h; exact hv (by rw [h]; rfl)
    have hve0 : ve = 0 := by rw [HE.out, if_neg hv]
    subst hve0
    clear hve hv
    go_wp2_with fail
    go_ret2
    exact ⟨_, rfl, HO.out, HB2.out⟩
end Go.Proofs.Ytpcdbnlljdfogaa
