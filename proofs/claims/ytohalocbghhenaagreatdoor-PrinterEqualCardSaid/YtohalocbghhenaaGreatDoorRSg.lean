/- The reference's sign and atom. -/
import Derived.Test.YtohalocbghhenaaGreatDoorAtom
set_option linter.unusedSimpArgs false
set_option linter.unusedVariables false
namespace Go.Proofs.YtohalocbghhenaaGreatDoor
open Go.RowKit

set_option maxHeartbeats 2000000 in
set_option maxRecDepth 100000 in
theorem rsign_any10 (t : Tk) (x : ByteArray) (w : World) : Calls Tryz.prog 76 #[t.val, .string x] w fun e w' => e = .returned (.bool (sgnS t x)) ∧ Below w.heap.size w w' := by
  unfold sgnS
  obtain ⟨k, s, n, a⟩ := t
  simp only [Tk.val]
  by_cases h : k = 4
  · subst h
    go_enter Tryz.func76, Tryz.ntmps76
    go_wp2_with fail
    obtain ⟨c0, c1, c2, c3, cf, cl⟩ := tk_new w ⟨4, s, n, a⟩ 51
    go_wp2_with fail
    go_ret
    exact ⟨ret_bool (str_beq _ _), (by repeat (first | with_reducible exact Below.refl _ _ | (with_reducible refine Below.setCell ?_ (by first | exact Nat.le_refl _ | omega | (simp; done) | (simp; omega)) _) | (with_reducible refine Below.alloc ?_ (by first | exact Nat.le_refl _ | omega | (simp; done) | (simp; omega)) _) | with_reducible refine Below.drew ?_ | with_reducible refine bel_drewN ?_ _ | (with_reducible refine bel_by (by with_reducible assumption) (by first | exact Nat.le_refl _ | omega | (simp; done) | (simp; omega)) ?_)))⟩
  · have hk : (k == 4) = false := by simpa using h
    go_enter Tryz.func76, Tryz.ntmps76
    go_wp2_with fail
    obtain ⟨c0, c1, c2, c3, cf, cl⟩ := tk_new w ⟨k, s, n, a⟩ 51
    go_wp2_with fail
    go_ret
    exact ⟨rfl, (by repeat (first | with_reducible exact Below.refl _ _ | (with_reducible refine Below.setCell ?_ (by first | exact Nat.le_refl _ | omega | (simp; done) | (simp; omega)) _) | (with_reducible refine Below.alloc ?_ (by first | exact Nat.le_refl _ | omega | (simp; done) | (simp; omega)) _) | with_reducible refine Below.drew ?_ | with_reducible refine bel_drewN ?_ _ | (with_reducible refine bel_by (by with_reducible assumption) (by first | exact Nat.le_refl _ | omega | (simp; done) | (simp; omega)) ?_)))⟩
set_option maxHeartbeats 4000000 in
set_option maxRecDepth 100000 in
theorem ratom_any10 (t : Tk) (w : World) : Calls Tryz.prog 55 #[t.val] w fun e w' => e = .returned (.bool (atmB t)) ∧ Below w.heap.size w w' := by
  have HS := Lib.hid (fun x W => rsign_any10 t x W)
  have H1 := Lib.hid (sgnS_bs t 59)
  have H2 := Lib.hid (sgnS_bs t 123)
  have H3 := Lib.hid (sgnS_bs t 125)
  unfold bs at H1 H2 H3
  unfold atmB
  obtain ⟨k, s, n, a⟩ := t
  simp only [Tk.val] at HS ⊢
  by_cases h : k = 5
  · subst h
    clear HS H1 H2 H3
    go_enter Tryz.func55, Tryz.ntmps55
    go_wp2_with fail
    obtain ⟨c0, c1, c2, c3, cf, cl⟩ := tk_new w ⟨5, s, n, a⟩ 51
    go_wp2_with fail
    go_ret
    exact ⟨rfl, (by repeat (first | with_reducible exact Below.refl _ _ | (with_reducible refine Below.setCell ?_ (by first | exact Nat.le_refl _ | omega | (simp; done) | (simp; omega)) _) | (with_reducible refine Below.alloc ?_ (by first | exact Nat.le_refl _ | omega | (simp; done) | (simp; omega)) _) | with_reducible refine Below.drew ?_ | with_reducible refine bel_drewN ?_ _ | (with_reducible refine bel_by (by with_reducible assumption) (by first | exact Nat.le_refl _ | omega | (simp; done) | (simp; omega)) ?_)))⟩
  · have hk : (k == 5) = false := by simpa using h
    have hk' : (k != 5) = true := by simp [h]
    rw [hk', Bool.true_and]
    go_enter Tryz.func55, Tryz.ntmps55
    go_wp2_with fail
    have HK := Lib.hid (tk_new w ⟨k, s, n, a⟩ 51)
    have HB := Lib.hid (show Below w.heap.size w (w.alloc (.cells #[.int .i64 k, .string s, .int .i64 n, .int .i64 a] 51)) from (by repeat (first | with_reducible exact Below.refl _ _ | (with_reducible refine Below.setCell ?_ (by first | exact Nat.le_refl _ | omega | (simp; done) | (simp; omega)) _) | (with_reducible refine Below.alloc ?_ (by first | exact Nat.le_refl _ | omega | (simp; done) | (simp; omega)) _) | with_reducible refine Below.drew ?_ | with_reducible refine bel_drewN ?_ _ | (with_reducible refine bel_by (by with_reducible assumption) (by first | exact Nat.le_refl _ | omega | (simp; done) | (simp; omega)) ?_))))
    obtain ⟨c0, c1, c2, c3, cf, cl⟩ := HK.out
    go_wp2_with fail
    refine (HS.out _ _).mono ?_
    rintro e w1 ⟨rfl, hb1⟩
    have HB1 := Lib.hid (HB.out.trans (Below.mono hb1 HB.out.size))
    have HK1 := Lib.hid (HK.out.keep hb1)
    rw [H1.out]
    clear c0 c1 c2 c3 cf cl hb1 HK
    obtain ⟨c0, c1, c2, c3, cf, cl⟩ := HK1.out
    cases h1 : sgn ⟨k, s, n, a⟩ 59 with
    | true =>
      go_wp2_with fail
      go_ret
      exact ⟨by rw [h1]; rfl, HB1.out⟩
    | false =>
      go_wp2_with fail
      refine (HS.out _ _).mono ?_
      rintro e w2 ⟨rfl, hb2⟩
      have HB2 := Lib.hid (HB1.out.trans (Below.mono hb2 HB1.out.size))
      have HK2 := Lib.hid (HK1.out.keep hb2)
      rw [H2.out]
      clear c0 c1 c2 c3 cf cl hb2 HK1
      obtain ⟨c0, c1, c2, c3, cf, cl⟩ := HK2.out
      cases h2 : sgn ⟨k, s, n, a⟩ 123 with
      | true =>
        go_wp2_with fail
        go_ret
        exact ⟨by rw [h1, h2]; rfl, HB2.out⟩
      | false =>
        go_wp2_with fail
        refine (HS.out _ _).mono ?_
        rintro e w3 ⟨rfl, hb3⟩
        have HB3 := Lib.hid (HB2.out.trans (Below.mono hb3 HB2.out.size))
        rw [H3.out]
        clear c0 c1 c2 c3 cf cl hb3 HK2
        cases h3 : sgn ⟨k, s, n, a⟩ 125 <;>
          (go_wp2_with fail
           go_ret
           exact ⟨by rw [h1, h2, h3]; rfl, HB3.out⟩)
end Go.Proofs.YtohalocbghhenaaGreatDoor
