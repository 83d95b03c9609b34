/- preorder.Refine: where it refuses. -/
import Derived.Test.YtigibomcaecbdaaGreatRfn
set_option linter.unusedSimpArgs false
set_option linter.unusedVariables false
namespace Go.Proofs.YtigibomcaecbdaaGreat
open Go.RowKit Go.Sort

set_option maxHeartbeats 2000000 in
set_option maxRecDepth 100000 in
theorem refine_no {ap a : Option Addr} {gp op pl cp b off len cap : Nat} {P : List Int} {M : List Rw} {w : World} {c : Int} (hP : SlI w ap gp op pl cp P) (h : SlR w a b off len cap M)
    (hx : (chkL (crit M) = c ∧ c ≠ 0) ∨ (chkL (crit M) = 0 ∧ c = 1 ∧ pl ≠ len) ∨ (chkL (crit M) = 0 ∧ c = 1 ∧ pl = len ∧ pl ≤ 1000000 ∧ rnkB P = false)) :
    Calls Tryz.prog 28 #[.slice ap pl cp, .slice a len cap] w fun e w' => e = .returned (.tuple #[.slice none 0 0, .int .i64 c]) ∧ Below w.heap.size w w' := by
  have hl := h.sl.hl
  have hcap := h.sl.hcap
  have hmax := h.sl.hmax
  have hcp := hP.hcap
  have hmp := hP.hmax
  unfold maxLen at hmax hmp
  have hW : ∃ W : World, (w.alloc (.cells #[.slice ap pl cp] 31)).alloc (.cells #[.slice a len cap] 26) = W ∧ W.cell? ⟨w.heap.size, 0, none⟩ = some (.slice ap pl cp) ∧ W.cell? ⟨w.heap.size + 1, 0, none⟩ = some (.slice a len cap) ∧ W.heap.size = w.heap.size + 2 ∧ Below w.heap.size w W :=
    ⟨_, rfl, box2_fst w _ 31 _ 26, box2_snd w _ 31 _ 26, box2_size w (.slice ap pl cp) 31 (.slice a len cap) 26, (box2_grw w _ _ _ _).below⟩
  obtain ⟨W, hWe, z0, z1, hz, hB⟩ := hW
  have HWE := Lib.hid hWe
  have hck := check_any (h.keep hB)
  have HB := Lib.hid hB
  have HPI := Lib.hid hP
  clear hWe h hP hB
  rcases hx with ⟨h1, h0⟩ | ⟨h1, rfl, h2⟩ | ⟨h1, rfl, rfl, h2, h3⟩
  · rw [h1] at hck
    have HCK := Lib.hid hck
    have k0 : (c != 0) = true := by simpa using h0
    have k1 : (c == 0) = false := by simpa using h0
    clear hck h1 h0
    go_enter Tryz.func28, Tryz.ntmps28
    go_wp2_with fail
    rw [HWE.out]
    clear HWE
    go_wp2_with fail
    refine (HCK.out).mono ?_
    rintro e w1 ⟨rfl, hb⟩
    have HB1 := Lib.hid (HB.out.trans (hb.mono HB.out.size))
    clear hb z0 z1 HCK HB hz
    go_wp2
    go_ret2
    exact ⟨rfl, HB1.out⟩
  · rw [h1] at hck
    have HCK := Lib.hid hck
    have k0 : ((pl : Int) != (len : Int)) = true := by simp only [bne_iff_ne, ne_eq]; omega
    clear hck h1
    go_enter Tryz.func28, Tryz.ntmps28
    go_wp2_with fail
    rw [HWE.out]
    clear HWE
    go_wp2_with fail
    refine (HCK.out).mono ?_
    rintro e w1 ⟨rfl, hb⟩
    have y0 := (hb.cell (p := ⟨w.heap.size, 0, none⟩) (by show w.heap.size < _; omega)).trans z0
    have y1 := (hb.cell (p := ⟨w.heap.size + 1, 0, none⟩) (by show w.heap.size + 1 < _; omega)).trans z1
    have HB1 := Lib.hid (HB.out.trans (hb.mono HB.out.size))
    clear hb z0 z1 HCK HB hz
    go_wp2
    go_ret2
    exact ⟨rfl, HB1.out⟩
  · rw [h1] at hck
    have HCK := Lib.hid hck
    have HR := Lib.hid (fun W' (hB' : Below w.heap.size w W') => ranking_any (HPI.out.keep hB') h2)
    rw [h3] at HR
    have k0 : ((pl : Int) != (pl : Int)) = false := by simp
    clear hck h1 h3
    go_enter Tryz.func28, Tryz.ntmps28
    go_wp2_with fail
    rw [HWE.out]
    clear HWE
    go_wp2_with fail
    refine (HCK.out).mono ?_
    rintro e w1 ⟨rfl, hb⟩
    have y0 := (hb.cell (p := ⟨w.heap.size, 0, none⟩) (by show w.heap.size < _; omega)).trans z0
    have y1 := (hb.cell (p := ⟨w.heap.size + 1, 0, none⟩) (by show w.heap.size + 1 < _; omega)).trans z1
    have HB1 := Lib.hid (HB.out.trans (hb.mono HB.out.size))
    clear hb z0 z1 HCK HB hz
    go_wp2_with fail
    refine (HR.out _ HB1.out).mono ?_
    rintro e w2 ⟨rfl, hb⟩
    have HB2 := Lib.hid (HB1.out.trans (hb.mono HB1.out.size))
    clear hb HB1 HR
    go_wp2
    go_ret2
    exact ⟨rfl, HB2.out⟩
end Go.Proofs.YtigibomcaecbdaaGreat
