/- preorder.Refine: the closure: by the places, and where they are equal by the rows. -/
import Derived.Test.YtogdkgcgckdehaaGreatOrder
import Derived.Test.YtogdkgcgckdehaaGreatSam
set_option linter.unusedSimpArgs false
set_option linter.unusedVariables false
namespace Go.Proofs.YtogdkgcgckdehaaGreat
open Go.RowKit Go.Sort

/-- places first, then rows -/
def refC (P : List Int) (C : List (List (Int × Int))) (i k : Nat) : Int := if P.getD i 0 = P.getD k 0 then ahC (C.getD i []) (C.getD k []) else cmpI (P.getD i 0) (P.getD k 0)
set_option maxHeartbeats 2000000 in
set_option maxRecDepth 100000 in
theorem rfc_any {W : World} {bp br gp op b off len cp cap : Nat} {P : List Int} {M : List Rw} (hP : SlI W (some ⟨gp, op, none⟩) gp op len cp P) (h : SlR W (some ⟨b, off, none⟩) b off len cap M) (c0 : W.cell? ⟨bp, 0, none⟩ = some (.slice (some ⟨gp, op, none⟩) len cp)) (hbp : bp < W.heap.size)
    (c1 : W.cell? ⟨br, 0, none⟩ = some (.slice (some ⟨b, off, none⟩) len cap)) (hbr : br < W.heap.size) {i k : Nat} (hi : i < len) (hk : k < len) :
    Calls Tryz.prog 25 #[.int .i64 (i : Int), .int .i64 (k : Int), .pointer (some ⟨bp, 0, none⟩), .pointer (some ⟨br, 0, none⟩)] W fun e w' => e = .returned (.int .i64 (refC P (crit M) i k)) ∧ Grw W w' := by
  have hlP := hP.hl
  have hlM := h.sl.hl
  have hiP : i < P.length := by omega
  have hkP : k < P.length := by omega
  have hiM : i < M.length := by omega
  have hkM : k < M.length := by omega
  have hgp := hP.hb (by omega)
  have hb := h.sl.hb (by omega)
  have hcap := h.sl.hcap
  have hmax := h.sl.hmax
  have hcp := hP.hcap
  have hmp := hP.hmax
  unfold maxLen at hmax hmp
  have l1 : (i : Int) < (len : Int) := by omega
  have l2 : (k : Int) < (len : Int) := by omega
  have x1 : W.cell? ⟨gp, op + i, none⟩ = some (.int .i64 (P.getD i 0)) := by
    have := hP.cell i hiP
    simpa [List.getD, hiP] using this
  have x2 : W.cell? ⟨gp, op + k, none⟩ = some (.int .i64 (P.getD k 0)) := by
    have := hP.cell k hkP
    simpa [List.getD, hkP] using this
  have y1 := h.sl.cell i hiM
  have y2 := h.sl.cell k hkM
  have HR := Lib.hid (fun (W' : World) (hg : Grw W W') => ahead_any ((h.rows _ (List.getElem_mem hiM)).keep hg.below) ((h.rows _ (List.getElem_mem hkM)).keep hg.below))
  unfold Rw.val at y1 y2 HR
  unfold refC
  rw [crit_getD hiM, crit_getD hkM]
  unfold ahC
  generalize rowC (M[k]'hkM).L (M[i]'hiM).L = c at *
  generalize (M[i]'hiM).L.length = n1 at *
  generalize (M[k]'hkM).L.length = n2 at *
  generalize (M[i]'hiM).a = a1 at *
  generalize (M[k]'hkM).a = a2 at *
  generalize (M[i]'hiM).cap = d1 at *
  generalize (M[k]'hkM).cap = d2 at *
  generalize P.getD i 0 = p at *
  generalize P.getD k 0 = q at *
  have FB := Lib.hid (fun (W' : World) (hg : Grw W W') => (show W'.cell? ⟨bp, 0, none⟩ = some (.slice (some ⟨gp, op, none⟩) len cp) ∧ W'.cell? ⟨br, 0, none⟩ = some (.slice (some ⟨b, off, none⟩) len cap) ∧ W'.cell? ⟨gp, op + i, none⟩ = some (.int .i64 p) ∧ W'.cell? ⟨gp, op + k, none⟩ = some (.int .i64 q) ∧ W'.cell? ⟨b, off + i, none⟩ = some (.slice a1 n1 d1) ∧ W'.cell? ⟨b, off + k, none⟩ = some (.slice a2 n2 d2) from
    ⟨(hg.cell hbp).trans c0, (hg.cell hbr).trans c1, (hg.cell hgp).trans x1, (hg.cell hgp).trans x2, (hg.cell hb).trans y1, (hg.cell hb).trans y2⟩))
  have HC := Lib.hid (fun W => cmpI_any p q W)
  clear h hP hiP hkP hiM hkM hlP hlM y1 y2 c1
  by_cases hpq : p = q
  · subst hpq
    have k1 : (p != p) = false := by simp
    rw [if_pos rfl]
    clear HC
    go_enter Tryz.func25, Tryz.ntmps25
    go_wp2_with fail
    go_quiet (fail)
    have hg1 : Grw W (W.drewN nq) := (Grw.refl W).drewN nq
    obtain ⟨z0, z1, z2, z3, z4, z5⟩ := FB.out _ hg1
    have b1 : br < (W.drewN nq).heap.size := hbr
    have b2 : b < (W.drewN nq).heap.size := hb
    have HRK := Lib.hid (fun n os => HR.out _ (hg1.trans (grw_form (W.drewN nq) n os)))
    have HG1 := Lib.hid hg1
    clear c0 x1 x2 HR FB hg1
    generalize W.drewN nq = W1 at *
    have K1 := fun n os => cell_grown (w := W1) (a := ⟨br, 0, none⟩) b1 z1 n os
    have K4 := fun n os => cell_grown (w := W1) (a := ⟨b, off + i, none⟩) b2 z4 n os
    have K5 := fun n os => cell_grown (w := W1) (a := ⟨b, off + k, none⟩) b2 z5 n os
    clear z0 z1 z2 z3 z4 z5
    go_wp2_with fail
    have mixed := mix
    go_quiet_grown ((go_at_call 24; exact quietG (HRK.out _ _)))
    go_wp2
    go_ret
    exact ⟨rfl, HG1.out.trans (grw_form _ _ _)⟩
  · have k1 : (p != q) = true := by simpa using hpq
    rw [if_neg hpq]
    clear HR hpq
    generalize cmpI p q = v at *
    go_enter Tryz.func25, Tryz.ntmps25
    go_wp2_with fail
    go_quiet (fail)
    have hg1 : Grw W (W.drewN nq) := (Grw.refl W).drewN nq
    obtain ⟨z0, z1, z2, z3, z4, z5⟩ := FB.out _ hg1
    have b0 : bp < (W.drewN nq).heap.size := hbp
    have b2 : gp < (W.drewN nq).heap.size := hgp
    have HG1 := Lib.hid hg1
    clear c0 x1 x2 FB hg1
    generalize W.drewN nq = W1 at *
    have K0 := fun n os => cell_grown (w := W1) (a := ⟨bp, 0, none⟩) b0 z0 n os
    have K2 := fun n os => cell_grown (w := W1) (a := ⟨gp, op + i, none⟩) b2 z2 n os
    have K3 := fun n os => cell_grown (w := W1) (a := ⟨gp, op + k, none⟩) b2 z3 n os
    clear z0 z1 z2 z3 z4 z5
    go_wp2_with fail
    have mixed := mix
    go_quiet_grown ((go_at_call 26; exact quietG (grw_same (HC.out _))))
    go_wp2
    go_ret
    exact ⟨rfl, HG1.out.trans (grw_form _ _ _)⟩
end Go.Proofs.YtogdkgcgckdehaaGreat
