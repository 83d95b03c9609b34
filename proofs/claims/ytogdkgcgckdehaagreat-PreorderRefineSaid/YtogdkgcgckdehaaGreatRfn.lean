/- preorder.Refine: where the rows are a matrix and the places a ranking of as many. -/
import Derived.Test.YtogdkgcgckdehaaGreatRfc
import Derived.Test.YtogdkgcgckdehaaGreatPla
set_option linter.unusedSimpArgs false
set_option linter.unusedVariables false
namespace Go.Proofs.YtogdkgcgckdehaaGreat
open Go.RowKit Go.Sort

theorem cmpI_zero (x y : Int) : cmpI x y = 0 ↔ x = y := by
  unfold cmpI ordI
  split
  · omega
  · split <;> omega
theorem tot_ref {C : List (List (Int × Int))} {P : List Int} {m n : Nat} (h : ∀ r ∈ C, r.length = m) (hn : C.length = n) : Tot (fun x y : { i : Nat // i < n } => refC P C x.1 y.1) := by
  subst hn
  have T := (tot_cmpI.on (fun x : { i : Nat // i < C.length } => P.getD x.1 0)).then (tot_ix h)
  have e : (thenC (onC (fun x : { i : Nat // i < C.length } => P.getD x.1 0) cmpI) fun x y : { i : Nat // i < C.length } => ahC (C.getD x.1 []) (C.getD y.1 [])) = fun x y : { i : Nat // i < C.length } => refC P C x.1 y.1 := by
    funext x y
    unfold thenC onC refC
    by_cases he : P.getD x.1 0 = P.getD y.1 0
    · rw [if_pos ((cmpI_zero _ _).2 he), if_pos he]
    · rw [if_neg (fun h0 => he ((cmpI_zero _ _).1 h0)), if_neg he]
  rw [← e]
  exact T
theorem slI_nat {w : World} {a : Option Addr} {b off len cap : Nat} {n : Nat} (h : SlI w a b off len cap (idxL n)) : SlG (fun i : Nat => Value.int .i64 (i : Int)) w a b off len cap (List.range n) := by
  have : idxL n = (List.range n).map fun i : Nat => (i : Int) := rfl
  rw [this] at h
  exact h.unmap
set_option maxHeartbeats 2000000 in
set_option maxRecDepth 100000 in
theorem refine_ok {ap a : Option Addr} {gp op cp b off len cap : Nat} {P : List Int} {M : List Rw} {w : World} (hP : SlI w ap gp op len cp P) (h : SlR w a b off len cap M) (hc : chkL (crit M) = 0) (hr : rnkB P = true) :
    Calls Tryz.prog 8 #[.slice ap len cp, .slice a len cap] w (PlacesPost w len (plcL (refC P (crit M)) (List.range len))) := by
  obtain ⟨c1, _, c3, _⟩ := chk_ok hc
  have hl := h.sl.hl
  have hcl : (crit M).length = len := by unfold crit; rw [List.length_map, hl]
  have hlen : len ≤ 1000000 := by omega
  have HS := Lib.hid h
  have HPI := Lib.hid hP
  have T := tot_ref (P := P) c3 hcl
  have HT := Lib.hid T
  have hcap := h.sl.hcap
  have hmax := h.sl.hmax
  have hcp := hP.hcap
  have hmp := hP.hmax
  unfold maxLen at hmax hmp
  have hW : ∃ W : World, (w.alloc (.cells #[.slice ap len cp] 28)).alloc (.cells #[.slice a len cap] 22) = W ∧ W.cell? ⟨w.heap.size, 0, none⟩ = some (.slice ap len cp) ∧ W.cell? ⟨w.heap.size + 1, 0, none⟩ = some (.slice a len cap) ∧ W.heap.size = w.heap.size + 2 ∧ Below w.heap.size w W :=
    ⟨_, rfl, box2_fst w _ 28 _ 22, box2_snd w _ 28 _ 22, box2_size w (.slice ap len cp) 28 (.slice a len cap) 22, (box2_grw w _ _ _ _).below⟩
  obtain ⟨W, hWe, z0, z1, hz, hB⟩ := hW
  have HWE := Lib.hid hWe
  have hck := check_any (h.keep hB)
  rw [hc] at hck
  have HCK := Lib.hid hck
  have HB := Lib.hid hB
  have HR := Lib.hid (fun W' (hB' : Below w.heap.size w W') => ranking_any (hP.keep hB') hlen)
  rw [hr] at HR
  clear h hP hc hr hck hWe hB c1 c3 T hl hcl
  have k1 : ((len : Int) != (len : Int)) = false := by simp
  go_enter Tryz.func8, Tryz.ntmps8
  go_wp2_with fail
  rw [HWE.out]
  clear HWE
  go_wp2_with fail
  refine (HCK.out).mono ?_
  rintro e w1 ⟨rfl, hb⟩
  have y0 := (hb.cell (p := ⟨w.heap.size, 0, none⟩) (by show w.heap.size < _; omega)).trans z0
  have y1 := (hb.cell (p := ⟨w.heap.size + 1, 0, none⟩) (by show w.heap.size + 1 < _; omega)).trans z1
  have hs1 : w.heap.size + 2 ≤ w1.heap.size := by have := hb.size; omega
  have HB1 := Lib.hid (HB.out.trans (hb.mono HB.out.size))
  clear hb z0 z1 HCK HB hz
  go_wp2_with fail
  refine (HR.out _ HB1.out).mono ?_
  rintro e w2 ⟨rfl, hb⟩
  have x0 := (hb.cell (p := ⟨w.heap.size, 0, none⟩) (by show w.heap.size < _; omega)).trans y0
  have x1 := (hb.cell (p := ⟨w.heap.size + 1, 0, none⟩) (by show w.heap.size + 1 < _; omega)).trans y1
  have hs2 : w.heap.size + 2 ≤ w2.heap.size := by have := hb.size; omega
  have HB2 := Lib.hid (HB1.out.trans (hb.mono HB1.out.size))
  have HIX := Lib.hid (indices_any len hlen w2)
  clear hb y0 y1 HR HB1 hs1
  go_wp2_with fail
  refine (HIX.out).mono ?_
  rintro e w3 ⟨gi, rfl, ho, hb⟩
  have v0 := (hb.cell (p := ⟨w.heap.size, 0, none⟩) (by show w.heap.size < _; omega)).trans x0
  have v1 := (hb.cell (p := ⟨w.heap.size + 1, 0, none⟩) (by show w.heap.size + 1 < _; omega)).trans x1
  have hs3 : w.heap.size + 2 ≤ w3.heap.size := by have := hb.size; omega
  have HB3 := Lib.hid (HB2.out.trans (hb.mono HB2.out.size))
  have hsi := slI_nat (own_slI ho (idxL_len len) (by unfold maxLen; omega))
  have hpl := plcI_on (enc := fun i : Nat => Value.int .i64 (i : Int)) (p := fun i => i < len) (cf := refC P (crit M)) (fun _ => rfl) (fun x => ⟨_, rfl⟩) HT.out (fun x hx => List.mem_range.1 hx) hsi hlen
    25 #[.pointer (some ⟨w.heap.size, 0, none⟩), .pointer (some ⟨w.heap.size + 1, 0, none⟩)] (enters_of Tryz.func25 (by kernel_rfl) rfl)
    (fun W' hW' x y hx hy => by
      have hBW := HB3.out.trans (hW'.mono HB3.out.size)
      have hp := HPI.out.keep hBW
      have hm := HS.out.keep hBW
      have ea := hp.ha (by omega)
      have eb := hm.sl.ha (by omega)
      have d0 := (hW'.cell (p := ⟨w.heap.size, 0, none⟩) (by show w.heap.size < _; omega)).trans v0
      have d1 := (hW'.cell (p := ⟨w.heap.size + 1, 0, none⟩) (by show w.heap.size + 1 < _; omega)).trans v1
      have hsz := hW'.size
      subst ea eb
      exact rfc_any hp hm d0 (by omega) d1 (by omega) hx hy)
  have HPL := Lib.hid hpl
  clear hb hpl hsi ho x0 x1 v0 v1 HIX HB2
  go_wp2_with fail
  refine (HPL.out).mono ?_
  rintro e w4 ⟨gb, rfl, hs, hg, hb⟩
  have HS4 := Lib.hid hs
  have HG := Lib.hid (And.intro (Nat.le_trans HB3.out.size hg.1) hg.2)
  have HB4 := Lib.hid (HB3.out.trans (hb.mono HB3.out.size))
  clear hs hg hb HPL HB3
  go_wp2
  go_ret2
  exact ⟨gb, rfl, HS4.out, HG.out, HB4.out⟩
end Go.Proofs.YtogdkgcgckdehaaGreat
