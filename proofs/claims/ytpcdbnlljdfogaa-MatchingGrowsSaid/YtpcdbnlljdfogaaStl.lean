/- settle: an edge is used, if that is possible, and stays as it is. -/
import Derived.Test.YtpcdbnlljdfogaaFil
set_option linter.unusedSimpArgs false
set_option linter.unusedVariables false
namespace Go.Proofs.Ytpcdbnlljdfogaa
open Go.RowKit

def fix0 (R : List Int) (i : Nat) : List Int := (R.set (2 * i) 0).set (2 * i + 1) 0
def settleP (H R : List Int) (A : List (List Int)) (i F : Nat) : Option (Bool × List Int) :=
  if atI R ((2 * i + 1 : Nat) : Int) > 0 then some (true, fix0 R i) else pushP H (fix0 R i) A (atI H ((2 * i : Nat) : Int)) (atI H ((2 * i + 1 : Nat) : Int)) F
theorem atI_get {L : List Int} {k : Nat} (h : k < L.length) : atI L (k : Int) = L[k]'h := by rw [atI_eq (by simpa using h)]; simp
theorem NtO.drew {w : World} {B nb : Nat} {N : Nt} (h : NtO w B nb N) : NtO w.drew B nb N := h.keep (Below.refl _ _).drew
theorem fix0_wf {N : Nt} {i : Nat} (h : NtWf N) : NtWf (N.room (fix0 N.R i)) := by
  obtain ⟨y1, y2, y3, y4, y5, y6⟩ := h
  refine ⟨?_, y2, y3, y4, y5, ?_⟩
  · show N.H.length = (fix0 N.R i).length
    unfold fix0
    simpa using y1
  · intro x hx
    have hx' : x ∈ (N.R.set (2 * i) 0).set (2 * i + 1) 0 := hx
    rcases List.mem_or_eq_of_mem_set hx' with hx2 | rfl
    · rcases List.mem_or_eq_of_mem_set hx2 with hx3 | rfl
      · exact y6 x hx3
      · omega
    · omega
set_option maxHeartbeats 16000000 in
set_option maxRecDepth 100000 in
theorem stl_any (N : Nt) (nb B F : Nat) (w : World) (hN : NtO w B nb N) (wf : NtWf N) (he : N.H.length % 2 = 0) (i : Nat) (hi : 2 * i + 1 < N.R.length) (b : Bool) (R' : List Int)
    (hp : settleP N.H N.R N.arcs i F = some (b, R')) :
    Calls Try.prog 40 #[.pointer (some ⟨nb, 0, none⟩), .int .i64 (i : Int)] w fun e w' => e = .returned (.bool b) ∧ NtO w' B nb (N.room R') ∧ NtWf (N.room R') ∧ w.grownBy w' N.row := by
  have HN := Lib.hid hN
  have HWf := Lib.hid wf
  have hHs := wf.hs
  have hHR := wf.hr
  have HUs := Lib.hid (uses_any N nb w hN.at_ i hi (by omega))
  have hR0 := atI_get hi
  rw [← hR0] at HUs
  have hrl : N.R.length ≤ 10000 := by omega
  unfold settleP at hp
  obtain ⟨u, hu⟩ : ∃ u, u = decide (atI N.R ((2 * i + 1 : Nat) : Int) > 0) := ⟨_, rfl⟩
  rw [← hu] at HUs
  have HFo := Lib.hid (fun W => forth_any i (by omega) W)
  have HBk := Lib.hid (fun W => back_any i (by omega) W)
  have Hp := Lib.hid hp
  have Hu := Lib.hid hu
  have hcH := hN.at_.h.hcap
  have hcm := hN.at_.h.hmax
  have hcR := hN.at_.r.hcap
  have hcn := hN.at_.r.hmax
  unfold maxLen at hcm hcn
  have haH : N.aH = some ⟨N.bH, N.oH, none⟩ := hN.at_.h.ha (by omega)
  obtain ⟨haR, hoR, hbR⟩ := hN.spot (by omega)
  have HE := Lib.hid he
  obtain ⟨e0, he0⟩ : ∃ e0, e0 = 2 * i := ⟨_, rfl⟩
  obtain ⟨e1, he1⟩ : ∃ e1, e1 = 2 * i + 1 := ⟨_, rfl⟩
  rw [← he0] at HFo
  rw [← he1] at HBk hi
  have hi0 : e0 < N.R.length := by omega
  have He0 := Lib.hid he0
  have He1 := Lib.hid he1
  have hne01 : e0 ≠ e1 := by omega
  clear he0 he1
  have hnbR := hN.nb _ hbR
  clear hN wf hp hu hR0 he
  go_enter Try.func40, Try.ntmps40
  go_wp2_with fail
  refine HUs.out.mono ?_
  rintro e w2 ⟨rfl, hb⟩
  have HN2 := Lib.hid (HN.out.keep hb)
  have HG2 := Lib.hid (Gby.of hb N.row)
  clear hb HUs
  have c3 := HN2.out.at_.c3
  rw [haR] at c3
  have hown : OwI w2 B (.slice (some ⟨N.bR, 0, none⟩) N.R.length N.cR) N.R.length N.R := by have := HN2.out.own; rw [haR] at this; exact this
  have d0 := hown.at_ e0 hi0
  have d1 := hown.at_ e1 hi
  have f0 := World.ownsRow.frozenAt hown e0
  have f1 := World.ownsRow.frozenAt hown e1
  have hz0 : (e0 : Int) < (N.R.length : Int) := by omega
  have hz1 : (e1 : Int) < (N.R.length : Int) := by omega
  have HW3 := Lib.hid (fix0_wf (i := i) HWf.out)
  generalize hx0 : N.R[e0]'hi0 = x0 at d0
  generalize hx1 : N.R[e1]'hi = x1 at d1
  clear hx0 hx1 hown
  go_wp2_with fail
  refine wp_region_s (fun w' => w'.cell? ⟨nb, 3, none⟩ = some (.slice (some ⟨N.bR, 0, none⟩) N.R.length N.cR)) 13 (by kernel_rfl) ?_
  refine AnyS.take0 (i := 0) (v := (.pointer (some ⟨nb, 0, none⟩))) rfl (by kernel_rfl) (by kernel_rfl) (by kernel_rfl) (by kernel_rfl) (fun _ _ _ h => h) (fun _ => c3) (Or.inl ⟨by kernel_rfl, fun w' _ => (by go_simp)⟩) ?_
  simp only [Act.put, List.setIfInBounds_toArray, List.set_cons_zero, List.set_cons_succ]
  refine AnyS.take0 (i := 1) (v := (.pointer (some ⟨nb, 0, none⟩))) rfl (by kernel_rfl) (by kernel_rfl) (by kernel_rfl) (by kernel_rfl) (fun _ _ _ h => h) (fun _ => c3) (Or.inl ⟨by kernel_rfl, fun w' _ => (by go_simp)⟩) ?_
  simp only [Act.put, List.setIfInBounds_toArray, List.set_cons_zero, List.set_cons_succ]
  refine AnyS.take0 (i := 2) (v := (.pointer (some ⟨nb, 3, none⟩))) rfl (by kernel_rfl) (by kernel_rfl) (by kernel_rfl) (by kernel_rfl) (fun _ _ _ h => h) (fun _ => c3) (Or.inl ⟨by kernel_rfl, fun w' _ => (by go_simp)⟩) ?_
  simp only [Act.put, List.setIfInBounds_toArray, List.set_cons_zero, List.set_cons_succ]
  refine AnyS.take (i := 3) (v := (.slice (some ⟨N.bR, 0, none⟩) N.R.length N.cR)) [13, 12] rfl (by kernel_rfl) (by kernel_rfl) (by kernel_rfl) (by kernel_rfl) (fun _ _ _ h => h) c3 (Or.inl ⟨by kernel_rfl, fun w' hw' => (by have t0 := hw'; go_simp)⟩) ?_
  simp only [Act.put, List.setIfInBounds_toArray, List.set_cons_zero, List.set_cons_succ]
  refine AnyS.take0 (i := 4) (v := (.int .i64 (i : Int))) rfl (by kernel_rfl) (by kernel_rfl) (by kernel_rfl) (by kernel_rfl) (fun _ _ _ h => h) (fun _ => c3) (Or.inl ⟨by kernel_rfl, fun w' _ => (by go_simp)⟩) ?_
  simp only [Act.put, List.setIfInBounds_toArray, List.set_cons_zero, List.set_cons_succ]
  refine AnyS.take0 (i := 6) (v := (.pointer (some ⟨nb, 0, none⟩))) rfl (by kernel_rfl) (by kernel_rfl) (by kernel_rfl) (by kernel_rfl) (fun _ _ _ h => h) (fun _ => c3) (Or.inl ⟨by kernel_rfl, fun w' _ => (by go_simp)⟩) ?_
  simp only [Act.put, List.setIfInBounds_toArray, List.set_cons_zero, List.set_cons_succ]
  refine AnyS.take0 (i := 7) (v := (.pointer (some ⟨nb, 0, none⟩))) rfl (by kernel_rfl) (by kernel_rfl) (by kernel_rfl) (by kernel_rfl) (fun _ _ _ h => h) (fun _ => c3) (Or.inl ⟨by kernel_rfl, fun w' _ => (by go_simp)⟩) ?_
  simp only [Act.put, List.setIfInBounds_toArray, List.set_cons_zero, List.set_cons_succ]
  refine AnyS.take0 (i := 8) (v := (.pointer (some ⟨nb, 3, none⟩))) rfl (by kernel_rfl) (by kernel_rfl) (by kernel_rfl) (by kernel_rfl) (fun _ _ _ h => h) (fun _ => c3) (Or.inl ⟨by kernel_rfl, fun w' _ => (by go_simp)⟩) ?_
  simp only [Act.put, List.setIfInBounds_toArray, List.set_cons_zero, List.set_cons_succ]
  refine AnyS.take (i := 9) (v := (.slice (some ⟨N.bR, 0, none⟩) N.R.length N.cR)) [13, 12] rfl (by kernel_rfl) (by kernel_rfl) (by kernel_rfl) (by kernel_rfl) (fun _ _ _ h => h) c3 (Or.inl ⟨by kernel_rfl, fun w' hw' => (by have t0 := hw'; go_simp)⟩) ?_
  simp only [Act.put, List.setIfInBounds_toArray, List.set_cons_zero, List.set_cons_succ]
  refine AnyS.take0 (i := 10) (v := (.int .i64 (i : Int))) rfl (by kernel_rfl) (by kernel_rfl) (by kernel_rfl) (by kernel_rfl) (fun _ _ _ h => h) (fun _ => c3) (Or.inl ⟨by kernel_rfl, fun w' _ => (by go_simp)⟩) ?_
  simp only [Act.put, List.setIfInBounds_toArray, List.set_cons_zero, List.set_cons_succ]
  refine AnyS.step (j := 5) rfl (by kernel_rfl) (fun K hK => ?_)
  go_simp
  refine (HFo.out _).mono ?_
  rintro e w5 ⟨rfl, hw5⟩
  subst hw5
  refine hK.out _ _ (fun _ => c3) ?_
  clear hK
  refine AnyS.step (j := 11) rfl (by kernel_rfl) (fun K hK => ?_)
  go_simp
  refine (HBk.out _).mono ?_
  rintro e w5 ⟨rfl, hw5⟩
  subst hw5
  refine hK.out _ _ (fun _ => c3) ?_
  clear hK
  refine AnyS.step (j := 12) rfl (by kernel_rfl) (fun K hK => ?_)
  go_simp
  refine hK.out _ _ (fun _ => c3) ?_
  clear hK
  refine AnyS.step (j := 13) rfl (by kernel_rfl) (fun K hK => ?_)
  go_simp
  refine hK.out _ _ (fun h => absurd h (by decide)) ?_
  clear hK
  refine AnyS.rest 14 (by kernel_rfl) rfl (by kernel_rfl) ?_
  change wpList _ _ _ [_, _] _ _
  obtain ⟨W3, hW3⟩ : ∃ W3, W3 = ((w2.setCell ⟨N.bR, e0, none⟩ (.int .i64 0)).setCell ⟨N.bR, e1, none⟩ (.int .i64 0)).drew := ⟨_, rfl⟩
  go_wp2_with fail
  rw [← hW3]
  have HN3 := Lib.hid (show NtO W3 B nb (N.room (fix0 N.R i)) by
    have h1 := HN2.out.set (k := e0) hi0 0
    have h2 := h1.set (k := e1) (show e1 < (N.R.set e0 0).length by rw [List.length_set]; exact hi) 0
    rw [He0.out, He1.out] at h2
    rw [hW3, He0.out, He1.out]
    exact h2.drew)
  have HG3 := Lib.hid (show w.grownBy W3 N.row by
    have e : N.row = some N.bR := hbR
    rw [hW3, e]
    rw [e] at HG2
    exact HG2.out.trans (((grownBy_set w2 ⟨N.bR, e0, none⟩ (.int .i64 0)).trans (grownBy_set _ ⟨N.bR, e1, none⟩ (.int .i64 0))).trans (Gby.of (Below.refl _ _).drew _)))
  clear HN2 HG2 c3 d0 d1 f0 f1 hW3 hz0 hz1
  cases u with
  | true =>
    have hp := Hp.out
    have hu := Hu.out
    rw [if_pos (of_decide_eq_true hu.symm)] at hp
    obtain ⟨rfl, rfl⟩ : true = b ∧ fix0 N.R i = R' := by simpa using hp
    clear Hp hp hu
    go_wp2_with fail
    go_quiet (fail)
    go_wp2_with fail
    have HBq := Lib.hid (bel_drewN (Below.refl W3.heap.size W3) nq)
    have HNb := Lib.hid (HN3.out.keep HBq.out)
    have HGb := Lib.hid (HG3.out.trans (Gby.of HBq.out N.row))
    go_ret
    exact ⟨rfl, HNb.out, HW3.out, HGb.out⟩
  | false =>
    have hp := Hp.out
    have hu := Hu.out
    rw [if_neg (of_decide_eq_false hu.symm)] at hp
    have c2 := HN3.out.at_.c2
    have c2' : W3.cell? ⟨nb, 2, none⟩ = some (.slice (some ⟨N.bH, N.oH, none⟩) N.H.length N.cH) := by rw [← haH]; exact c2
    have h0H : e0 < N.H.length := by omega
    have h1H : e1 < N.H.length := by omega
    have g0 : W3.cell? ⟨N.bH, N.oH + e0, none⟩ = some (.int .i64 (N.H[e0]'h0H)) := HN3.out.at_.h.cell e0 h0H
    have g1 : W3.cell? ⟨N.bH, N.oH + e1, none⟩ = some (.int .i64 (N.H[e1]'h1H)) := HN3.out.at_.h.cell e1 h1H
    have v0 := HWf.out.hv _ (List.getElem_mem h0H)
    have v1 := HWf.out.hv _ (List.getElem_mem h1H)
    rw [← He1.out, ← He0.out, atI_get h0H, atI_get h1H] at hp
    obtain ⟨a0, ha0⟩ : ∃ a0 : Nat, N.H[e0]'h0H = (a0 : Int) := ⟨(N.H[e0]'h0H).toNat, by omega⟩
    obtain ⟨a1, ha1⟩ : ∃ a1 : Nat, N.H[e1]'h1H = (a1 : Int) := ⟨(N.H[e1]'h1H).toNat, by omega⟩
    rw [ha0] at g0 v0 hp
    rw [ha1] at g1 v1 hp
    have y0 : (e0 : Int) < (N.H.length : Int) := by omega
    have y1 : (e1 : Int) < (N.H.length : Int) := by omega
    have HPs := Lib.hid (psh_any (N.room (fix0 N.R i)) nb B F W3.drew HN3.out.drew HW3.out HE.out a0 a1 (by show _ < N.A.length; omega) (by show _ < N.A.length; omega) b R' hp)
    have hlr : (N.room (fix0 N.R i)).row = N.row := by
      show (Value.slice N.aR (fix0 N.R i).length N.cR).ownBlock = (Value.slice N.aR N.R.length N.cR).ownBlock
      rw [haR]
      rfl
    have HLr := Lib.hid hlr
    clear Hp hp hu c2 hlr ha0 ha1 HN3
    go_wp2_with fail
    refine wp_region_s (fun w' => w'.cell? ⟨nb, 2, none⟩ = some (.slice (some ⟨N.bH, N.oH, none⟩) N.H.length N.cH) ∧ w'.cell? ⟨N.bH, N.oH + e0, none⟩ = some (.int .i64 (a0 : Int)) ∧ w'.cell? ⟨N.bH, N.oH + e1, none⟩ = some (.int .i64 (a1 : Int))) 19 (by kernel_rfl) ?_
    refine AnyS.take0 (i := 0) (v := (.bool false)) rfl (by kernel_rfl) (by kernel_rfl) (by kernel_rfl) (by kernel_rfl) (fun _ _ _ h => h) (fun _ => ⟨c2', g0, g1⟩) (Or.inl ⟨by kernel_rfl, fun w' _ => (by go_simp)⟩) ?_
    simp only [Act.put, List.setIfInBounds_toArray, List.set_cons_zero, List.set_cons_succ]
    refine AnyS.take0 (i := 1) (v := (.bool false)) rfl (by kernel_rfl) (by kernel_rfl) (by kernel_rfl) (by kernel_rfl) (fun _ _ _ h => h) (fun _ => ⟨c2', g0, g1⟩) (Or.inl ⟨by kernel_rfl, fun w' _ => (by go_simp)⟩) ?_
    simp only [Act.put, List.setIfInBounds_toArray, List.set_cons_zero, List.set_cons_succ]
    refine AnyS.take0 (i := 2) (v := (.pointer (some ⟨nb, 0, none⟩))) rfl (by kernel_rfl) (by kernel_rfl) (by kernel_rfl) (by kernel_rfl) (fun _ _ _ h => h) (fun _ => ⟨c2', g0, g1⟩) (Or.inl ⟨by kernel_rfl, fun w' _ => (by go_simp)⟩) ?_
    simp only [Act.put, List.setIfInBounds_toArray, List.set_cons_zero, List.set_cons_succ]
    refine AnyS.take0 (i := 3) (v := (.pointer (some ⟨nb, 0, none⟩))) rfl (by kernel_rfl) (by kernel_rfl) (by kernel_rfl) (by kernel_rfl) (fun _ _ _ h => h) (fun _ => ⟨c2', g0, g1⟩) (Or.inl ⟨by kernel_rfl, fun w' _ => (by go_simp)⟩) ?_
    simp only [Act.put, List.setIfInBounds_toArray, List.set_cons_zero, List.set_cons_succ]
    refine AnyS.take0 (i := 4) (v := (.pointer (some ⟨nb, 0, none⟩))) rfl (by kernel_rfl) (by kernel_rfl) (by kernel_rfl) (by kernel_rfl) (fun _ _ _ h => h) (fun _ => ⟨c2', g0, g1⟩) (Or.inl ⟨by kernel_rfl, fun w' _ => (by go_simp)⟩) ?_
    simp only [Act.put, List.setIfInBounds_toArray, List.set_cons_zero, List.set_cons_succ]
    refine AnyS.take0 (i := 5) (v := (.pointer (some ⟨nb, 2, none⟩))) rfl (by kernel_rfl) (by kernel_rfl) (by kernel_rfl) (by kernel_rfl) (fun _ _ _ h => h) (fun _ => ⟨c2', g0, g1⟩) (Or.inl ⟨by kernel_rfl, fun w' _ => (by go_simp)⟩) ?_
    simp only [Act.put, List.setIfInBounds_toArray, List.set_cons_zero, List.set_cons_succ]
    refine AnyS.take (i := 6) (v := (.slice (some ⟨N.bH, N.oH, none⟩) N.H.length N.cH)) [19, 10, 9] rfl (by kernel_rfl) (by kernel_rfl) (by kernel_rfl) (by kernel_rfl) (fun _ _ _ h => h) ⟨c2', g0, g1⟩ (Or.inl ⟨by kernel_rfl, fun w' hw' => (by obtain ⟨t0, t1, t2⟩ := hw'; go_simp)⟩) ?_
    simp only [Act.put, List.setIfInBounds_toArray, List.set_cons_zero, List.set_cons_succ]
    refine AnyS.take0 (i := 7) (v := (.int .i64 (i : Int))) rfl (by kernel_rfl) (by kernel_rfl) (by kernel_rfl) (by kernel_rfl) (fun _ _ _ h => h) (fun _ => ⟨c2', g0, g1⟩) (Or.inl ⟨by kernel_rfl, fun w' _ => (by go_simp)⟩) ?_
    simp only [Act.put, List.setIfInBounds_toArray, List.set_cons_zero, List.set_cons_succ]
    refine AnyS.take0 (i := 11) (v := (.pointer (some ⟨nb, 0, none⟩))) rfl (by kernel_rfl) (by kernel_rfl) (by kernel_rfl) (by kernel_rfl) (fun _ _ _ h => h) (fun _ => ⟨c2', g0, g1⟩) (Or.inl ⟨by kernel_rfl, fun w' _ => (by go_simp)⟩) ?_
    simp only [Act.put, List.setIfInBounds_toArray, List.set_cons_zero, List.set_cons_succ]
    refine AnyS.take0 (i := 12) (v := (.pointer (some ⟨nb, 0, none⟩))) rfl (by kernel_rfl) (by kernel_rfl) (by kernel_rfl) (by kernel_rfl) (fun _ _ _ h => h) (fun _ => ⟨c2', g0, g1⟩) (Or.inl ⟨by kernel_rfl, fun w' _ => (by go_simp)⟩) ?_
    simp only [Act.put, List.setIfInBounds_toArray, List.set_cons_zero, List.set_cons_succ]
    refine AnyS.take0 (i := 13) (v := (.pointer (some ⟨nb, 2, none⟩))) rfl (by kernel_rfl) (by kernel_rfl) (by kernel_rfl) (by kernel_rfl) (fun _ _ _ h => h) (fun _ => ⟨c2', g0, g1⟩) (Or.inl ⟨by kernel_rfl, fun w' _ => (by go_simp)⟩) ?_
    simp only [Act.put, List.setIfInBounds_toArray, List.set_cons_zero, List.set_cons_succ]
    refine AnyS.take (i := 14) (v := (.slice (some ⟨N.bH, N.oH, none⟩) N.H.length N.cH)) [19, 18, 17] rfl (by kernel_rfl) (by kernel_rfl) (by kernel_rfl) (by kernel_rfl) (fun _ _ _ h => h) ⟨c2', g0, g1⟩ (Or.inl ⟨by kernel_rfl, fun w' hw' => (by obtain ⟨t0, t1, t2⟩ := hw'; go_simp)⟩) ?_
    simp only [Act.put, List.setIfInBounds_toArray, List.set_cons_zero, List.set_cons_succ]
    refine AnyS.take0 (i := 15) (v := (.int .i64 (i : Int))) rfl (by kernel_rfl) (by kernel_rfl) (by kernel_rfl) (by kernel_rfl) (fun _ _ _ h => h) (fun _ => ⟨c2', g0, g1⟩) (Or.inl ⟨by kernel_rfl, fun w' _ => (by go_simp)⟩) ?_
    simp only [Act.put, List.setIfInBounds_toArray, List.set_cons_zero, List.set_cons_succ]
    refine AnyS.step (j := 8) rfl (by kernel_rfl) (fun K hK => ?_)
    go_simp
    refine (HFo.out _).mono ?_
    rintro e w5 ⟨rfl, hw5⟩
    subst hw5
    refine hK.out _ _ (fun _ => ⟨c2', g0, g1⟩) ?_
    clear hK
    refine AnyS.take0 (i := 9) (v := (.pointer (some ⟨N.bH, N.oH + e0, none⟩))) rfl (by kernel_rfl) (by kernel_rfl) (by kernel_rfl) (by kernel_rfl) (fun _ _ _ h => h) (fun _ => ⟨c2', g0, g1⟩) (Or.inl ⟨by kernel_rfl, fun w' _ => (by go_simp)⟩) ?_
    simp only [Act.put, List.setIfInBounds_toArray, List.set_cons_zero, List.set_cons_succ]
    refine AnyS.take (i := 10) (v := (.int .i64 (a0 : Int))) [19] rfl (by kernel_rfl) (by kernel_rfl) (by kernel_rfl) (by kernel_rfl) (fun _ _ _ h => h) ⟨c2', g0, g1⟩ (Or.inl ⟨by kernel_rfl, fun w' hw' => (by obtain ⟨t0, t1, t2⟩ := hw'; go_simp)⟩) ?_
    simp only [Act.put, List.setIfInBounds_toArray, List.set_cons_zero, List.set_cons_succ]
    refine AnyS.step (j := 16) rfl (by kernel_rfl) (fun K hK => ?_)
    go_simp
    refine (HBk.out _).mono ?_
    rintro e w5 ⟨rfl, hw5⟩
    subst hw5
    refine hK.out _ _ (fun _ => ⟨c2', g0, g1⟩) ?_
    clear hK
    refine AnyS.take0 (i := 17) (v := (.pointer (some ⟨N.bH, N.oH + e1, none⟩))) rfl (by kernel_rfl) (by kernel_rfl) (by kernel_rfl) (by kernel_rfl) (fun _ _ _ h => h) (fun _ => ⟨c2', g0, g1⟩) (Or.inl ⟨by kernel_rfl, fun w' _ => (by go_simp)⟩) ?_
    simp only [Act.put, List.setIfInBounds_toArray, List.set_cons_zero, List.set_cons_succ]
    refine AnyS.take (i := 18) (v := (.int .i64 (a1 : Int))) [19] rfl (by kernel_rfl) (by kernel_rfl) (by kernel_rfl) (by kernel_rfl) (fun _ _ _ h => h) ⟨c2', g0, g1⟩ (Or.inl ⟨by kernel_rfl, fun w' hw' => (by obtain ⟨t0, t1, t2⟩ := hw'; go_simp)⟩) ?_
    simp only [Act.put, List.setIfInBounds_toArray, List.set_cons_zero, List.set_cons_succ]
    refine AnyS.step (j := 19) rfl (by kernel_rfl) (fun K hK => ?_)
    go_simp
    refine HPs.out.mono ?_
    rintro e w6 ⟨rfl, hN6, hW6, hG6⟩
    have HN6 := Lib.hid (show NtO w6 B nb (N.room R') from hN6)
    have HW6 := Lib.hid (show NtWf (N.room R') from hW6)
    have HG6 := Lib.hid ((HG3.out.trans (Gby.of (Below.refl _ _).drew _)).trans (by rw [← HLr.out]; exact hG6))
    clear hN6 hW6 hG6 HPs HG3 HW3
    refine hK.out _ _ (fun h => absurd h (by decide)) ?_
    clear hK
    refine AnyS.rest 20 (by kernel_rfl) rfl (by kernel_rfl) ?_
    change wpList _ _ _ [_, _] _ _
    go_wp2_with fail
    go_ret
    exact ⟨rfl, HN6.out, HW6.out, HG6.out⟩
end Go.Proofs.Ytpcdbnlljdfogaa
