/- Contracts over slices: fraction.Mean; the reference's Whole, Sum, Mean. -/
import Derived.Test.YtfdalnkdeeminaaDoorLst
import Derived.Test.YtfdalnkdeeminaaDoorRefG
import Derived.Test.YtfdalnkdeeminaaDoorRefH
set_option linter.unusedSimpArgs false
set_option linter.unusedVariables false
namespace Go.Proofs.YtfdalnkdeeminaaDoor
open Go.RowKit

theorem whole_wf {n : Nat} (h : n ≤ 9223372036854775807) : Wf64 ((n : Int), (1 : Int)) := ⟨by simp only; omega, by simp only; omega, by simp only; omega, by simp only; omega⟩
theorem rwhole_any (n : Int) (w : World) : Calls Tryd.prog 58 #[.int .i64 n] w fun e w' => e = .returned (.agg #[.int .i64 n, .int .i64 1]) ∧ Below w.heap.size w w' := by
  go_enter Tryd.func58, Tryd.ntmps58
  go_wp2
  refine bodyPost_ret (v := .agg #[.int .i64 n, .int .i64 1]) (by simp [results, Tryd.results58, go_sem]) rfl ⟨rfl, (by repeat (first | with_reducible exact Below.refl _ _ | (with_reducible refine Below.setCell ?_ (by first | exact Nat.le_refl _ | omega | (simp; done) | (simp; omega)) _) | (with_reducible refine Below.alloc ?_ (by first | exact Nat.le_refl _ | omega | (simp; done) | (simp; omega)) _) | with_reducible refine Below.drew ?_ | with_reducible refine bel_drewN ?_ _ | (with_reducible refine bel_by (by with_reducible assumption) (by first | exact Nat.le_refl _ | omega | (simp; done) | (simp; omega)) ?_)))⟩

set_option maxHeartbeats 2000000 in
set_option maxRecDepth 100000 in
/-- fraction.Mean -/
theorem fmean_any {a : Option Addr} {b off len cap : Nat} {xs : List (Int × Int)} {w : World} (h : SlF w a b off len cap xs) :
    Calls Tryd.prog 34 #[.slice a len cap] w fun e w' => e = .returned (fracE (meanL xs)) ∧ Below w.heap.size w w' := by
  have hcap := h.hcap
  have hl := h.hl
  unfold maxLen at hcap
  have HM := Lib.hid (show meanL xs = if len = 0 then (0, 0, 1) else if (sumL xs).2.2 = 0 then divS (sumL xs).1 (sumL xs).2.1 len 1 else (0, 0, (sumL xs).2.2) by unfold meanL; rw [h.hlen])
  have HC := Lib.hid (fun (W : World) (hB : Below w.heap.size w W) => fsum_any (h.keep hB))
  have HD := Lib.hid (fun W => div_any (sumL xs).1 (sumL xs).2.1 len 1 (sumL_wf xs) (whole_wf (by omega)) W)
  clear h
  generalize meanL xs = m at *
  generalize sumL xs = t at *
  by_cases h0 : len = 0
  · subst h0
    have HS := Lib.hid (HM.out.trans (if_pos rfl))
    clear HM
    go_enter Tryd.func34, Tryd.ntmps34
    go_wp2
    refine bodyPost_ret (v := fracE (0, 0, 1)) (by simp [results, Tryd.results34, go_sem]) rfl ⟨by rw [HS.out], (by repeat (first | with_reducible exact Below.refl _ _ | (with_reducible refine Below.setCell ?_ (by first | exact Nat.le_refl _ | omega | (simp; done) | (simp; omega)) _) | (with_reducible refine Below.alloc ?_ (by first | exact Nat.le_refl _ | omega | (simp; done) | (simp; omega)) _) | with_reducible refine Below.drew ?_ | with_reducible refine bel_drewN ?_ _ | (with_reducible refine bel_by (by with_reducible assumption) (by first | exact Nat.le_refl _ | omega | (simp; done) | (simp; omega)) ?_)))⟩
  · have HS := Lib.hid (HM.out.trans (if_neg h0))
    have hl0 : ((len : Int) == 0) = false := by simp; omega
    clear HM
    go_enter Tryd.func34, Tryd.ntmps34
    go_wp2_with fail
    refine (HC.out _ (by repeat (first | with_reducible exact Below.refl _ _ | (with_reducible refine Below.setCell ?_ (by first | exact Nat.le_refl _ | omega | (simp; done) | (simp; omega)) _) | (with_reducible refine Below.alloc ?_ (by first | exact Nat.le_refl _ | omega | (simp; done) | (simp; omega)) _) | with_reducible refine Below.drew ?_ | with_reducible refine bel_drewN ?_ _ | (with_reducible refine bel_by (by with_reducible assumption) (by first | exact Nat.le_refl _ | omega | (simp; done) | (simp; omega)) ?_)))).mono ?_
    rintro e w1 ⟨rfl, hb1⟩
    obtain ⟨hc1, hf1⟩ := bcell hb1
    have hz1 := bsize hb1
    simp at hz1
    have k0 : w.heap.size < w1.heap.size := by omega
    have r0 : w1.cell? ⟨w.heap.size, 0, none⟩ = some (.int .i64 0) := by simp [go_sem, hc1, k0]
    have r1 : w1.cell? ⟨w.heap.size, 1, none⟩ = some (.int .i64 0) := by simp [go_sem, hc1, k0]
    have f0 : w1.frozen? ⟨w.heap.size, 0, none⟩ = false := by simp [go_sem, hf1, k0]
    have f1 : w1.frozen? ⟨w.heap.size, 1, none⟩ = false := by simp [go_sem, hf1, k0]
    have hbW : Below w.heap.size w w1 := (by repeat (first | with_reducible exact Below.refl _ _ | (with_reducible refine Below.setCell ?_ (by first | exact Nat.le_refl _ | omega | (simp; done) | (simp; omega)) _) | (with_reducible refine Below.alloc ?_ (by first | exact Nat.le_refl _ | omega | (simp; done) | (simp; omega)) _) | with_reducible refine Below.drew ?_ | with_reducible refine bel_drewN ?_ _ | (with_reducible refine bel_by (by with_reducible assumption) (by first | exact Nat.le_refl _ | omega | (simp; done) | (simp; omega)) ?_)))
    clear hc1 hf1 hz1 hb1
    cases ht : (t.2.2 == 0)
    · have ht' : (t.2.2 != 0) = true := by simp [bne, ht]
      have HT := Lib.hid (show ¬ t.2.2 = 0 by simpa using ht)
      go_wp2
      refine bodyPost_ret (v := fracE (0, 0, t.2.2)) (by simp [results, Tryd.results34, go_sem, r0, r1, f0, f1, k0]) rfl ⟨by rw [HS.out, if_neg HT.out], (by repeat (first | with_reducible exact Below.refl _ _ | (with_reducible refine Below.setCell ?_ (by first | exact Nat.le_refl _ | omega | (simp; done) | (simp; omega)) _) | (with_reducible refine Below.alloc ?_ (by first | exact Nat.le_refl _ | omega | (simp; done) | (simp; omega)) _) | with_reducible refine Below.drew ?_ | with_reducible refine bel_drewN ?_ _ | (with_reducible refine bel_by (by with_reducible assumption) (by first | exact Nat.le_refl _ | omega | (simp; done) | (simp; omega)) ?_)))⟩
    · have ht' : (t.2.2 != 0) = false := by simp [bne, ht]
      have HT := Lib.hid (show t.2.2 = 0 by simpa using ht)
      generalize divS t.1 t.2.1 len 1 = q at *
      go_wp2_with fail
      refine (HD.out _).mono ?_
      rintro e w2 ⟨rfl, hb2⟩
      have hz2 := bsize hb2
      simp at hz2
      have m0 : w.heap.size < w2.heap.size := by omega
      have p0 : w2.cell? ⟨w.heap.size, 0, none⟩ = some (.int .i64 0) := (hb2.cell (by simp; omega)).trans (by simp [go_sem, r0, k0])
      have p1 : w2.cell? ⟨w.heap.size, 1, none⟩ = some (.int .i64 0) := (hb2.cell (by simp; omega)).trans (by simp [go_sem, r1, k0])
      have p2 : w2.frozen? ⟨w.heap.size, 0, none⟩ = false := (hb2.frozen (by simp; omega)).trans (by simp [go_sem, f0, k0])
      have p3 : w2.frozen? ⟨w.heap.size, 1, none⟩ = false := (hb2.frozen (by simp; omega)).trans (by simp [go_sem, f1, k0])
      go_wp2
      refine bodyPost_ret (v := fracE q) (by simp [results, Tryd.results34, go_sem, p0, p1, p2, p3, m0]) rfl ⟨by rw [HS.out, if_pos HT.out], (by repeat (first | with_reducible exact Below.refl _ _ | (with_reducible refine Below.setCell ?_ (by first | exact Nat.le_refl _ | omega | (simp; done) | (simp; omega)) _) | (with_reducible refine Below.alloc ?_ (by first | exact Nat.le_refl _ | omega | (simp; done) | (simp; omega)) _) | with_reducible refine Below.drew ?_ | with_reducible refine bel_drewN ?_ _ | (with_reducible refine bel_by (by with_reducible assumption) (by first | exact Nat.le_refl _ | omega | (simp; done) | (simp; omega)) ?_)))⟩

set_option maxHeartbeats 2000000 in
set_option maxRecDepth 100000 in
/-- the reference's Mean, over its Sum -/
theorem rmean_of {a : Option Addr} {b off len cap : Nat} {xs : List (Int × Int)} {w : World} (h : SlF w a b off len cap xs)
    (HC : Hid (∀ W, Below w.heap.size w W → Calls Tryd.prog 33 #[.slice a len cap] W fun e w' => e = .returned (fracE (sumL xs)) ∧ Below W.heap.size W w')) :
    Calls Tryd.prog 35 #[.slice a len cap] w fun e w' => e = .returned (fracE (meanL xs)) ∧ Below w.heap.size w w' := by
  have hcap := h.hcap
  have hl := h.hl
  unfold maxLen at hcap
  have HM := Lib.hid (show meanL xs = if len = 0 then (0, 0, 1) else if (sumL xs).2.2 = 0 then divS (sumL xs).1 (sumL xs).2.1 len 1 else (0, 0, (sumL xs).2.2) by unfold meanL; rw [h.hlen])
  have HD := Lib.hid (fun W => rdiv_any (sumL xs).1 (sumL xs).2.1 len 1 (sumL_wf xs) (whole_wf (by omega)) W)
  have HW := Lib.hid (fun W => rwhole_any len W)
  clear h
  generalize meanL xs = m at *
  generalize sumL xs = t at *
  by_cases h0 : len = 0
  · subst h0
    have HS := Lib.hid (HM.out.trans (if_pos rfl))
    clear HM
    go_enter Tryd.func35, Tryd.ntmps35
    go_wp2
    refine bodyPost_ret (v := fracE (0, 0, 1)) (by simp [results, Tryd.results35, go_sem]) rfl ⟨by rw [HS.out], (by repeat (first | with_reducible exact Below.refl _ _ | (with_reducible refine Below.setCell ?_ (by first | exact Nat.le_refl _ | omega | (simp; done) | (simp; omega)) _) | (with_reducible refine Below.alloc ?_ (by first | exact Nat.le_refl _ | omega | (simp; done) | (simp; omega)) _) | with_reducible refine Below.drew ?_ | with_reducible refine bel_drewN ?_ _ | (with_reducible refine bel_by (by with_reducible assumption) (by first | exact Nat.le_refl _ | omega | (simp; done) | (simp; omega)) ?_)))⟩
  · have HS := Lib.hid (HM.out.trans (if_neg h0))
    have hl0 : ((len : Int) == 0) = false := by simp; omega
    clear HM
    go_enter Tryd.func35, Tryd.ntmps35
    go_wp2_with fail
    refine (HC.out _ (by repeat (first | with_reducible exact Below.refl _ _ | (with_reducible refine Below.setCell ?_ (by first | exact Nat.le_refl _ | omega | (simp; done) | (simp; omega)) _) | (with_reducible refine Below.alloc ?_ (by first | exact Nat.le_refl _ | omega | (simp; done) | (simp; omega)) _) | with_reducible refine Below.drew ?_ | with_reducible refine bel_drewN ?_ _ | (with_reducible refine bel_by (by with_reducible assumption) (by first | exact Nat.le_refl _ | omega | (simp; done) | (simp; omega)) ?_)))).mono ?_
    rintro e w1 ⟨rfl, hb1⟩
    obtain ⟨hc1, hf1⟩ := bcell hb1
    have hz1 := bsize hb1
    simp at hz1
    have k0 : w.heap.size < w1.heap.size := by omega
    have r0 : w1.cell? ⟨w.heap.size, 0, none⟩ = some (.int .i64 0) := by simp [go_sem, hc1, k0]
    have r1 : w1.cell? ⟨w.heap.size, 1, none⟩ = some (.int .i64 0) := by simp [go_sem, hc1, k0]
    have f0 : w1.frozen? ⟨w.heap.size, 0, none⟩ = false := by simp [go_sem, hf1, k0]
    have f1 : w1.frozen? ⟨w.heap.size, 1, none⟩ = false := by simp [go_sem, hf1, k0]
    have hbW : Below w.heap.size w w1 := (by repeat (first | with_reducible exact Below.refl _ _ | (with_reducible refine Below.setCell ?_ (by first | exact Nat.le_refl _ | omega | (simp; done) | (simp; omega)) _) | (with_reducible refine Below.alloc ?_ (by first | exact Nat.le_refl _ | omega | (simp; done) | (simp; omega)) _) | with_reducible refine Below.drew ?_ | with_reducible refine bel_drewN ?_ _ | (with_reducible refine bel_by (by with_reducible assumption) (by first | exact Nat.le_refl _ | omega | (simp; done) | (simp; omega)) ?_)))
    clear hc1 hf1 hz1 hb1
    cases ht : (t.2.2 == 0)
    · have ht' : (t.2.2 != 0) = true := by simp [bne, ht]
      have HT := Lib.hid (show ¬ t.2.2 = 0 by simpa using ht)
      go_wp2
      refine bodyPost_ret (v := fracE (0, 0, t.2.2)) (by simp [results, Tryd.results35, go_sem, r0, r1, f0, f1, k0]) rfl ⟨by rw [HS.out, if_neg HT.out], (by repeat (first | with_reducible exact Below.refl _ _ | (with_reducible refine Below.setCell ?_ (by first | exact Nat.le_refl _ | omega | (simp; done) | (simp; omega)) _) | (with_reducible refine Below.alloc ?_ (by first | exact Nat.le_refl _ | omega | (simp; done) | (simp; omega)) _) | with_reducible refine Below.drew ?_ | with_reducible refine bel_drewN ?_ _ | (with_reducible refine bel_by (by with_reducible assumption) (by first | exact Nat.le_refl _ | omega | (simp; done) | (simp; omega)) ?_)))⟩
    · have ht' : (t.2.2 != 0) = false := by simp [bne, ht]
      have HT := Lib.hid (show t.2.2 = 0 by simpa using ht)
      generalize divS t.1 t.2.1 len 1 = q at *
      go_upto_region 6 with fail
      have hK : Below w1.heap.size w1 (w1.alloc (.cells #[.int .i64 t.1, .int .i64 t.2.1] 23)) := (by repeat (first | with_reducible exact Below.refl _ _ | (with_reducible refine Below.setCell ?_ (by first | exact Nat.le_refl _ | omega | (simp; done) | (simp; omega)) _) | (with_reducible refine Below.alloc ?_ (by first | exact Nat.le_refl _ | omega | (simp; done) | (simp; omega)) _) | with_reducible refine Below.drew ?_ | with_reducible refine bel_drewN ?_ _ | (with_reducible refine bel_by (by with_reducible assumption) (by first | exact Nat.le_refl _ | omega | (simp; done) | (simp; omega)) ?_)))
      have r0 := (hK.cell (p := ⟨w.heap.size, 0, none⟩) k0).trans r0
      have r1 := (hK.cell (p := ⟨w.heap.size, 1, none⟩) k0).trans r1
      have f0 := (hK.frozen (p := ⟨w.heap.size, 0, none⟩) k0).trans f0
      have f1 := (hK.frozen (p := ⟨w.heap.size, 1, none⟩) k0).trans f1
      have s0 : (w1.alloc (.cells #[.int .i64 t.1, .int .i64 t.2.1] 23)).cell? ⟨w1.heap.size, 0, none⟩ = some (.int .i64 t.1) := by simp [go_sem]
      have s1 : (w1.alloc (.cells #[.int .i64 t.1, .int .i64 t.2.1] 23)).cell? ⟨w1.heap.size, 1, none⟩ = some (.int .i64 t.2.1) := by simp [go_sem]
      have hzA : (w1.alloc (.cells #[.int .i64 t.1, .int .i64 t.2.1] 23)).heap.size = w1.heap.size + 1 := by simp
      have hbA : Below w.heap.size w (w1.alloc (.cells #[.int .i64 t.1, .int .i64 t.2.1] 23)) := hbW.trans (hK.mono (by omega))
      generalize w1.alloc (.cells #[.int .i64 t.1, .int .i64 t.2.1] 23) = wA at *
      clear hK hbW
      have j0 : w.heap.size < wA.heap.size := by omega
      have j1 : w1.heap.size < wA.heap.size := by omega
      go_region_held3 (fun w' => w'.cell? ⟨w1.heap.size, 0, none⟩ = some (.int .i64 t.1) ∧ w'.cell? ⟨w1.heap.size, 1, none⟩ = some (.int .i64 t.2.1))
        ((first | (simp [go_sem, s0, s1]; done)))
        (first
          | (go_at_call 58; refine (HW.out _).mono ?_; rintro e w2 ⟨rfl, hb⟩; (repeat (with_reducible replace hb := undrew hb)); have s0 := (hb.cell (p := ⟨w1.heap.size, 0, none⟩) j1).trans s0; have s1 := (hb.cell (p := ⟨w1.heap.size, 1, none⟩) j1).trans s1; have r0 := (hb.cell (p := ⟨w.heap.size, 0, none⟩) j0).trans r0; have r1 := (hb.cell (p := ⟨w.heap.size, 1, none⟩) j0).trans r1; have f0 := (hb.frozen (p := ⟨w.heap.size, 0, none⟩) j0).trans f0; have f1 := (hb.frozen (p := ⟨w.heap.size, 1, none⟩) j0).trans f1; have hz := bsize hb; (try simp at hz); have j0 : w.heap.size < w2.heap.size := (by omega); have j1 : w1.heap.size < w2.heap.size := (by omega))
          | (go_at_call 29; refine (HD.out _).mono ?_; rintro e w3 ⟨rfl, hb⟩; (repeat (with_reducible replace hb := undrew hb)); have s0 := (hb.cell (p := ⟨w1.heap.size, 0, none⟩) j1).trans s0; have s1 := (hb.cell (p := ⟨w1.heap.size, 1, none⟩) j1).trans s1; have r0 := (hb.cell (p := ⟨w.heap.size, 0, none⟩) j0).trans r0; have r1 := (hb.cell (p := ⟨w.heap.size, 1, none⟩) j0).trans r1; have f0 := (hb.frozen (p := ⟨w.heap.size, 0, none⟩) j0).trans f0; have f1 := (hb.frozen (p := ⟨w.heap.size, 1, none⟩) j0).trans f1; have hz := bsize hb; (try simp at hz); have j0 : w.heap.size < w3.heap.size := (by omega); have j1 : w1.heap.size < w3.heap.size := (by omega)))
      all_goals
        go_wp2
        refine bodyPost_ret (v := fracE q) (by simp [results, Tryd.results35, go_sem, r0, r1, f0, f1, j0]) rfl ⟨by rw [HS.out, if_pos HT.out], (by repeat (first | with_reducible exact Below.refl _ _ | (with_reducible refine Below.setCell ?_ (by first | exact Nat.le_refl _ | omega | (simp; done) | (simp; omega)) _) | (with_reducible refine Below.alloc ?_ (by first | exact Nat.le_refl _ | omega | (simp; done) | (simp; omega)) _) | with_reducible refine Below.drew ?_ | with_reducible refine bel_drewN ?_ _ | (with_reducible refine bel_by (by with_reducible assumption) (by first | exact Nat.le_refl _ | omega | (simp; done) | (simp; omega)) ?_)))⟩
end Go.Proofs.YtfdalnkdeeminaaDoor
