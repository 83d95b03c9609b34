/- Contracts over slices: the reference's Sum and Mean. -/
import Derived.Test.YtfdalnkdeeminaaDoorLstB
set_option linter.unusedSimpArgs false
set_option linter.unusedVariables false
namespace Go.Proofs.YtfdalnkdeeminaaDoor
open Go.RowKit

theorem radd_yes' (an ad bn bd : Int) (av : vldI an ad = true) (bv : vldI bn bd = true) (w : World) :
    Calls Tryd.prog 23 #[.agg #[.int .i64 an, .int .i64 ad], .agg #[.int .i64 bn, .int .i64 bd]] w fun e w' => e = .returned (fracE (addS an ad bn bd)) ∧ Below w.heap.size w w' := by
  obtain ⟨a1, a2, a3, a4, _⟩ := vldI_out av
  obtain ⟨b1, b2, b3, b4, _⟩ := vldI_out bv
  exact radd_any an ad bn bd ⟨by simp only; omega, by simp only; omega, by simp only; omega, by simp only; omega⟩ ⟨by simp only; omega, by simp only; omega, by simp only; omega, by simp only; omega⟩ w

set_option maxHeartbeats 4000000 in
set_option maxRecDepth 100000 in
/-- the reference's Sum -/
theorem rsum_any {a : Option Addr} {b off len cap : Nat} {xs : List (Int × Int)} {w : World} (h : SlF w a b off len cap xs) :
    Calls Tryd.prog 33 #[.slice a len cap] w fun e w' => e = .returned (fracE (sumL xs)) ∧ Below w.heap.size w w' := by
  have hcap := h.hcap
  have hl := h.hl
  unfold maxLen at hcap
  have HLEN := Lib.hid h.hlen
  have HX := Lib.hid h
  have HWH := Lib.hid (fun W => rwhole_any 0 W)
  clear h
  go_enter Tryd.func33, Tryd.ntmps33
  go_wp2
  have r0 : (w.alloc (.cells #[.int .i64 0, .int .i64 0] 23)).cell? ⟨w.heap.size, 0, none⟩ = some (.int .i64 0) := by simp [go_sem]
  have r1 : (w.alloc (.cells #[.int .i64 0, .int .i64 0] 23)).cell? ⟨w.heap.size, 1, none⟩ = some (.int .i64 0) := by simp [go_sem]
  have f0 : (w.alloc (.cells #[.int .i64 0, .int .i64 0] 23)).frozen? ⟨w.heap.size, 0, none⟩ = false := by simp [go_sem]
  have f1 : (w.alloc (.cells #[.int .i64 0, .int .i64 0] 23)).frozen? ⟨w.heap.size, 1, none⟩ = false := by simp [go_sem]
  have hb0 : Below w.heap.size w (w.alloc (.cells #[.int .i64 0, .int .i64 0] 23)) := (by repeat (first | with_reducible exact Below.refl _ _ | (with_reducible refine Below.setCell ?_ (by first | exact Nat.le_refl _ | omega | (simp; done) | (simp; omega)) _) | (with_reducible refine Below.alloc ?_ (by first | exact Nat.le_refl _ | omega | (simp; done) | (simp; omega)) _) | with_reducible refine Below.drew ?_ | with_reducible refine bel_drewN ?_ _ | (with_reducible refine bel_by (by with_reducible assumption) (by first | exact Nat.le_refl _ | omega | (simp; done) | (simp; omega)) ?_)))
  have hz0 : (w.alloc (.cells #[.int .i64 0, .int .i64 0] 23)).heap.size = w.heap.size + 1 := by simp
  generalize w.alloc (.cells #[.int .i64 0, .int .i64 0] 23) = w0 at *
  have k0 : w.heap.size < w0.heap.size := by omega
  have HB0 := Lib.hid hb0
  clear hb0
  go_loopw [4] (fun s4 wr => ∃ k : Nat, k ≤ len ∧ allV (xs.take k) = true ∧ s4 = .int .i64 k ∧ Below w0.heap.size w0 wr) (fun s4 _ => (len - (intOf s4)).toNat)
  case atStart => exact ⟨0, Nat.zero_le _, rfl, rfl, Below.refl _ _⟩
  case round =>
    obtain ⟨k, hk, hall, rfl, hbel⟩ := hrel
    have HALL := Lib.hid hall
    clear hall
    have hz1 := bsize hbel
    have k1 : w.heap.size < wr.heap.size := by omega
    have rr0 := (hbel.cell (p := ⟨w.heap.size, 0, none⟩) k0).trans r0
    have rr1 := (hbel.cell (p := ⟨w.heap.size, 1, none⟩) k0).trans r1
    have ff0 := (hbel.frozen (p := ⟨w.heap.size, 0, none⟩) k0).trans f0
    have ff1 := (hbel.frozen (p := ⟨w.heap.size, 1, none⟩) k0).trans f1
    have HBEL := Lib.hid hbel
    clear r0 r1 f0 f1
    by_cases hlt : k < len
    · have hlx : k < xs.length := by rw [HLEN.out]; exact hlt
      obtain ⟨c0, c1⟩ := HX.out.hc k hlx
      have hb := HX.out.hb (by omega)
      obtain rfl := HX.out.ha (by omega)
      have hwk := HX.out.hw _ (List.getElem_mem hlx)
      have c0 := (HB0.out.cell (p := ⟨b, off + k * 2, none⟩) hb).trans c0
      have c1 := (HB0.out.cell (p := ⟨b, off + k * 2 + 1, none⟩) hb).trans c1
      have c0 := (hbel.cell (p := ⟨b, off + k * 2, none⟩) (show b < _ by omega)).trans c0
      have c1 := (hbel.cell (p := ⟨b, off + k * 2 + 1, none⟩) (show b < _ by omega)).trans c1
      have HV := Lib.hid (fun W => rvalid_any (xs[k]'hlx).1 (xs[k]'hlx).2 hwk.1 hwk.2.1 hwk.2.2.1 hwk.2.2.2 W)
      have HB := Lib.hid (allV_bad xs k hlx)
      have HS := Lib.hid (allV_take_succ xs k hlx)
      clear hwk hbel
      generalize (xs[k]'hlx).1 = n at *
      generalize (xs[k]'hlx).2 = d at *
      go_wp2_with fail
      refine (HV.out _).mono ?_
      rintro e w1 ⟨rfl, hb1⟩
      have hbel := HBEL.out
      have hz2 := bsize hb1
      have m0 : w.heap.size < w1.heap.size := by omega
      have p0 := (hb1.cell (p := ⟨w.heap.size, 0, none⟩) k1).trans rr0
      have p1 := (hb1.cell (p := ⟨w.heap.size, 1, none⟩) k1).trans rr1
      have p2 := (hb1.frozen (p := ⟨w.heap.size, 0, none⟩) k1).trans ff0
      have p3 := (hb1.frozen (p := ⟨w.heap.size, 1, none⟩) k1).trans ff1
      have hbA : Below w0.heap.size w0 w1 := hbel.trans (hb1.mono hz1)
      have HBA := Lib.hid hbA
      clear hb1 hbel hbA
      by_cases hv : vldI n d = true
      · rw [hv]
        have HVT := Lib.hid hv
        clear hv
        go_wp2
        have hbA := HBA.out
        go_roundw
        case rel => exact ⟨k + 1, by omega, by rw [HS.out, HALL.out, HVT.out]; rfl, by go_num, (by repeat (first | with_reducible exact Below.refl _ _ | (with_reducible refine Below.setCell ?_ (by first | exact Nat.le_refl _ | omega | (simp; done) | (simp; omega)) _) | (with_reducible refine Below.alloc ?_ (by first | exact Nat.le_refl _ | omega | (simp; done) | (simp; omega)) _) | with_reducible refine Below.drew ?_ | with_reducible refine bel_drewN ?_ _ | (with_reducible refine bel_by (by with_reducible assumption) (by first | exact Nat.le_refl _ | omega | (simp; done) | (simp; omega)) ?_)))⟩
        case measure => simp [intOf]; omega
      · rw [Bool.not_eq_true] at hv
        rw [hv]
        have HVF := Lib.hid hv
        clear hv
        go_wp2
        have hbA := HBA.out
        have hb0 := HB0.out
        refine bodyPost_ret (v := fracE (0, 0, 1)) (by simp [results, Tryd.results33, go_sem, p0, p1, p2, p3, m0]) rfl ⟨?_, (by repeat (first | with_reducible exact Below.refl _ _ | (with_reducible refine Below.setCell ?_ (by first | exact Nat.le_refl _ | omega | (simp; done) | (simp; omega)) _) | (with_reducible refine Below.alloc ?_ (by first | exact Nat.le_refl _ | omega | (simp; done) | (simp; omega)) _) | with_reducible refine Below.drew ?_ | with_reducible refine bel_drewN ?_ _ | (with_reducible refine bel_by (by with_reducible assumption) (by first | exact Nat.le_refl _ | omega | (simp; done) | (simp; omega)) ?_)))⟩
        unfold sumL
        rw [HB.out HVF.out]
        rfl
    · have HV : Hid (allV xs = true) := by
        have := HALL.out
        rw [show k = xs.length by rw [HLEN.out]; omega, List.take_length] at this
        exact this
      have HS := Lib.hid (show sumL xs = sumF (0, 1) xs by unfold sumL; rw [if_pos HV.out])
      clear HALL hbel
      go_wp2_with fail
      refine (HWH.out _).mono ?_
      rintro e w1 ⟨rfl, hb1⟩
      have hbel := HBEL.out
      have hzA := bsize hb1
      have m0 : w.heap.size < w1.heap.size := by omega
      have p0 := (hb1.cell (p := ⟨w.heap.size, 0, none⟩) k1).trans rr0
      have p1 := (hb1.cell (p := ⟨w.heap.size, 1, none⟩) k1).trans rr1
      have p2 := (hb1.frozen (p := ⟨w.heap.size, 0, none⟩) k1).trans ff0
      have p3 := (hb1.frozen (p := ⟨w.heap.size, 1, none⟩) k1).trans ff1
      have hbA : Below w0.heap.size w0 w1 := hbel.trans (hb1.mono hz1)
      have HBW := Lib.hid (HB0.out.trans (hbA.mono HB0.out.size))
      clear hb1 hbel hbA rr0 rr1 ff0 ff1 HBEL hzA k1 hz1
      go_wp2
      go_loopw [6] (fun s6 ws => ∃ (j : Nat) (n d : Int), j ≤ len ∧ s6 = .int .i64 j ∧ vldI n d = true ∧ sumF (n, d) (xs.drop j) = sumF (0, 1) xs ∧ ws.cell? ⟨w1.heap.size, 0, none⟩ = some (.int .i64 n) ∧ ws.cell? ⟨w1.heap.size, 1, none⟩ = some (.int .i64 d) ∧
          ws.frozen? ⟨w1.heap.size, 0, none⟩ = false ∧ ws.frozen? ⟨w1.heap.size, 1, none⟩ = false ∧ w1.heap.size < ws.heap.size ∧ Below w1.heap.size w1 ws) (fun s6 _ => (len - (intOf s6)).toNat)
      case atStart => exact ⟨0, 0, 1, Nat.zero_le _, rfl, vld01, rfl, by simp [go_sem], by simp [go_sem], by simp [go_sem], by simp [go_sem], by simp, (by repeat (first | with_reducible exact Below.refl _ _ | (with_reducible refine Below.setCell ?_ (by first | exact Nat.le_refl _ | omega | (simp; done) | (simp; omega)) _) | (with_reducible refine Below.alloc ?_ (by first | exact Nat.le_refl _ | omega | (simp; done) | (simp; omega)) _) | with_reducible refine Below.drew ?_ | with_reducible refine bel_drewN ?_ _ | (with_reducible refine bel_by (by with_reducible assumption) (by first | exact Nat.le_refl _ | omega | (simp; done) | (simp; omega)) ?_)))⟩
      case round =>
        obtain ⟨j, n, d, hj, rfl, nv, hsum, z0, z1, y0, y1, hz, hbel⟩ := hrel
        have HSUM := Lib.hid hsum
        have HBEL := Lib.hid hbel
        clear hsum
        have rr0 := (hbel.cell (p := ⟨w.heap.size, 0, none⟩) m0).trans p0
        have rr1 := (hbel.cell (p := ⟨w.heap.size, 1, none⟩) m0).trans p1
        have ff0 := (hbel.frozen (p := ⟨w.heap.size, 0, none⟩) m0).trans p2
        have ff1 := (hbel.frozen (p := ⟨w.heap.size, 1, none⟩) m0).trans p3
        have hbW := HBW.out
        have k1 : w.heap.size < wr.heap.size := by omega
        by_cases hlt2 : j < len
        · have hlx : j < xs.length := by rw [HLEN.out]; exact hlt2
          obtain ⟨c0, c1⟩ := HX.out.hc j hlx
          have hb := HX.out.hb (by omega)
          obtain rfl := HX.out.ha (by omega)
          have hbs := hbW.size
          have c0 := (hbW.cell (p := ⟨b, off + j * 2, none⟩) hb).trans c0
          have c1 := (hbW.cell (p := ⟨b, off + j * 2 + 1, none⟩) hb).trans c1
          have c0 := (hbel.cell (p := ⟨b, off + j * 2, none⟩) (show b < _ by omega)).trans c0
          have c1 := (hbel.cell (p := ⟨b, off + j * 2 + 1, none⟩) (show b < _ by omega)).trans c1
          have k2 : b < wr.heap.size := by omega
          have xv := allV_get HV.out hlx
          have HD := Lib.hid (sumF_drop (n, d) xs j hlx)
          have HC0 : ∀ W, Calls Tryd.prog 23 #[.agg #[.int .i64 n, .int .i64 d], .agg #[.int .i64 (xs[j]'hlx).1, .int .i64 (xs[j]'hlx).2]] W fun e w' => e = .returned (fracE (sumS n d (xs[j]'hlx).1 (xs[j]'hlx).2)) ∧ Below W.heap.size W w' := by
            intro W
            rw [← sumS_yes nv xv]
            exact radd_yes' n d _ _ nv xv W
          have HC := Lib.hid HC0
          have HG := Lib.hid (sumS_ok nv xv)
          clear xv nv hbW hbel HC0
          generalize (xs[j]'hlx).1 = xn at *
          generalize (xs[j]'hlx).2 = xd at *
          generalize sumS n d xn xd = t at *
          have n3 : w1.heap.size < wr.heap.size + 1 := by omega
          have n4 : b < wr.heap.size + 1 := by omega
          go_upto_region 10 with fail
          go_cut [7, 8] from 23 to 42 (fun s7 s8 wx => ∃ g : Nat, s7 = .pointer (some ⟨g, 0, none⟩) ∧ s8 = .int .i64 t.2.2 ∧ wx.cell? ⟨g, 0, none⟩ = some (.int .i64 t.1) ∧ wx.cell? ⟨g, 1, none⟩ = some (.int .i64 t.2.1) ∧ g < wx.heap.size ∧ wr.heap.size ≤ g ∧ Below wr.heap.size wr wx)
          case first =>
            go_region_held3 (fun w' => w'.cell? ⟨w1.heap.size, 0, none⟩ = some (.int .i64 n) ∧ w'.cell? ⟨w1.heap.size, 1, none⟩ = some (.int .i64 d) ∧ w'.cell? ⟨b, off + j * 2, none⟩ = some (.int .i64 xn) ∧ w'.cell? ⟨b, off + j * 2 + 1, none⟩ = some (.int .i64 xd))
              ((first | (simp [go_sem, z0, z1, c0, c1, hz, k2]; done) | (simp (maxDischargeDepth := 6) [go_sem, z0, z1, c0, c1, hz, k2, n3, n4]; done) | (simp (maxDischargeDepth := 6) [go_sem, hc2, z0, z1, c0, c1, hz, k2, n1, n2, n3, n4]; done)))
              (first
                | (go_at_call 23; refine (HC.out _).mono ?_; rintro e w2 ⟨rfl, hb2⟩; (repeat (with_reducible replace hb2 := undrew hb2)); obtain ⟨hc2, hf2⟩ := bcell hb2; have hz2 := bsize hb2; (try simp at hz2); have n1 : w1.heap.size < w2.heap.size := (by omega); have n2 : b < w2.heap.size := (by omega)))
            all_goals
              go_wp2_with fail
              go_meet
              refine ⟨_, rfl, rfl, ?_, ?_, ?_, ?_, (by repeat (first | with_reducible exact Below.refl _ _ | (with_reducible refine Below.setCell ?_ (by first | exact Nat.le_refl _ | omega | (simp; done) | (simp; omega)) _) | (with_reducible refine Below.alloc ?_ (by first | exact Nat.le_refl _ | omega | (simp; done) | (simp; omega)) _) | with_reducible refine Below.drew ?_ | with_reducible refine bel_drewN ?_ _ | (with_reducible refine bel_by (by with_reducible assumption) (by first | exact Nat.le_refl _ | omega | (simp; done) | (simp; omega)) ?_)))⟩
              · first | (simp [go_sem]; done) | (simp (maxDischargeDepth := 6) [go_sem, hc2]; done)
              · first | (simp [go_sem]; done) | (simp (maxDischargeDepth := 6) [go_sem, hc2]; done)
              · first | (simp; done) | (simp; omega)
              · first | (simp; done) | (simp; omega) | omega
          case rest =>
            obtain ⟨g, rfl, rfl, g0, g1, hg, hwg, hbC⟩ := hcut
            have hbel := HBEL.out
            have hbA : Below w1.heap.size w1 wc := hbel.trans (hbC.mono (by omega))
            have hzC := hbC.size
            have p0 := (hbA.cell (p := ⟨w.heap.size, 0, none⟩) m0).trans p0
            have p1 := (hbA.cell (p := ⟨w.heap.size, 1, none⟩) m0).trans p1
            have p2 := (hbA.frozen (p := ⟨w.heap.size, 0, none⟩) m0).trans p2
            have p3 := (hbA.frozen (p := ⟨w.heap.size, 1, none⟩) m0).trans p3
            have q0 := (hbC.cell (p := ⟨w1.heap.size, 0, none⟩) hz).trans z0
            have q1 := (hbC.cell (p := ⟨w1.heap.size, 1, none⟩) hz).trans z1
            have q2 := (hbC.frozen (p := ⟨w1.heap.size, 0, none⟩) hz).trans y0
            have q3 := (hbC.frozen (p := ⟨w1.heap.size, 1, none⟩) hz).trans y1
            have m1 : w1.heap.size < wc.heap.size := by omega
            have m2 : w.heap.size < wc.heap.size := by omega
            have m3 : ¬ g = w1.heap.size := by omega
            have HBA := Lib.hid hbA
            clear hbel hbC hbA z0 z1 y0 y1 rr0 rr1 ff0 ff1 c0 c1
            cases ht : (t.2.2 == 0)
            · have ht' : (t.2.2 != 0) = true := by simp [bne, ht]
              have HT := Lib.hid (show ¬ t.2.2 = 0 by simpa using ht)
              go_wp2
              have hbA := HBA.out
              have hbW := HBW.out
              have hbs := hbW.size
              refine bodyPost_ret (v := fracE (0, 0, t.2.2)) (by simp [results, Tryd.results33, go_sem, p0, p1, p2, p3, m2]) rfl ⟨?_, (by repeat (first | with_reducible exact Below.refl _ _ | (with_reducible refine Below.setCell ?_ (by first | exact Nat.le_refl _ | omega | (simp; done) | (simp; omega)) _) | (with_reducible refine Below.alloc ?_ (by first | exact Nat.le_refl _ | omega | (simp; done) | (simp; omega)) _) | with_reducible refine Below.drew ?_ | with_reducible refine bel_drewN ?_ _ | (with_reducible refine bel_by (by with_reducible assumption) (by first | exact Nat.le_refl _ | omega | (simp; done) | (simp; omega)) ?_)))⟩
              have e1 := HD.out
              rw [if_neg HT.out, HSUM.out] at e1
              rw [HS.out, e1]
            · have ht' : (t.2.2 != 0) = false := by simp [bne, ht]
              have HT := Lib.hid (show t.2.2 = 0 by simpa using ht)
              go_wp2
              have hbA := HBA.out
              go_roundw
              case rel =>
                refine ⟨j + 1, t.1, t.2.1, by omega, by go_num, HG.out HT.out, ?_, ?_, ?_, ?_, ?_, ?_, (by repeat (first | with_reducible exact Below.refl _ _ | (with_reducible refine Below.setCell ?_ (by first | exact Nat.le_refl _ | omega | (simp; done) | (simp; omega)) _) | (with_reducible refine Below.alloc ?_ (by first | exact Nat.le_refl _ | omega | (simp; done) | (simp; omega)) _) | with_reducible refine Below.drew ?_ | with_reducible refine bel_drewN ?_ _ | (with_reducible refine bel_by (by with_reducible assumption) (by first | exact Nat.le_refl _ | omega | (simp; done) | (simp; omega)) ?_)))⟩
                · have e1 := HD.out
                  rw [if_pos HT.out, HSUM.out] at e1
                  exact e1.symm
                · simp (maxDischargeDepth := 6) [go_sem, q0, q1, q2, q3, m1]
                · simp (maxDischargeDepth := 6) [go_sem, q0, q1, q2, q3, m1]
                · simp (maxDischargeDepth := 6) [go_sem, q0, q1, q2, q3, m1]
                · simp (maxDischargeDepth := 6) [go_sem, q0, q1, q2, q3, m1]
                · first | exact m1 | (simp; omega)
              case measure => simp [intOf]; omega
        · have HE := Lib.hid (show xs.drop j = [] by rw [List.drop_eq_nil_iff, HLEN.out]; omega)
          clear hbel hbW
          go_wp2
          have hbel := HBEL.out
          have hbW := HBW.out
          have hbs := hbW.size
          refine bodyPost_ret (v := fracE (n, d, 0)) (by simp [results, Tryd.results33, go_sem, rr0, rr1, ff0, ff1, z0, z1, k1]) rfl ⟨?_, (by repeat (first | with_reducible exact Below.refl _ _ | (with_reducible refine Below.setCell ?_ (by first | exact Nat.le_refl _ | omega | (simp; done) | (simp; omega)) _) | (with_reducible refine Below.alloc ?_ (by first | exact Nat.le_refl _ | omega | (simp; done) | (simp; omega)) _) | with_reducible refine Below.drew ?_ | with_reducible refine bel_drewN ?_ _ | (with_reducible refine bel_by (by with_reducible assumption) (by first | exact Nat.le_refl _ | omega | (simp; done) | (simp; omega)) ?_)))⟩
          have e1 := HSUM.out
          rw [HE.out] at e1
          rw [HS.out, ← e1]
          rfl

theorem rmean_any {a : Option Addr} {b off len cap : Nat} {xs : List (Int × Int)} {w : World} (h : SlF w a b off len cap xs) :
    Calls Tryd.prog 35 #[.slice a len cap] w fun e w' => e = .returned (fracE (meanL xs)) ∧ Below w.heap.size w w' :=
  rmean_of h (fun _ hB => rsum_any (h.keep hB))
end Go.Proofs.YtfdalnkdeeminaaDoor
