/- The reference's Weight. -/
import Derived.Test.YtpcdbnlljdfogaaRcov
set_option linter.unusedSimpArgs false
set_option linter.unusedVariables false
namespace Go.Proofs.Ytpcdbnlljdfogaa
open Go.RowKit

set_option maxHeartbeats 8000000 in
set_option maxRecDepth 100000 in
theorem rwgt_any (g : Gph) (c : Cvr) (w : World) (hg : GpAt w g) (hc : CvAt w c) (h0 : chk g = 0) (hA : Rises g.L.length c.A) (hB : Rises g.R.length c.B) :
    Calls Try.prog 26 #[g.val, c.val] w fun e w' => e = .returned (.int .i64 (weigh g.L g.R g.E c.A c.B)) ∧ Below w.heap.size w w' := by
  have HB := Lib.hid (((Below.refl w.heap.size w).alloc (Nat.le_refl _) (gBox g)).alloc (by simp) (cBox c))
  have HGB := Lib.hid ((gb_new w g 25).keep ((Below.refl (w.alloc (gBox g)).heap.size (w.alloc (gBox g))).alloc (Nat.le_refl _) (cBox c)))
  have HCB := Lib.hid (show CbAt ((w.alloc (gBox g)).alloc (cBox c)) (w.heap.size + 1) c by have := cb_new (w.alloc (gBox g)) c 36; simpa using this)
  have HG := Lib.hid (hg.keep HB.out)
  have HC := Lib.hid (hc.keep HB.out)
  have HOK := Lib.hid (chk_ok h0)
  have HrA := Lib.hid hA
  have HrB := Lib.hid hB
  have HlA := Lib.hid (rises_len hA)
  have HlB := Lib.hid (rises_len hB)
  have hs0 : w.heap.size ≤ ((w.alloc (gBox g)).alloc (cBox c)).heap.size := HB.out.size
  clear hg hc h0 hA hB
  unfold Gph.val Cvr.val
  obtain ⟨W, hW⟩ : ∃ W, W = weigh g.L g.R g.E c.A c.B := ⟨_, rfl⟩
  rw [← hW]
  have HWg := Lib.hid hW
  clear hW
  have lA : c.A.length ≤ 64 := by have := HOK.out.1; have := HlA.out; omega
  have lB : c.B.length ≤ 64 := by have := HOK.out.2.1; have := HlB.out; omega
  have lE := HOK.out.2.2.1
  have hcA := HC.out.a.hcap
  have hmA := HC.out.a.hmax
  have hcB := HC.out.b.hcap
  have hmB := HC.out.b.hmax
  have hcE := HG.out.e.hcap
  have hmE := HG.out.e.hmax
  have hcL := HG.out.l.hcap
  have hcR := HG.out.r.hcap
  unfold maxLen at hmA hmB hmE
  obtain ⟨g0, g1, g2, gl⟩ := HGB.out
  obtain ⟨d0, d1, dl⟩ := HCB.out
  go_enter Try.func26, Try.ntmps26
  go_wp2_with fail
  go_loopw [5, 6] (fun s5 s6 wq => ∃ (k : Nat) (s : Int), k ≤ c.A.length ∧ s6 = .int .i64 (k : Int) ∧ s5 = .int .i64 s ∧ Hid (Below ((w.alloc (gBox g)).alloc (cBox c)).heap.size ((w.alloc (gBox g)).alloc (cBox c)) wq) ∧ 0 ≤ s ∧ s ≤ 1000 * (k : Int) ∧ Hid (s = sumA g.L (c.A.take k))) (fun _ s6 _ => (c.A.length - (intOf s6)).toNat)
  case atStart => exact ⟨0, 0, Nat.zero_le _, rfl, rfl, Lib.hid (Below.refl _ _), by decide, by decide, Lib.hid rfl⟩
  case round =>
    obtain ⟨k, s, hk, rfl, rfl, HBW, hs1, hs9, HS⟩ := hrel
    have HGW := Lib.hid (HGB.out.keep HBW.out)
    have HCW := Lib.hid (HCB.out.keep HBW.out)
    have HBq := Lib.hid (fun nq => Lib.hid (bel_drewN HBW.out nq))
    clear g0 g1 g2 gl d0 d1 dl
    obtain ⟨g0, g1, g2, gl⟩ := HGW.out
    obtain ⟨d0, d1, dl⟩ := HCW.out
    by_cases hlt : k < c.A.length
    · have hlz : (k : Int) < (c.A.length : Int) := by omega
      have HCa := Lib.hid (HC.out.a.keep HBW.out)
      have HGl := Lib.hid (HG.out.l.keep HBW.out)
      have haA : c.aA = some ⟨c.bA, c.oA, none⟩ := HCa.out.ha (by omega)
      have bA := HCa.out.hb (by omega)
      have c0 := HCa.out.cell k hlt
      have hx0 := HrA.out.1 _ (List.getElem_mem hlt)
      obtain ⟨i, hx⟩ : ∃ i : Nat, c.A[k]'hlt = (i : Int) := ⟨(c.A[k]'hlt).toNat, by omega⟩
      have hi : i < g.L.length := by omega
      have hiz : (i : Int) < (g.L.length : Int) := by omega
      have haL : g.aL = some ⟨g.bL, g.oL, none⟩ := HGl.out.ha (by omega)
      have bL := HGl.out.hb (by omega)
      have l0 := HGl.out.cell i hi
      have hlr := HOK.out.2.2.2.1 _ (List.getElem_mem hi)
      have HS1 := Lib.hid (show s + g.L[i]'hi = sumA g.L (c.A.take (k + 1)) by
        rw [sumA_take hlt, ← HS.out, hx, atI_eq (i := (i : Int)) (by simpa using hi)]
        simp)
      rw [hx] at c0
      rw [haA] at d0
      rw [haL] at g0
      generalize g.L[i]'hi = v at *
      clear hx0 hx hi
      go_wp2_with fail
      go_quiet (fail)
      go_wp2_with fail
      go_roundw
      case rel => exact ⟨k + 1, s + v, by omega, by go_num, by go_num, HBq.out _, by omega, by omega, HS1⟩
      case measure => simp [intOf]; omega
    · have hlz : ¬ (k : Int) < (c.A.length : Int) := by omega
      obtain rfl : k = c.A.length := by omega
      have HSA := Lib.hid (show s = sumA g.L c.A by
        have := HS.out
        rwa [List.take_length] at this)
      clear HS
      go_wp2_with fail
      go_loopw [5, 7] (fun s5 s7 wq => ∃ (q : Nat) (t : Int), q ≤ c.B.length ∧ s7 = .int .i64 (q : Int) ∧ s5 = .int .i64 t ∧ Hid (Below ((w.alloc (gBox g)).alloc (cBox c)).heap.size ((w.alloc (gBox g)).alloc (cBox c)) wq) ∧ s ≤ t ∧ t ≤ s + 1000 * (q : Int) ∧ Hid (t = s + sumA g.R (c.B.take q))) (fun _ s7 _ => (c.B.length - (intOf s7)).toNat)
      case atStart => exact ⟨0, s, Nat.zero_le _, rfl, rfl, HBW, Int.le_refl _, by omega, Lib.hid (by simp [sumA])⟩
      case round =>
        clear HBW HGW HCW HBq
        obtain ⟨q, t, hq, rfl, rfl, HBW, ht0, ht9, HT⟩ := hrel
        have HGW := Lib.hid (HGB.out.keep HBW.out)
        have HCW := Lib.hid (HCB.out.keep HBW.out)
        have HBq := Lib.hid (fun nq => Lib.hid (bel_drewN HBW.out nq))
        clear g0 g1 g2 gl d0 d1 dl
        obtain ⟨g0, g1, g2, gl⟩ := HGW.out
        obtain ⟨d0, d1, dl⟩ := HCW.out
        by_cases hlt2 : q < c.B.length
        · have hlz2 : (q : Int) < (c.B.length : Int) := by omega
          have HCb := Lib.hid (HC.out.b.keep HBW.out)
          have HGr := Lib.hid (HG.out.r.keep HBW.out)
          have haB : c.aB = some ⟨c.bB, c.oB, none⟩ := HCb.out.ha (by omega)
          have bB := HCb.out.hb (by omega)
          have c0 := HCb.out.cell q hlt2
          have hx0 := HrB.out.1 _ (List.getElem_mem hlt2)
          obtain ⟨i, hx⟩ : ∃ i : Nat, c.B[q]'hlt2 = (i : Int) := ⟨(c.B[q]'hlt2).toNat, by omega⟩
          have hi : i < g.R.length := by omega
          have hiz : (i : Int) < (g.R.length : Int) := by omega
          have haR : g.aR = some ⟨g.bR, g.oR, none⟩ := HGr.out.ha (by omega)
          have bR := HGr.out.hb (by omega)
          have l0 := HGr.out.cell i hi
          have hlr := HOK.out.2.2.2.2.1 _ (List.getElem_mem hi)
          have HS1 := Lib.hid (show t + g.R[i]'hi = s + sumA g.R (c.B.take (q + 1)) by
            rw [sumA_take hlt2, HT.out, hx, atI_eq (i := (i : Int)) (by simpa using hi)]
            simp [Int.add_assoc])
          rw [hx] at c0
          rw [haB] at d1
          rw [haR] at g1
          generalize g.R[i]'hi = v at *
          clear hx0 hx hi
          go_wp2_with fail
          go_quiet (fail)
          go_wp2_with fail
          go_roundw
          case rel => exact ⟨q + 1, t + v, by omega, by go_num, by go_num, HBq.out _, by omega, by omega, HS1⟩
          case measure => simp [intOf]; omega
        · have hlz2 : ¬ (q : Int) < (c.B.length : Int) := by omega
          obtain rfl : q = c.B.length := by omega
          have HSB := Lib.hid (show t = sumA g.L c.A + sumA g.R c.B by
            have := HT.out
            rwa [List.take_length, HSA.out] at this)
          clear HT HSA
          go_wp2_with fail
          go_loopw [5, 8] (fun s5 s8 wq => ∃ (m : Nat) (u : Int), m ≤ g.E.length ∧ s8 = .int .i64 (m : Int) ∧ s5 = .int .i64 u ∧ Hid (Below ((w.alloc (gBox g)).alloc (cBox c)).heap.size ((w.alloc (gBox g)).alloc (cBox c)) wq) ∧ t ≤ u ∧ u ≤ t + (m : Int) ∧ Hid (u = t + (cntO c.A c.B (g.E.take m) : Int))) (fun _ s8 _ => (g.E.length - (intOf s8)).toNat)
          case atStart => exact ⟨0, t, Nat.zero_le _, rfl, rfl, HBW, Int.le_refl _, by omega, Lib.hid (by simp [cntO])⟩
          case round =>
            clear HBW HGW HCW HBq
            obtain ⟨m, u, hm, rfl, rfl, HBW, hu0, hu9, HU⟩ := hrel
            have HGW := Lib.hid (HGB.out.keep HBW.out)
            have HCW := Lib.hid (HCB.out.keep HBW.out)
            have HBq := Lib.hid (fun nq => Lib.hid (bel_drewN HBW.out nq))
            clear g0 g1 g2 gl d0 d1 dl
            obtain ⟨g0, g1, g2, gl⟩ := HGW.out
            obtain ⟨d0, d1, dl⟩ := HCW.out
            by_cases hlt3 : m < g.E.length
            · have hlz3 : (m : Int) < (g.E.length : Int) := by omega
              have HGe := Lib.hid (HG.out.e.keep HBW.out)
              have haE : g.aE = some ⟨g.bE, g.oE, none⟩ := HGe.out.ha (by omega)
              have bE := HGe.out.hb (by omega)
              have c0 := HGe.out.c0 m hlt3
              have c1 := HGe.out.c1 m hlt3
              have HCT := Lib.hid (cntO_take (A := c.A) (B := c.B) hlt3)
              obtain ⟨x, y, hxy⟩ : ∃ x y, g.E[m]'hlt3 = (x, y) := ⟨_, _, rfl⟩
              rw [hxy] at c0 c1 HCT
              simp only at c0 c1
              have HOt := Lib.hid (show outB c.A c.B (x, y) = (!c.A.contains x && !c.B.contains y) from rfl)
              have HN1 := Lib.hid (fun nq => rhas_any (HC.out.a.keep (bel_drewN HBW.out nq)) x)
              have HN2 := Lib.hid (fun nq => rhas_any (HC.out.b.keep (bel_drewN HBW.out nq)) y)
              rw [haE] at g2
              clear hxy
              cases p1 : c.A.contains x with
              | true =>
                have HF := Lib.hid (show u = t + (cntO c.A c.B (g.E.take (m + 1)) : Int) by
                  rw [HCT.out, HOt.out, p1, HU.out]; simp)
                rw [p1] at HN1
                clear HN2 HCT HOt p1 HU
                go_wp2_with fail
                go_quiet ((first | (go_at_call 53; exact Calls.quiet_of (q_same (HN1.out _)))))
                go_wp2_with fail
                go_roundw
                case rel => exact ⟨m + 1, u, by omega, by go_num, rfl, HBq.out _, by omega, by omega, HF⟩
                case measure => simp [intOf]; omega
              | false =>
                rw [p1] at HN1
                cases p2 : c.B.contains y with
                | true =>
                  have HF := Lib.hid (show u = t + (cntO c.A c.B (g.E.take (m + 1)) : Int) by
                    rw [HCT.out, HOt.out, p1, p2, HU.out]; simp)
                  rw [p2] at HN2
                  clear HCT HOt p1 p2 HU
                  go_wp2_with fail
                  go_quiet ((first | (go_at_call 53; first | with_reducible exact Calls.quiet_of (q_same (HN1.out _)) | with_reducible exact Calls.quiet_of (q_same (HN2.out _)))))
                  go_wp2_with fail
                  go_roundw
                  case rel => exact ⟨m + 1, u, by omega, by go_num, rfl, HBq.out _, by omega, by omega, HF⟩
                  case measure => simp [intOf]; omega
                | false =>
                  have HF := Lib.hid (show u + 1 = t + (cntO c.A c.B (g.E.take (m + 1)) : Int) by
                    rw [HCT.out, HOt.out, p1, p2, HU.out]; simp; omega)
                  rw [p2] at HN2
                  clear HCT HOt p1 p2 HU
                  go_wp2_with fail
                  go_quiet ((first | (go_at_call 53; first | with_reducible exact Calls.quiet_of (q_same (HN1.out _)) | with_reducible exact Calls.quiet_of (q_same (HN2.out _)))))
                  go_wp2_with fail
                  go_roundw
                  case rel => exact ⟨m + 1, u + 1, by omega, by go_num, by go_num, HBq.out _, by omega, by omega, HF⟩
                  case measure => simp [intOf]; omega
            · have hlz3 : ¬ (m : Int) < (g.E.length : Int) := by omega
              obtain rfl : m = g.E.length := by omega
              have HF := Lib.hid (show W = u by
                rw [HWg.out, HU.out, HSB.out, List.take_length]
                rfl)
              have HBF := Lib.hid (HB.out.trans (HBW.out.mono hs0))
              go_wp2_with fail
              go_ret
              exact ⟨ret_int HF.out.symm, HBF.out⟩
end Go.Proofs.Ytpcdbnlljdfogaa
