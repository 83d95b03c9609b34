/- The reference's Check. -/
import Derived.Test.YtpcdbnlljdfogaaEqp
set_option linter.unusedSimpArgs false
set_option linter.unusedVariables false
namespace Go.Proofs.Ytpcdbnlljdfogaa
open Go.RowKit

theorem outC_1 {x : Int} (h : x < 0) : outC x = true := by unfold outC; rw [decide_eq_true h]; rfl
theorem outC_2 {x : Int} (h : x > 1000) : outC x = true := by unfold outC; rw [decide_eq_true h]; simp
theorem outC_3 {x : Int} (h : ¬ x < 0) (h2 : ¬ x > 1000) : outC x = false := by unfold outC; rw [decide_eq_false h, decide_eq_false h2]; rfl
theorem dangl_1 {nL nR : Nat} {u v : Int} (h : u < 0 ∨ u ≥ (nL : Int) ∨ v < 0 ∨ v ≥ (nR : Int)) : dangl nL nR (u, v) = true := by
  unfold dangl
  simp
  omega
theorem dangl_2 {nL nR : Nat} {u v : Int} (h : ¬ (u < 0 ∨ u ≥ (nL : Int) ∨ v < 0 ∨ v ≥ (nR : Int))) : dangl nL nR (u, v) = false := by
  unfold dangl
  simp
  omega
set_option maxHeartbeats 8000000 in
set_option maxRecDepth 100000 in
theorem rchk_any (g : Gph) (w : World) (hg : GpAt w g) : Calls Try.prog 13 #[g.val] w fun e w' => e = .returned (.int .i64 (chk g)) ∧ Below w.heap.size w w' := by
  have HC := Lib.hid (show chk g = if 64 < g.L.length ∨ 64 < g.R.length ∨ 1024 < g.E.length then 6 else if (g.L.any outC || g.R.any outC) = true then 5 else if g.E.any (dangl g.L.length g.R.length) = true then 5 else if g.E.Nodup then 0 else 4 from rfl)
  have HB := Lib.hid ((Below.refl w.heap.size w).alloc (Nat.le_refl _) (gBox g))
  have HGB := Lib.hid (gb_new w g 25)
  have HG := Lib.hid (hg.keep HB.out)
  have hgs : w.heap.size ≤ (w.alloc (gBox g)).heap.size := HB.out.size
  clear hg
  unfold Gph.val
  by_cases s1 : g.L.length > 64
  · have k1 : decide ((g.L.length : Int) > 64) = true := decide_eq_true (by omega)
    have HR := Lib.hid (show chk g = 6 by rw [HC.out, if_pos (.inl s1)])
    go_enter Try.func13, Try.ntmps13
    go_wp2_with fail
    go_ret
    exact ⟨ret_int HR.out.symm, HB.out⟩
  have k1 : decide ((g.L.length : Int) > 64) = false := decide_eq_false (by omega)
  by_cases s2 : g.R.length > 64
  · have k2 : decide ((g.R.length : Int) > 64) = true := decide_eq_true (by omega)
    have HR := Lib.hid (show chk g = 6 by rw [HC.out, if_pos (.inr (.inl s2))])
    go_enter Try.func13, Try.ntmps13
    go_wp2_with fail
    go_ret
    exact ⟨ret_int HR.out.symm, HB.out⟩
  have k2 : decide ((g.R.length : Int) > 64) = false := decide_eq_false (by omega)
  by_cases s3 : g.E.length > 1024
  · have k3 : decide ((g.E.length : Int) > 1024) = true := decide_eq_true (by omega)
    have HR := Lib.hid (show chk g = 6 by rw [HC.out, if_pos (.inr (.inr s3))])
    go_enter Try.func13, Try.ntmps13
    go_wp2_with fail
    go_ret
    exact ⟨ret_int HR.out.symm, HB.out⟩
  have k3 : decide ((g.E.length : Int) > 1024) = false := decide_eq_false (by omega)
  have HS := Lib.hid (show ¬ (64 < g.L.length ∨ 64 < g.R.length ∨ 1024 < g.E.length) by omega)
  have HL := Lib.hid HG.out.l
  have HRr := Lib.hid HG.out.r
  have HEe := Lib.hid HG.out.e
  have lL : g.L.length ≤ 64 := by omega
  have lR : g.R.length ≤ 64 := by omega
  have lE : g.E.length ≤ 1024 := by omega
  clear s1 s2 s3 HG
  obtain ⟨g0, g1, g2, gl⟩ := HGB.out
  have hcL := HL.out.hcap
  have hmL := HL.out.hmax
  have hcR := HRr.out.hcap
  have hmR := HRr.out.hmax
  have hcE := HEe.out.hcap
  have hmE := HEe.out.hmax
  unfold maxLen at hmL hmR hmE
  have hEq := run_eqPair
  go_enter Try.func13, Try.ntmps13
  go_wp2_with fail
  go_loopw [3] (fun s3 wq => ∃ k : Nat, k ≤ g.L.length ∧ s3 = .int .i64 (k : Int) ∧ w.alloc (gBox g) = wq ∧ Hid ((g.L.take k).any outC = false)) (fun s3 _ => (g.L.length - (intOf s3)).toNat)
  case atStart => exact ⟨0, Nat.zero_le _, rfl, rfl, Lib.hid rfl⟩
  case round =>
    obtain ⟨k, hk, rfl, hwr, HK⟩ := hrel
    subst hwr
    by_cases hlt : k < g.L.length
    · have hlz : (k : Int) < (g.L.length : Int) := by omega
      have ha : g.aL = some ⟨g.bL, g.oL, none⟩ := HL.out.ha (by omega)
      have bb := HL.out.hb (by omega)
      have c0 := HL.out.cell k hlt
      have HTK := Lib.hid (show (g.L.take (k + 1)).any outC = outC (g.L[k]'hlt) by rw [any_take hlt, HK.out]; simp)
      have HAL := Lib.hid (fun h => any_hit (p := outC) hlt h)
      rw [ha] at g0
      generalize g.L[k]'hlt = x at *
      by_cases q1 : x < 0
      · have p1 : decide (x < 0) = true := decide_eq_true q1
        have HR := Lib.hid (show chk g = 5 by rw [HC.out, if_neg HS.out, if_pos (by rw [HAL.out (outC_1 q1)]; rfl)])
        go_wp2_with fail
        go_ret
        exact ⟨ret_int HR.out.symm, HB.out⟩
      have p1 : decide (x < 0) = false := decide_eq_false q1
      by_cases q2 : x > 1000
      · have p2 : decide (x > 1000) = true := decide_eq_true q2
        have HR := Lib.hid (show chk g = 5 by rw [HC.out, if_neg HS.out, if_pos (by rw [HAL.out (outC_2 q2)]; rfl)])
        go_wp2_with fail
        go_ret
        exact ⟨ret_int HR.out.symm, HB.out⟩
      · have p2 : decide (x > 1000) = false := decide_eq_false q2
        have HN := Lib.hid (HTK.out.trans (outC_3 q1 q2))
        go_wp2_with fail
        go_roundw
        case rel => exact ⟨k + 1, by omega, by go_num, by first | rfl | trivial, HN⟩
        case measure => simp [intOf]; omega
    · have hlz : ¬ (k : Int) < (g.L.length : Int) := by omega
      obtain rfl : k = g.L.length := by omega
      have AL := Lib.hid (show g.L.any outC = false by
        have := HK.out
        rwa [List.take_length] at this)
      clear HK
      go_wp2_with fail
      go_loopw [4] (fun s4 wq => ∃ k : Nat, k ≤ g.R.length ∧ s4 = .int .i64 (k : Int) ∧ w.alloc (gBox g) = wq ∧ Hid ((g.R.take k).any outC = false)) (fun s4 _ => (g.R.length - (intOf s4)).toNat)
      case atStart => exact ⟨0, Nat.zero_le _, rfl, rfl, Lib.hid rfl⟩
      case round =>
        obtain ⟨k, hk, rfl, hwr, HK⟩ := hrel
        subst hwr
        by_cases hlt : k < g.R.length
        · have hlz : (k : Int) < (g.R.length : Int) := by omega
          have ha : g.aR = some ⟨g.bR, g.oR, none⟩ := HRr.out.ha (by omega)
          have bb := HRr.out.hb (by omega)
          have c0 := HRr.out.cell k hlt
          have HTK := Lib.hid (show (g.R.take (k + 1)).any outC = outC (g.R[k]'hlt) by rw [any_take hlt, HK.out]; simp)
          have HAL := Lib.hid (fun h => any_hit (p := outC) hlt h)
          rw [ha] at g1
          generalize g.R[k]'hlt = x at *
          by_cases q1 : x < 0
          · have p1 : decide (x < 0) = true := decide_eq_true q1
            have HR := Lib.hid (show chk g = 5 by rw [HC.out, if_neg HS.out, if_pos (by rw [AL.out, HAL.out (outC_1 q1)]; rfl)])
            go_wp2_with fail
            go_ret
            exact ⟨ret_int HR.out.symm, HB.out⟩
          have p1 : decide (x < 0) = false := decide_eq_false q1
          by_cases q2 : x > 1000
          · have p2 : decide (x > 1000) = true := decide_eq_true q2
            have HR := Lib.hid (show chk g = 5 by rw [HC.out, if_neg HS.out, if_pos (by rw [AL.out, HAL.out (outC_2 q2)]; rfl)])
            go_wp2_with fail
            go_ret
            exact ⟨ret_int HR.out.symm, HB.out⟩
          · have p2 : decide (x > 1000) = false := decide_eq_false q2
            have HN := Lib.hid (HTK.out.trans (outC_3 q1 q2))
            go_wp2_with fail
            go_roundw
            case rel => exact ⟨k + 1, by omega, by go_num, by first | rfl | trivial, HN⟩
            case measure => simp [intOf]; omega
        · have hlz : ¬ (k : Int) < (g.R.length : Int) := by omega
          obtain rfl : k = g.R.length := by omega
          have AR := Lib.hid (show g.R.any outC = false by
            have := HK.out
            rwa [List.take_length] at this)
          clear HK
          go_wp2_with fail
          go_loopw [5, 6] (fun s5 _ wq => ∃ k : Nat, k ≤ g.E.length ∧ s5 = .int .i64 (k : Int) ∧ Hid (Below (w.alloc (gBox g)).heap.size (w.alloc (gBox g)) wq) ∧ Hid ((g.E.take k).any (dangl g.L.length g.R.length) = false)) (fun s5 _ _ => (g.E.length - (intOf s5)).toNat)
          case atStart => exact ⟨0, Nat.zero_le _, rfl, Lib.hid (Below.refl _ _), Lib.hid rfl⟩
          case round =>
            obtain ⟨k, hk, rfl, HBW, HK⟩ := hrel
            have hsw : (w.alloc (gBox g)).heap.size ≤ wr.heap.size := HBW.out.size
            have HGW := Lib.hid (HGB.out.keep HBW.out)
            have HEW := Lib.hid (HEe.out.keep HBW.out)
            clear g0 g1 g2 gl
            obtain ⟨g0, g1, g2, gl⟩ := HGW.out
            by_cases hlt : k < g.E.length
            · have hlz : (k : Int) < (g.E.length : Int) := by omega
              have ha : g.aE = some ⟨g.bE, g.oE, none⟩ := HEW.out.ha (by omega)
              have bb := HEW.out.hb (by omega)
              have c0 := HEW.out.c0 k hlt
              have c1 := HEW.out.c1 k hlt
              have HTK := Lib.hid (show (g.E.take (k + 1)).any (dangl g.L.length g.R.length) = dangl g.L.length g.R.length (g.E[k]'hlt) by rw [any_take hlt, HK.out]; simp)
              have HAL := Lib.hid (fun h => any_hit (p := dangl g.L.length g.R.length) hlt h)
              rw [ha] at g2
              generalize g.E[k]'hlt = x at *
              obtain ⟨u, v⟩ := x
              simp only at c0 c1
              have HB2 := Lib.hid (HBW.out.alloc hsw (.cells #[.int .i64 u, .int .i64 v] 52))
              have HBF := Lib.hid (HB.out.trans (HB2.out.mono hgs))
              have HRd := Lib.hid (fun h => show chk g = 5 by rw [HC.out, if_neg HS.out, if_neg (by rw [AL.out, AR.out]; decide), if_pos (HAL.out (dangl_1 h))])
              by_cases q1 : u < 0
              · have p1 : decide (u < 0) = true := decide_eq_true q1
                have HR := Lib.hid (HRd.out (.inl q1))
                go_wp2_with fail
                go_ret
                exact ⟨ret_int HR.out.symm, HBF.out⟩
              have p1 : decide (u < 0) = false := decide_eq_false q1
              by_cases q2 : u ≥ (g.L.length : Int)
              · have p2 : decide (u ≥ (g.L.length : Int)) = true := decide_eq_true q2
                have HR := Lib.hid (HRd.out (.inr (.inl q2)))
                go_wp2_with fail
                go_ret
                exact ⟨ret_int HR.out.symm, HBF.out⟩
              have p2 : decide (u ≥ (g.L.length : Int)) = false := decide_eq_false q2
              by_cases q3 : v < 0
              · have p3 : decide (v < 0) = true := decide_eq_true q3
                have HR := Lib.hid (HRd.out (.inr (.inr (.inl q3))))
                go_wp2_with fail
                go_ret
                exact ⟨ret_int HR.out.symm, HBF.out⟩
              have p3 : decide (v < 0) = false := decide_eq_false q3
              by_cases q4 : v ≥ (g.R.length : Int)
              · have p4 : decide (v ≥ (g.R.length : Int)) = true := decide_eq_true q4
                have HR := Lib.hid (HRd.out (.inr (.inr (.inr q4))))
                go_wp2_with fail
                go_ret
                exact ⟨ret_int HR.out.symm, HBF.out⟩
              · have p4 : decide (v ≥ (g.R.length : Int)) = false := decide_eq_false q4
                have HN := Lib.hid (HTK.out.trans (dangl_2 (by omega)))
                go_wp2_with fail
                go_roundw
                case rel => exact ⟨k + 1, by omega, by go_num, HB2, HN⟩
                case measure => simp [intOf]; omega
            · have hlz : ¬ (k : Int) < (g.E.length : Int) := by omega
              obtain rfl : k = g.E.length := by omega
              have AE := Lib.hid (show chk g = if g.E.Nodup then 0 else 4 by
                have := HK.out
                rw [List.take_length] at this
                rw [HC.out, if_neg HS.out, if_neg (by rw [AL.out, AR.out]; decide), if_neg (by rw [this]; decide)])
              have HB3 := Lib.hid (HB.out.trans (HBW.out.mono hgs))
              have hs3 : w.heap.size ≤ wr.heap.size := HB3.out.size
              clear HK HBW HGW HC HS AL AR HGB HEe HL HRr HB hcL hmL hcR hmR g0 g1 hsw hgs
              generalize g.aE = aE at *
              obtain ⟨w3, hw3⟩ : ∃ y, y = wr := ⟨_, rfl⟩
              subst hw3
              go_wp2_with fail
              go_loopw [7, 8] (fun s7 _ wq => ∃ i : Nat, i ≤ g.E.length ∧ s7 = .int .i64 (i : Int) ∧ Hid (Below w3.heap.size w3 wq) ∧ Hid ((g.E.take i).Nodup)) (fun s7 _ _ => (g.E.length - (intOf s7)).toNat)
              case atStart => exact ⟨0, Nat.zero_le _, rfl, Lib.hid (Below.refl _ _), Lib.hid List.nodup_nil⟩
              case round =>
                obtain ⟨i, hi, rfl, HBi, HNd⟩ := hrel
                obtain ⟨wi, hwi⟩ : ∃ y, y = wr := ⟨_, rfl⟩
                subst hwi
                have g2i := (HBi.out.cell (p := ⟨w.heap.size, 2, none⟩) gl).trans g2
                by_cases hlt : i < g.E.length
                · have hlz : (i : Int) < (g.E.length : Int) := by omega
                  have HNT := Lib.hid (nodup_take hlt)
                  have HNP := Lib.hid (fun h => nodup_pre (k := i + 1) (L := g.E) h)
                  go_wp2_with fail
                  go_loopw [8] (fun s8 wq => ∃ m : Nat, m ≤ i ∧ s8 = .int .i64 (m : Int) ∧ Hid (Below w3.heap.size w3 wq) ∧ Hid (g.E[i]'hlt ∉ g.E.take m)) (fun s8 _ => (i - (intOf s8)).toNat)
                  case atStart => exact ⟨0, Nat.zero_le _, rfl, HBi, Lib.hid (by simp)⟩
                  case round =>
                    obtain ⟨m, hm, rfl, HBm, HMm⟩ := hrel
                    have g2m := (HBm.out.cell (p := ⟨w.heap.size, 2, none⟩) gl).trans g2
                    have HBmq := Lib.hid (fun nq => Lib.hid (bel_drewN HBm.out nq))
                    by_cases hlm : m < i
                    · have hlzm : (m : Int) < (i : Int) := by omega
                      have hmE2 : m < g.E.length := by omega
                      have hmz : (m : Int) < (g.E.length : Int) := by omega
                      have HEm := Lib.hid (HEW.out.keep HBm.out)
                      obtain rfl := HEm.out.ha (by omega)
                      have bb := HEm.out.hb (by omega)
                      have c0 := HEm.out.c0 i hlt
                      have c1 := HEm.out.c1 i hlt
                      have d0 := HEm.out.c0 m hmE2
                      have d1 := HEm.out.c1 m hmE2
                      have HTm := Lib.hid (List.take_succ_eq_append_getElem hmE2)
                      have HTi := Lib.hid (show g.E[m]'hmE2 ∈ g.E.take i by
                        rw [List.mem_take_iff_getElem]
                        exact ⟨m, by omega, rfl⟩)
                      generalize g.E[m]'hmE2 = y at *
                      generalize g.E[i]'hlt = x at *
                      obtain ⟨u, v⟩ := x
                      obtain ⟨u2, v2⟩ := y
                      simp only at c0 c1 d0 d1
                      by_cases q1 : u = u2
                      · subst q1
                        by_cases q2 : v = v2
                        · subst q2
                          have HR := Lib.hid (show chk g = 4 by rw [AE.out, if_neg (HNP.out (fun h => (HNT.out.1 h).2 HTi.out))])
                          have HBF := Lib.hid (HB3.out.trans (HBm.out.mono hs3))
                          have HBFq := Lib.hid (fun nq => bel_drewN HBF.out nq)
                          go_wp2_with fail
                          go_quiet (fail)
                          go_wp2_with fail
                          go_ret
                          exact ⟨ret_int HR.out.symm, HBFq.out _⟩
                        · have p2 : (v == v2) = false := by simpa using q2
                          have HN := Lib.hid (show (u, v) ∉ g.E.take (m + 1) by
                            rw [HTm.out, List.mem_append, List.mem_singleton]
                            rintro (h | h)
                            · exact HMm.out h
                            · exact q2 (by injection h))
                          go_wp2_with fail
                          go_quiet (fail)
                          go_wp2_with fail
                          go_roundw
                          case rel => exact ⟨m + 1, by omega, by go_num, HBmq.out _, HN⟩
                          case measure => simp [intOf]; omega
                      · have p1 : (u == u2) = false := by simpa using q1
                        have HN := Lib.hid (show (u, v) ∉ g.E.take (m + 1) by
                          rw [HTm.out, List.mem_append, List.mem_singleton]
                          rintro (h | h)
                          · exact HMm.out h
                          · exact q1 (by injection h))
                        go_wp2_with fail
                        go_quiet (fail)
                        go_wp2_with fail
                        go_roundw
                        case rel => exact ⟨m + 1, by omega, by go_num, HBmq.out _, HN⟩
                        case measure => simp [intOf]; omega
                    · have hlzm : ¬ (m : Int) < (i : Int) := by omega
                      obtain rfl : m = i := by omega
                      have HN := Lib.hid (HNT.out.2 ⟨HNd.out, HMm.out⟩)
                      go_wp2_with fail
                      go_roundw
                      case rel => exact ⟨m + 1, by omega, by go_num, HBm, HN⟩
                      case measure => simp [intOf]; omega
                · have hlz : ¬ (i : Int) < (g.E.length : Int) := by omega
                  obtain rfl : i = g.E.length := by omega
                  have HR := Lib.hid (show chk g = 0 by
                    have := HNd.out
                    rw [List.take_length] at this
                    rw [AE.out, if_pos this])
                  have HBF := Lib.hid (HB3.out.trans (HBi.out.mono hs3))
                  go_wp2_with fail
                  go_ret
                  exact ⟨ret_int HR.out.symm, HBF.out⟩
end Go.Proofs.Ytpcdbnlljdfogaa
