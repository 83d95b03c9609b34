/- The reference of rankings: Check. -/
import Derived.Test.YtigibomcaecbdaaGreatRqf
import Derived.Test.YtigibomcaecbdaaGreatChk
set_option linter.unusedSimpArgs false
set_option linter.unusedVariables false
namespace Go.Proofs.YtigibomcaecbdaaGreat
open Go.RowKit Go.Sort

theorem chk_long {C : List (List (Int × Int))} (h : 200 < C.length) : chkL C = 6 := by
  unfold chkL tooL
  rw [decide_eq_true h, Bool.true_or, if_pos rfl]
theorem chk_wide {C : List (List (Int × Int))} {r : List (Int × Int)} (hr : r ∈ C) (h : 20 < r.length) : chkL C = 6 := by
  unfold chkL tooL
  rw [if_pos]
  rw [Bool.or_eq_true, List.any_eq_true]
  exact Or.inr ⟨r, hr, decide_eq_true h⟩
theorem too_no {C : List (List (Int × Int))} (h : C.length ≤ 200) (hr : ∀ r ∈ C, r.length ≤ 20) : tooL C = false := by
  unfold tooL
  rw [Bool.or_eq_false_iff, List.any_eq_false]
  exact ⟨decide_eq_false (by omega), fun r h1 => by have := hr r h1; rw [decide_eq_true_eq]; omega⟩
theorem chk_bad {C : List (List (Int × Int))} (ht : tooL C = false) {r : List (Int × Int)} (hr : r ∈ C) (h : rowOk (headN C) r = false) : chkL C = 1 := by
  unfold chkL
  rw [ht, if_neg (by simp), if_neg]
  rw [Bool.not_eq_true, List.all_eq_false]
  exact ⟨r, hr, by rw [h]; decide⟩
theorem chk_good {C : List (List (Int × Int))} (ht : tooL C = false) (h : ∀ r ∈ C, rowOk (headN C) r = true) : chkL C = 0 := by
  unfold chkL
  rw [ht, if_neg (by simp), if_pos (List.all_eq_true.2 h)]
theorem head_crit {M : List Rw} (h : 0 < M.length) : headN (crit M) = (M[0]'h).L.length := by
  unfold headN crit
  cases M with
  | nil => simp at h
  | cons r t => rfl
theorem crit_ix {M : List Rw} {k : Nat} (h : k < M.length) : (M[k]'h).L ∈ crit M := List.mem_map.2 ⟨_, List.getElem_mem h, rfl⟩
set_option maxHeartbeats 8000000 in
set_option maxRecDepth 100000 in
theorem rcheck_any {a : Option Addr} {b off len cap : Nat} {M : List Rw} {w : World} (h : SlR w a b off len cap M) :
    Calls Tryz.prog 18 #[.slice a len cap] w fun e w' => e = .returned (.int .i64 (chkL (crit M))) ∧ Below w.heap.size w w' := by
  have hl := h.sl.hl
  have hcl : (crit M).length = len := by unfold crit; rw [List.length_map, hl]
  have hcap := h.sl.hcap
  have hmax := h.sl.hmax
  unfold maxLen at hmax
  have HS := Lib.hid h
  have HCL := Lib.hid hcl
  clear h
  by_cases h200 : 200 < len
  · have l1 : (len : Int) > 200 := by omega
    have HV := Lib.hid (chk_long (C := crit M) (by omega))
    clear hcl
    go_enter Tryz.func18, Tryz.ntmps18
    go_wp2_with fail
    go_ret
    exact ⟨by rw [HV.out]; rfl, (by repeat (first | with_reducible exact Below.refl _ _ | (with_reducible refine Below.setCell ?_ (by first | exact Nat.le_refl _ | omega | (simp; done) | (simp; omega)) _) | (with_reducible refine Below.alloc ?_ (by first | exact Nat.le_refl _ | omega | (simp; done) | (simp; omega)) _) | with_reducible refine Below.drew ?_ | with_reducible refine bel_drewN ?_ _ | (with_reducible refine bel_by (by with_reducible assumption) (by first | exact Nat.le_refl _ | omega | (simp; done) | (simp; omega)) ?_)))⟩
  · have l1 : ¬ (len : Int) > 200 := by omega
    clear hcl
    go_enter Tryz.func18, Tryz.ntmps18
    go_wp2_with fail
    go_loopw [3] (fun s3 wr => ∃ (k : Nat), k ≤ len ∧ s3 = .int .i64 (k : Int) ∧ w = wr ∧ Hid (∀ (j : Nat) (hj : j < M.length), j < k → (M[j]'hj).L.length ≤ 20)) (fun s3 _ => (len - (intOf s3)).toNat)
    case atStart => exact ⟨0, Nat.zero_le _, rfl, rfl, Lib.hid (fun j _ h => absurd h (Nat.not_lt_zero j))⟩
    case round =>
      obtain ⟨k, hk, rfl, rfl, HZ⟩ := hrel
      by_cases hlt : k < len
      · have l2 : (k : Int) < (len : Int) := by omega
        obtain rfl := HS.out.sl.ha (by omega)
        have hkM : k < M.length := by omega
        have x1 := HS.out.sl.cell k hkM
        unfold Rw.val at x1
        have HBd := Lib.hid (fun (hg : 20 < (M[k]'hkM).L.length) => chk_wide (crit_ix hkM) hg)
        have HNx := Lib.hid (fun (hg : (M[k]'hkM).L.length ≤ 20) => (fun (j : Nat) (hj : j < M.length) (hjk : j < k + 1) => by
          by_cases e : j = k
          · subst e; exact hg
          · exact HZ.out j hj (by omega) : ∀ (j : Nat) (hj : j < M.length), j < k + 1 → (M[j]'hj).L.length ≤ 20))
        clear HZ
        obtain ⟨n1, h1⟩ : ∃ n, (M[k]'hkM).L.length = n := ⟨_, rfl⟩
        obtain ⟨ra, hra⟩ : ∃ n, (M[k]'hkM).a = n := ⟨_, rfl⟩
        obtain ⟨rc, hrc⟩ : ∃ n, (M[k]'hkM).cap = n := ⟨_, rfl⟩
        rw [h1, hra, hrc] at x1
        rw [h1] at HNx HBd
        clear h1 hra hrc
        by_cases hn : n1 ≤ 20
        · have t1 : ¬ (n1 : Int) > 20 := by omega
          have HE := Lib.hid (HNx.out hn)
          clear HNx HBd
          go_wp2_with fail
          go_roundw
          case rel => exact ⟨k + 1, by omega, by go_num, by first | rfl | trivial, HE⟩
          case measure => simp [intOf]; omega
        · have t1 : (n1 : Int) > 20 := by omega
          have HE := Lib.hid (HBd.out (by omega))
          clear HNx HBd
          go_wp2_with fail
          go_ret
          exact ⟨by rw [HE.out]; rfl, (by repeat (first | with_reducible exact Below.refl _ _ | (with_reducible refine Below.setCell ?_ (by first | exact Nat.le_refl _ | omega | (simp; done) | (simp; omega)) _) | (with_reducible refine Below.alloc ?_ (by first | exact Nat.le_refl _ | omega | (simp; done) | (simp; omega)) _) | with_reducible refine Below.drew ?_ | with_reducible refine bel_drewN ?_ _ | (with_reducible refine bel_by (by with_reducible assumption) (by first | exact Nat.le_refl _ | omega | (simp; done) | (simp; omega)) ?_)))⟩
      · obtain rfl : k = len := by omega
        have l2 : ¬ (k : Int) < (k : Int) := by omega
        have HT := Lib.hid (show tooL (crit M) = false from too_no (by rw [HCL.out]; omega) (fun r hr => by
          obtain ⟨x, hx, rfl⟩ := List.mem_map.1 hr
          obtain ⟨j, hj, rfl⟩ := List.mem_iff_getElem.1 hx
          exact HZ.out j hj (by omega)))
        clear HZ
        go_wp2_with fail
        go_loopw [4, 5] (fun s4 s5 wr => ∃ (i : Nat) (x : Value), i ≤ k ∧ s4 = .int .i64 (i : Int) ∧ s5 = x ∧ Hid (Below w.heap.size w wr) ∧ Hid (∀ (j : Nat) (hj : j < M.length), j < i → rowOk (headN (crit M)) (M[j]'hj).L = true)) (fun s4 _ _ => (k - (intOf s4)).toNat)
        case atStart => exact ⟨0, _, Nat.zero_le _, rfl, rfl, Lib.hid (Below.refl _ _), Lib.hid (fun j _ h => absurd h (Nat.not_lt_zero j))⟩
        case round =>
          obtain ⟨i, xv, hi, rfl, hx5, HB, HR⟩ := hrel
          replace hx5 := hx5.symm
          subst hx5
          by_cases hik : i < k
          · have m1 : (i : Int) < (k : Int) := by omega
            have m0 : (0 : Int) < (k : Int) := by omega
            obtain rfl := HS.out.sl.ha (by omega)
            have hiM : i < M.length := by omega
            have h0M : 0 < M.length := by omega
            have x1 := (HS.out.keep HB.out).sl.cell i hiM
            have x0 := (HS.out.keep HB.out).sl.cell 0 h0M
            rw [Nat.add_zero] at x0
            have HXI := Lib.hid (fun (W : World) (hW : Below w.heap.size w W) => (show W.cell? ⟨b, off + i, none⟩ = some (Rw.val (M[i]'hiM)) from (HS.out.keep hW).sl.cell i hiM))
            have HRW := Lib.hid (fun (W : World) (hW : Below w.heap.size w W) => ((HS.out.rows _ (List.getElem_mem hiM)).keep hW).1)
            have hhd := head_crit h0M
            have HBD := Lib.hid (fun (hg : rowOk (M[0]'h0M).L.length (M[i]'hiM).L = false) => chk_bad HT.out (crit_ix hiM) (by rw [hhd]; exact hg))
            have HNX := Lib.hid (fun (hg : rowOk (M[0]'h0M).L.length (M[i]'hiM).L = true) => (fun (j : Nat) (hj : j < M.length) (hji : j < i + 1) => by
              by_cases e : j = i
              · subst e; rw [hhd]; exact hg
              · exact HR.out j hj (by omega) : ∀ (j : Nat) (hj : j < M.length), j < i + 1 → rowOk (headN (crit M)) (M[j]'hj).L = true))
            clear HR hhd
            unfold Rw.val at x1 x0 HXI
            obtain ⟨n0, h0⟩ : ∃ n, (M[0]'h0M).L.length = n := ⟨_, rfl⟩
            obtain ⟨qa, hqa⟩ : ∃ n, (M[0]'h0M).a = n := ⟨_, rfl⟩
            obtain ⟨qc, hqc⟩ : ∃ n, (M[0]'h0M).cap = n := ⟨_, rfl⟩
            rw [h0, hqa, hqc] at x0
            rw [h0] at HBD HNX
            clear h0 hqa hqc
            obtain ⟨R, hR⟩ : ∃ R, M[i]'hiM = R := ⟨_, rfl⟩
            rw [hR] at x1 HXI HRW HBD HNX
            clear hR
            obtain ⟨ra, rb, ro, rc, rL⟩ := R
            simp only at x1 HXI HRW HBD HNX
            have hr0 := HRW.out w (Below.refl _ _)
            have rcap := hr0.hcap
            have rmax := hr0.hmax
            unfold maxLen at rmax
            clear hr0
            obtain ⟨n1, h1⟩ : ∃ n, rL.length = n := ⟨_, rfl⟩
            rw [h1] at x1 HXI HRW rcap
            have HN1 := Lib.hid h1
            clear h1
            by_cases hn : n1 = n0
            · subst hn
              have k1 : ((n1 : Int) != (n1 : Int)) = false := by simp
              go_wp2_with fail
              go_quiet (fail)
              have HBq := Lib.hid (bel_drewN HB.out nq)
              generalize wr.drewN nq = wq at *
              go_wp2_with fail
              clear x0 x1 HB
              go_loopw [5] (fun s5 wi => ∃ (j : Nat), j ≤ n1 ∧ s5 = .int .i64 (j : Int) ∧ Hid (Below w.heap.size w wi) ∧ Hid (∀ (t : Nat) (ht : t < rL.length), t < j → vldI (rL[t]'ht).1 (rL[t]'ht).2 = true)) (fun s5 _ => (n1 - (intOf s5)).toNat)
              case atStart => exact ⟨0, Nat.zero_le _, rfl, HBq, Lib.hid (fun t _ h => absurd h (Nat.not_lt_zero t))⟩
              case round =>
                clear HBq
                obtain ⟨j, hj, rfl, HB, HV⟩ := hrel
                have x1 := HXI.out _ HB.out
                by_cases hjn : j < n1
                · have m2 : (j : Int) < (n1 : Int) := by omega
                  have hr := HRW.out _ HB.out
                  obtain rfl := hr.ha (by omega)
                  have hjL : j < rL.length := by rw [HN1.out]; exact hjn
                  obtain ⟨y1, y2⟩ := hr.cell j hjL
                  have wf := hr.wf _ (List.getElem_mem hjL)
                  have C := fun W => rvalid_any (rL[j]'hjL).1 (rL[j]'hjL).2 wf.1 wf.2.1 wf.2.2.1 wf.2.2.2 W
                  have HB1 := Lib.hid (fun (hv : vldI (rL[j]'hjL).1 (rL[j]'hjL).2 = false) => HBD.out (show rowOk n1 rL = false by
                    unfold rowOk
                    rw [Bool.and_eq_false_iff, Bool.not_eq_false', List.any_eq_true]
                    exact Or.inr ⟨_, List.getElem_mem hjL, by rw [hv]; rfl⟩))
                  have HN2 := Lib.hid (fun (hv : vldI (rL[j]'hjL).1 (rL[j]'hjL).2 = true) => (fun (t : Nat) (ht : t < rL.length) (htj : t < j + 1) => by
                    by_cases e : t = j
                    · subst e; exact hv
                    · exact HV.out t ht (by omega) : ∀ (t : Nat) (ht : t < rL.length), t < j + 1 → vldI (rL[t]'ht).1 (rL[t]'ht).2 = true))
                  obtain ⟨v, hv⟩ : ∃ v, vldI (rL[j]'hjL).1 (rL[j]'hjL).2 = v := ⟨_, rfl⟩
                  rw [hv] at C HB1 HN2
                  clear hv HV hr wf
                  generalize (rL[j]'hjL).1 = y at *
                  generalize (rL[j]'hjL).2 = d at *
                  have HC := Lib.hid C
                  clear C
                  cases v with
                  | true =>
                    have HE := Lib.hid (HN2.out rfl)
                    clear HN2 HB1
                    go_wp2_with fail
                    refine (HC.out _).mono ?_
                    rintro e w3 ⟨rfl, hb⟩
                    have HB3 := Lib.hid (HB.out.trans (hb.mono HB.out.size))
                    clear hb HB HC x1 y1 y2
                    go_wp2_with fail
                    go_roundw
                    case rel => exact ⟨j + 1, by omega, by go_num, HB3, HE⟩
                    case measure => simp [intOf]; omega
                  | false =>
                    have HE := Lib.hid (HB1.out rfl)
                    clear HN2 HB1
                    go_wp2_with fail
                    refine (HC.out _).mono ?_
                    rintro e w3 ⟨rfl, hb⟩
                    have HB3 := Lib.hid (HB.out.trans (hb.mono HB.out.size))
                    clear hb HB HC x1 y1 y2
                    go_wp2_with fail
                    go_ret
                    exact ⟨by rw [HE.out]; rfl, HB3.out⟩
                · obtain rfl : j = n1 := by omega
                  have m2 : ¬ (j : Int) < (j : Int) := by omega
                  have HE := Lib.hid (HNX.out (show rowOk j rL = true by
                    unfold rowOk
                    rw [Bool.and_eq_true, Bool.not_eq_true', List.any_eq_false]
                    refine ⟨decide_eq_true HN1.out, fun x hx => ?_⟩
                    obtain ⟨t, ht, rfl⟩ := List.mem_iff_getElem.1 hx
                    rw [HV.out t ht (by rw [← HN1.out]; exact ht)]
                    decide))
                  clear HNX HBD HV
                  go_wp2_with fail
                  go_roundw
                  case rel => exact ⟨i + 1, _, by omega, by go_num, rfl, HB, HE⟩
                  case measure => simp [intOf]; omega
            · have k1 : ((n1 : Int) != (n0 : Int)) = true := by rw [bne_iff_ne]; omega
              have HE := Lib.hid (HBD.out (show rowOk n0 rL = false by
                unfold rowOk
                rw [Bool.and_eq_false_iff]
                exact Or.inl (decide_eq_false (by rw [HN1.out]; exact hn))))
              clear HNX HBD
              go_wp2_with fail
              go_quiet (fail)
              have HBq := Lib.hid (bel_drewN HB.out nq)
              generalize wr.drewN nq = wq at *
              go_wp2_with fail
              go_ret
              exact ⟨by rw [HE.out]; rfl, HBq.out⟩
          · obtain rfl : i = k := by omega
            have m1 : ¬ (i : Int) < (i : Int) := by omega
            have HE := Lib.hid (show chkL (crit M) = 0 from chk_good HT.out (fun r hr => by
              obtain ⟨x, hx, rfl⟩ := List.mem_map.1 hr
              obtain ⟨j, hj, rfl⟩ := List.mem_iff_getElem.1 hx
              exact HR.out j hj (by omega)))
            clear HR HT
            go_wp2_with fail
            go_ret
            exact ⟨by rw [HE.out]; rfl, HB.out⟩
end Go.Proofs.YtigibomcaecbdaaGreat
