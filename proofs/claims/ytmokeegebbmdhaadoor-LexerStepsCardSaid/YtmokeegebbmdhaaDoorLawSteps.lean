/- The law of Next, again and again: for every source. -/
import Derived.Test.YtmokeegebbmdhaaDoorAwk
import Derived.Test.YtmokeegebbmdhaaDoorStep
set_option linter.unusedSimpArgs false
set_option linter.unusedVariables false
namespace Go.Proofs.YtmokeegebbmdhaaDoor
open Go.RowKit

theorem next_first (s : ByteArray) (hs : s.size ≤ 65536) (k : Nat) (hk : k ≤ s.size) : nextL s (k : Int) = firstL (s.data.toList.drop k) k := by
  unfold nextL
  rw [if_neg (by omega), if_neg (by omega)]
  rfl
set_option maxHeartbeats 4000000 in
set_option maxRecDepth 100000 in
theorem steps_walk (s : ByteArray) (hs : s.size ≤ 9223372036854775807) (w : World) (hT : Tabs w) : Calls Tryd.prog 3 #[.string s] w fun e w' => e = .returned (.bool true) ∧ Below w.heap.size w w' := by
  by_cases hz : 2000 < s.size
  · have HA := Lib.hid (awake_any w hT)
    have k1 : decide ((s.size : Int) > 2000) = true := decide_eq_true (by omega)
    clear hT
    go_enter Tryd.func3, Tryd.ntmps3
    go_wp2_with fail
    refine HA.out.mono ?_
    rintro e w1 ⟨rfl, hb1⟩
    go_wp2_with fail
    go_ret
    exact ⟨rfl, hb1⟩
  · have k1 : decide ((s.size : Int) > 2000) = false := decide_eq_false (by omega)
    have HT := Lib.hid hT
    have HX := Lib.hid (lex_any s w hT)
    have HN := Lib.hid (fun (k : Nat) (hk : k ≤ s.size) (W : World) (hW : Tabs W) => next_any s (k : Int) (by omega) W hW)
    have HNF := Lib.hid (fun (k : Nat) (hk : k ≤ s.size) => next_first s (by omega) k hk)
    have HUS := Lib.hid (fun (k : Nat) (acc : List Tk) (hk : k ≤ s.size) (h : UpTo s k acc) => upto_step (by omega) hk h)
    have HUA := Lib.hid (fun (k : Nat) (acc L : List Tk) (h : UpTo s k acc) (h2 : lexS s = (L, 0, 0)) => upto_at (by omega) h h2)
    have HU0 := Lib.hid (upto_nil s)
    have HNO := Lib.hid (@lexS_no s)
    have HZE := Lib.hid (fun h => @lexS_zero s h (by omega))
    clear hT
    obtain ⟨X, hX⟩ : ∃ X, lexS s = X := ⟨_, rfl⟩
    rw [hX] at HX HNO HZE
    obtain ⟨L, c, fa⟩ := X
    unfold LexPost fV at HX
    simp only at HX HNO HZE
    have HXE := Lib.hid hX
    clear hX
    go_enter Tryd.func3, Tryd.ntmps3
    go_wp2_with fail
    refine HX.out.mono ?_
    rintro e w1 ⟨v1, rfl, ho1, hb1⟩
    obtain ⟨a1, b1, cap1, rfl, sl1⟩ := slt_own ho1
    obtain ⟨nL, hnL⟩ : ∃ nL, L.length = nL := ⟨_, rfl⟩
    rw [hnL] at sl1
    have HNL := Lib.hid hnL
    rw [hnL]
    clear hnL
    have hcap := sl1.hcap
    have hmax := sl1.hmax
    unfold maxLen at hmax
    have hBW := hb1.alloc hb1.size (.cells #[.int .i64 c, .int .i64 fa] 26)
    have hF1 := ft_new w1 c fa 26
    have hS1 := sl1.keep ((Below.refl _ _).alloc (Nat.le_refl _) (.cells #[.int .i64 c, .int .i64 fa] 26))
    have HBW := Lib.hid hBW
    have HF1 := Lib.hid hF1
    have HS1 := Lib.hid hS1
    clear ho1 sl1 hb1 hBW hF1 hS1
    go_wp2_with fail
    generalize w1.alloc (.cells #[.int .i64 c, .int .i64 fa] 26) = W1 at *
    generalize w1.heap.size = bf at *
    go_loopw [5, 6] (fun s5 s6 wr => ∃ (k : Nat) (acc : List Tk), k ≤ s.size ∧ acc.length ≤ k ∧ s5 = .int .i64 (k : Int) ∧ s6 = .int .i64 (acc.length : Int) ∧ Hid (Below W1.heap.size W1 wr) ∧ Hid (UpTo s k acc)) (fun s5 _ _ => (s.size - (intOf s5)).toNat)
    case atStart => exact ⟨0, [], Nat.zero_le _, Nat.le_refl _, rfl, rfl, Lib.hid (Below.refl _ _), HU0⟩
    case round =>
      obtain ⟨k, acc, hk, hacc, rfl, rfl, HB, HU⟩ := hrel
      have HSTEP := Lib.hid (HUS.out k acc hk HU.out)
      have hNk := HN.out k hk
      rw [HNF.out k hk] at hNk
      have HNk := Lib.hid hNk
      have hat := HUA.out k acc L HU.out
      have hR1 : (lexR (s.size - k + 1) (s.data.toList.drop k) k) = if (firstL (s.data.toList.drop k) k).2.2.1 = 0 then (if (firstL (s.data.toList.drop k) k).1.k = 5 then ([(firstL (s.data.toList.drop k) k).1], 0, 0) else ((firstL (s.data.toList.drop k) k).1 :: (lexR (s.size - k) ((s.data.toList.drop k).drop ((firstL (s.data.toList.drop k) k).2.1 - k)) (firstL (s.data.toList.drop k) k).2.1).1, (lexR (s.size - k) ((s.data.toList.drop k).drop ((firstL (s.data.toList.drop k) k).2.1 - k)) (firstL (s.data.toList.drop k) k).2.1).2)) else ([], (firstL (s.data.toList.drop k) k).2.2) := rfl
      have HAT := Lib.hid (show lexS s = (L, 0, 0) → (firstL (s.data.toList.drop k) k).2.2.1 = 0 → ∃ r, L = acc ++ (firstL (s.data.toList.drop k) k).1 :: r from fun h h0 => by
        have := hat h
        rw [hR1, if_pos h0] at this
        split at this
        · exact ⟨[], this⟩
        · exact ⟨_, this⟩)
      clear hNk hat hR1
      generalize firstL (s.data.toList.drop k) k = x at *
      obtain ⟨⟨tk, tt, tn, ta⟩, n, c2, fa2⟩ := x
      simp only [firstV, Tk.val, fV] at HNk
      have HTr := Lib.hid (HT.out.below (show Below w.heap.size w wr from bel_by HB.out HBW.out.size HBW.out))
      obtain ⟨f0, f1, ff, fl⟩ := HF1.out.keep HB.out
      have hbs : w.heap.size ≤ wr.heap.size := by have h1 := HBW.out.size; have h2 := HB.out.size; omega
      have HBr := Lib.hid (show Below w.heap.size w wr from bel_by HB.out HBW.out.size HBW.out)
      have hle : ((acc.length : Int)) ≤ (s.size : Int) + 1 := by omega
      have d0 : decide ((acc.length : Int) ≤ (s.size : Int) + 1) = true := decide_eq_true hle
      by_cases h0 : c2 = 0
      · subst h0
        have h20 := HSTEP.out.2.1 rfl
        have hfa : fa2 = 0 := by simpa using h20
        subst hfa
        by_cases h5 : tk = 5
        · subst h5
          obtain ⟨q1, q2, q3⟩ := HSTEP.out.2.2.1 rfl rfl
          rw [HXE.out] at q1
          simp only [Prod.mk.injEq] at q1
          obtain ⟨hLx, rfl, rfl⟩ := q1
          simp only at q2 q3
          have hnl : nL = acc.length + 1 := by rw [← HNL.out, hLx]; simp
          subst hnl
          subst q2 q3
          have HA := Lib.hid (fun W hW => awake_any W hW)
          have d1 : decide (((s.size : Nat) : Int) < (k : Int)) = false := decide_eq_false (by omega)
          have d2 : decide (((s.size : Nat) : Int) > (s.size : Int)) = false := decide_eq_false (by omega)
          have d3 : decide (((acc.length : Nat) : Int) ≥ (acc.length : Int) + 1) = false := decide_eq_false (by omega)
          have d4 : decide (((acc.length : Nat) : Int) ≥ ((acc.length + 1 : Nat) : Int)) = false := decide_eq_false (by omega)
          have d5 : ¬ ((s.size : Nat) : Int) < (k : Int) := by omega
          have d6 : ((acc.length : Nat) : Int) < ((acc.length + 1 : Nat) : Int) := by omega
          have d7 : ((acc.length : Nat) : Int) < (acc.length : Int) + 1 := by omega
          clear HSTEP HAT HU HUS HUA HNO HZE h20
          go_wp2_with fail
          refine (HNk.out _ HTr.out).mono ?_
          rintro e w2 ⟨rfl, hb2⟩
          have hs2 := hb2.size
          have hs3 := HB.out.size
          have HG2 := Lib.hid ((HF1.out.keep HB.out).keep hb2)
          have HB2 := Lib.hid (bel_by hb2 hbs HBr.out)
          have HBW2 := Lib.hid (bel_by hb2 HB.out.size HB.out)
          have HS2 := Lib.hid ((HS1.out.keep HB.out).keep hb2)
          obtain ⟨g0, g1, gf, gl⟩ := HG2.out
          clear f0 f1 ff fl hb2
          have hkL : acc.length < L.length := by rw [hLx]; simp
          have hLk : L[acc.length]'hkL = ⟨5, tt, tn, (s.size : Int)⟩ := by simp [hLx]
          obtain rfl := HS2.out.ha (by omega)
          have bb := HS2.out.hb (by omega)
          have ca0 := HS2.out.c0 _ hkL
          have ca1 := HS2.out.c1 _ hkL
          have ca2 := HS2.out.c2 _ hkL
          have ca3 := HS2.out.c3 _ hkL
          rw [hLk] at ca0 ca1 ca2 ca3
          simp only [Nat.zero_add] at ca0 ca1 ca2 ca3
          clear hLk hLx hkL
          have hBt := (HB2.out.alloc (by omega) (.cells #[.int .i64 5, .string tt, .int .i64 tn, .int .i64 (s.size : Int)] 30)).alloc (by simp; omega) (.cells #[.int .i64 0, .int .i64 0] 26)
          have HTt := Lib.hid (HT.out.below hBt)
          have hTk := (tk_new w2 ⟨5, tt, tn, (s.size : Int)⟩ 30).keep ((Below.refl _ _).alloc (Nat.le_refl _) (.cells #[.int .i64 0, .int .i64 0] 26))
          have hFt := ft_new (w2.alloc (.cells #[.int .i64 5, .string tt, .int .i64 tn, .int .i64 (s.size : Int)] 30)) 0 0 26
          simp only [World.size_alloc] at hFt
          have hFb := ((HG2.out).keep ((Below.refl _ _).alloc (Nat.le_refl _) (.cells #[.int .i64 5, .string tt, .int .i64 tn, .int .i64 (s.size : Int)] 30))).keep ((Below.refl _ _).alloc (Nat.le_refl _) (.cells #[.int .i64 0, .int .i64 0] 26))
          have hBW := (HBW2.out.alloc (by omega) (.cells #[.int .i64 5, .string tt, .int .i64 tn, .int .i64 (s.size : Int)] 30)).alloc (by simp; omega) (.cells #[.int .i64 0, .int .i64 0] 26)
          have HBt := Lib.hid hBt
          have HTk := Lib.hid hTk
          have HFt := Lib.hid hFt
          have HFb := Lib.hid hFb
          have HBWt := Lib.hid hBW
          clear hBt hTk hFt hFb hBW
          go_wp2_with fail
          go_quiet (fail)
          go_wp2_with fail
          refine (HA.out _ (HTt.out.below (below_drewN _ nq))).mono ?_
          rintro e w3 ⟨rfl, hb3⟩
          have hs4 := hb3.size
          have hs5 : w2.heap.size + 1 + 1 ≤ w3.heap.size := by
            refine Nat.le_trans (Nat.le_of_eq ?_) hs4
            show _ = ((w2.alloc _).alloc _).heap.size
            simp
          obtain ⟨t0, t1, t2, t3, tf, tl⟩ := (HTk.out.keep (below_drewN _ nq)).keep hb3
          clear g0 g1 gf gl
          obtain ⟨g0, g1, gf, gl⟩ := (HFb.out.keep (below_drewN _ nq)).keep hb3
          have HB3 := Lib.hid (bel_by hb3 (by show w.heap.size ≤ ((w2.alloc _).alloc _).heap.size; simp; omega) (bel_drewN HBt.out nq))
          clear hb3 hs4
          go_wp2_with fail
          go_ret
          exact ⟨by first | rfl | (simp; done), HB3.out⟩
        · obtain ⟨hkn, hns, hU2⟩ := HSTEP.out.2.2.2 rfl h5
          simp only at hkn hns hU2
          have HU2 := Lib.hid hU2
          have b5 : (tk == 5) = false := by simpa using h5
          have b5n : (tk != 5) = true := by simpa using h5
          have d1 : decide ((n : Int) < (k : Int)) = false := decide_eq_false (by omega)
          have d2 : decide ((n : Int) > (s.size : Int)) = false := decide_eq_false (by omega)
          have d5 : ¬ (n : Int) < (k : Int) := by omega
          have d5b : ¬ n < k := by omega
          clear hU2 HSTEP h20 h5
          by_cases hc : c = 0
          · subst hc
            have hz := HZE.out rfl
            have hfa : fa = 0 := by simpa using hz
            subst hfa
            obtain ⟨r, hLx⟩ := HAT.out HXE.out rfl
            have hnl : acc.length < nL := by rw [← HNL.out, hLx]; simp
            have d3 : decide (((acc.length : Nat) : Int) ≥ (nL : Int)) = false := decide_eq_false (by omega)
            have d4 : ¬ (nL : Int) ≤ (acc.length : Int) := by omega
            have d6 : ((acc.length : Nat) : Int) < (nL : Int) := by omega
            clear HAT HU HUS HUA HNO HZE hz
            go_wp2_with fail
            refine (HNk.out _ HTr.out).mono ?_
            rintro e w2 ⟨rfl, hb2⟩
            have hs2 := hb2.size
            have hs3 := HB.out.size
            have HG2 := Lib.hid ((HF1.out.keep HB.out).keep hb2)
            have HB2 := Lib.hid (bel_by hb2 hbs HBr.out)
            have HBW2 := Lib.hid (bel_by hb2 HB.out.size HB.out)
            have HS2 := Lib.hid ((HS1.out.keep HB.out).keep hb2)
            obtain ⟨g0, g1, gf, gl⟩ := HG2.out
            clear f0 f1 ff fl hb2
            have hkL : acc.length < L.length := by rw [hLx]; simp
            have hLk : L[acc.length]'hkL = ⟨tk, tt, tn, ta⟩ := by simp [hLx]
            obtain rfl := HS2.out.ha (by omega)
            have bb := HS2.out.hb (by omega)
            have ca0 := HS2.out.c0 _ hkL
            have ca1 := HS2.out.c1 _ hkL
            have ca2 := HS2.out.c2 _ hkL
            have ca3 := HS2.out.c3 _ hkL
            rw [hLk] at ca0 ca1 ca2 ca3
            simp only [Nat.zero_add] at ca0 ca1 ca2 ca3
            clear hLk hLx hkL
            have hBt := (HB2.out.alloc (by omega) (.cells #[.int .i64 tk, .string tt, .int .i64 tn, .int .i64 ta] 30)).alloc (by simp; omega) (.cells #[.int .i64 0, .int .i64 0] 26)
            have HTt := Lib.hid (HT.out.below hBt)
            have hTk := (tk_new w2 ⟨tk, tt, tn, ta⟩ 30).keep ((Below.refl _ _).alloc (Nat.le_refl _) (.cells #[.int .i64 0, .int .i64 0] 26))
            have hFt := ft_new (w2.alloc (.cells #[.int .i64 tk, .string tt, .int .i64 tn, .int .i64 ta] 30)) 0 0 26
            simp only [World.size_alloc] at hFt
            have hFb := ((HG2.out).keep ((Below.refl _ _).alloc (Nat.le_refl _) (.cells #[.int .i64 tk, .string tt, .int .i64 tn, .int .i64 ta] 30))).keep ((Below.refl _ _).alloc (Nat.le_refl _) (.cells #[.int .i64 0, .int .i64 0] 26))
            have hBW := (HBW2.out.alloc (by omega) (.cells #[.int .i64 tk, .string tt, .int .i64 tn, .int .i64 ta] 30)).alloc (by simp; omega) (.cells #[.int .i64 0, .int .i64 0] 26)
            have HBt := Lib.hid hBt
            have HTk := Lib.hid hTk
            have HFt := Lib.hid hFt
            have HFb := Lib.hid hFb
            have HBWt := Lib.hid hBW
            clear hBt hTk hFt hFb hBW
            go_wp2_with fail
            go_quiet (fail)
            go_wp2_with fail
            go_roundw
            case rel => exact ⟨n, acc ++ [⟨tk, tt, tn, ta⟩], hns, by simp; omega, rfl, by simp, Lib.hid (bel_drewN HBWt.out nq), HU2⟩
            case measure => simp [intOf]; omega
          · have hLn := HNO.out hc
            have hnl : nL = 0 := by rw [← HNL.out, hLn]; rfl
            subst hnl
            have e1 : (c == 0) = false := by simpa using hc
            have e2 : (c != 0) = true := by simpa using hc
            clear HAT HU HUS HUA HNO HZE hLn
            go_wp2_with fail
            refine (HNk.out _ HTr.out).mono ?_
            rintro e w2 ⟨rfl, hb2⟩
            have hs2 := hb2.size
            have hs3 := HB.out.size
            have HG2 := Lib.hid ((HF1.out.keep HB.out).keep hb2)
            have HB2 := Lib.hid (bel_by hb2 hbs HBr.out)
            have HBW2 := Lib.hid (bel_by hb2 HB.out.size HB.out)
            have HS2 := Lib.hid ((HS1.out.keep HB.out).keep hb2)
            obtain ⟨g0, g1, gf, gl⟩ := HG2.out
            clear f0 f1 ff fl hb2
            have hBt := (HB2.out.alloc (by omega) (.cells #[.int .i64 tk, .string tt, .int .i64 tn, .int .i64 ta] 30)).alloc (by simp; omega) (.cells #[.int .i64 0, .int .i64 0] 26)
            have HTt := Lib.hid (HT.out.below hBt)
            have hTk := (tk_new w2 ⟨tk, tt, tn, ta⟩ 30).keep ((Below.refl _ _).alloc (Nat.le_refl _) (.cells #[.int .i64 0, .int .i64 0] 26))
            have hFt := ft_new (w2.alloc (.cells #[.int .i64 tk, .string tt, .int .i64 tn, .int .i64 ta] 30)) 0 0 26
            simp only [World.size_alloc] at hFt
            have hFb := ((HG2.out).keep ((Below.refl _ _).alloc (Nat.le_refl _) (.cells #[.int .i64 tk, .string tt, .int .i64 tn, .int .i64 ta] 30))).keep ((Below.refl _ _).alloc (Nat.le_refl _) (.cells #[.int .i64 0, .int .i64 0] 26))
            have hBW := (HBW2.out.alloc (by omega) (.cells #[.int .i64 tk, .string tt, .int .i64 tn, .int .i64 ta] 30)).alloc (by simp; omega) (.cells #[.int .i64 0, .int .i64 0] 26)
            have HBt := Lib.hid hBt
            have HTk := Lib.hid hTk
            have HFt := Lib.hid hFt
            have HFb := Lib.hid hFb
            have HBWt := Lib.hid hBW
            clear hBt hTk hFt hFb hBW
            go_wp2_with fail
            go_roundw
            case rel => exact ⟨n, acc ++ [⟨tk, tt, tn, ta⟩], hns, by simp; omega, rfl, by simp, HBWt, HU2⟩
            case measure => simp [intOf]; omega
      · have hX := HSTEP.out.1 h0
        rw [HXE.out] at hX
        simp only [Prod.mk.injEq] at hX
        obtain ⟨hLx, rfl, rfl⟩ := hX
        have hnl : nL = 0 := by rw [← HNL.out, hLx]; rfl
        subst hnl
        have e1 : (c == 0) = false := by simpa using h0
        have e2 : (c != 0) = true := by simpa using h0
        have HA := Lib.hid (fun W hW => awake_any W hW)
        clear HSTEP HAT HU HUS HUA HNO HZE
        go_wp2_with fail
        refine (HNk.out _ HTr.out).mono ?_
        rintro e w2 ⟨rfl, hb2⟩
        have hs2 := hb2.size
        have HG2 := Lib.hid ((HF1.out.keep HB.out).keep hb2)
        have HB2 := Lib.hid (bel_by hb2 hbs HBr.out)
        have HBW2 := Lib.hid (bel_by hb2 HB.out.size HB.out)
        have HS2 := Lib.hid ((HS1.out.keep HB.out).keep hb2)
        obtain ⟨g0, g1, gf, gl⟩ := HG2.out
        clear f0 f1 ff fl hb2
        have hBt := (HB2.out.alloc (by omega) (.cells #[.int .i64 tk, .string tt, .int .i64 tn, .int .i64 ta] 30)).alloc (by simp; omega) (.cells #[.int .i64 c, .int .i64 fa] 26)
        have HTt := Lib.hid (HT.out.below hBt)
        have hTk := (tk_new w2 ⟨tk, tt, tn, ta⟩ 30).keep ((Below.refl _ _).alloc (Nat.le_refl _) (.cells #[.int .i64 c, .int .i64 fa] 26))
        have hFt := ft_new (w2.alloc (.cells #[.int .i64 tk, .string tt, .int .i64 tn, .int .i64 ta] 30)) c fa 26
        simp only [World.size_alloc] at hFt
        have hFb := ((HG2.out).keep ((Below.refl _ _).alloc (Nat.le_refl _) (.cells #[.int .i64 tk, .string tt, .int .i64 tn, .int .i64 ta] 30))).keep ((Below.refl _ _).alloc (Nat.le_refl _) (.cells #[.int .i64 c, .int .i64 fa] 26))
        have HBt := Lib.hid hBt
        have HTk := Lib.hid hTk
        have HFt := Lib.hid hFt
        have HFb := Lib.hid hFb
        clear hBt hTk hFt hFb
        go_wp2_with fail
        refine (HA.out _ HTt.out).mono ?_
        rintro e w3 ⟨rfl, hb3⟩
        have hs3 := hb3.size
        simp only [World.size_alloc] at hs3
        obtain ⟨y0, y1, yf, yl⟩ := HFt.out.keep hb3
        clear g0 g1 gf gl
        obtain ⟨g0, g1, gf, gl⟩ := HFb.out.keep hb3
        have HB3 := Lib.hid (bel_by hb3 (by simp; omega) HBt.out)
        clear hb3
        go_wp2_with fail
        go_ret
        exact ⟨rfl, HB3.out⟩
end Go.Proofs.YtmokeegebbmdhaaDoor
