/- The law of comments: for every source and every comment. -/
import Derived.Test.YtmokeegebbmdhaaDoorLawTokens
set_option linter.unusedSimpArgs false
set_option linter.unusedVariables false
namespace Go.Proofs.YtmokeegebbmdhaaDoor
open Go.RowKit

theorem head_cat (c : ByteArray) : ((⟨#[35]⟩ : ByteArray) ++ c ++ ⟨#[10, 32, 9, 13, 10]⟩).data.toList = headL c.data.toList := by
  unfold headL
  simp
theorem head_cat2 (c : ByteArray) : ((⟨#[35]⟩ : ByteArray) ++ (c ++ ⟨#[10, 32, 9, 13, 10]⟩)) = (⟨#[35]⟩ : ByteArray) ++ c ++ ⟨#[10, 32, 9, 13, 10]⟩ := by
  apply bs_inj
  simp
set_option maxHeartbeats 4000000 in
set_option maxRecDepth 100000 in
theorem comments_walk (s cm : ByteArray) (hs : s.size ≤ 9223372036854775807) (hcm : cm.size ≤ 9223372036854775807) (w : World) (hT : Tabs w) : Calls Tryd.prog 6 #[.string s, .string cm] w fun e w' => e = .returned (.bool true) ∧ Below w.heap.size w w' := by
  have HA := Lib.hid (fun W hW => awake_any W hW)
  have HT := Lib.hid hT
  clear hT
  by_cases hz : 2000 < s.size
  · have k1 : decide ((s.size : Int) > 2000) = true := decide_eq_true (by omega)
    go_enter Tryd.func6, Tryd.ntmps6
    go_wp2_with fail
    refine (HA.out _ HT.out).mono ?_
    rintro e w1 ⟨rfl, hb1⟩
    go_wp2_with fail
    go_ret
    exact ⟨rfl, hb1⟩
  · have k1 : decide ((s.size : Int) > 2000) = false := decide_eq_false (by omega)
    by_cases hz2 : 200 < cm.size
    · have k2 : decide ((cm.size : Int) > 200) = true := decide_eq_true (by omega)
      have k3 : (200 : Int) < (cm.size : Int) := by omega
      go_enter Tryd.func6, Tryd.ntmps6
      go_wp2_with fail
      refine (HA.out _ HT.out).mono ?_
      rintro e w1 ⟨rfl, hb1⟩
      go_wp2_with fail
      go_ret
      exact ⟨rfl, hb1⟩
    · have k2 : decide ((cm.size : Int) > 200) = false := decide_eq_false (by omega)
      have HLX := Lib.hid (fun s W hW => lex_any s W hW)
      obtain ⟨h, hh⟩ : ∃ h, (⟨#[35]⟩ : ByteArray) ++ cm ++ ⟨#[10, 32, 9, 13, 10]⟩ = h := ⟨_, rfl⟩
      have hhd : h.data.toList = headL cm.data.toList := by rw [← hh]; exact head_cat cm
      have hhz : h.size = cm.size + 6 := by rw [← list_size, hhd]; simp [headL, list_size]
      have hh2 : (⟨#[35]⟩ : ByteArray) ++ (cm ++ ⟨#[10, 32, 9, 13, 10]⟩) = h := by rw [head_cat2]; exact hh
      have HH := Lib.hid hh
      have HH2 := Lib.hid hh2
      have HHD := Lib.hid hhd
      have hhb : h.size ≤ 206 := by omega
      clear hh hh2 hhd hhz
      go_enter Tryd.func6, Tryd.ntmps6
      go_wp2_with fail
      go_loop [5] (fun s5 => ∃ k : Nat, k ≤ cm.size ∧ s5 = .int .i64 (k : Int) ∧ Hid (∀ (j : Nat) (hj : j < cm.size), j < k → cm[j]'hj ≠ 10)) (fun s5 => (cm.size - (intOf s5)).toNat)
      case atStart => exact ⟨0, Nat.zero_le _, rfl, Lib.hid (fun j _ h => absurd h (Nat.not_lt_zero j))⟩
      case round =>
        obtain ⟨k, hk, rfl, HK⟩ := hrel
        by_cases hlt : k < cm.size
        · have hl : (k : Int) < (cm.size : Int) := by omega
          have e10 : (cm[k]'hlt == 10) = (((cm[k]'hlt).toNat : Int) == 10) := u8_eq (cm[k]'hlt) 10 (by decide)
          cases hc : (cm[k]'hlt == 10) with
          | true =>
            rw [hc] at e10
            replace e10 := e10.symm
            clear hc
            go_wp2_with fail
            refine (HA.out _ HT.out).mono ?_
            rintro e w1 ⟨rfl, hb1⟩
            go_wp2_with fail
            go_ret
            exact ⟨rfl, hb1⟩
          | false =>
            rw [hc] at e10
            replace e10 := e10.symm
            have HC := Lib.hid hc
            clear hc
            go_wp2_with fail
            go_round
            case rel =>
              refine ⟨k + 1, by omega, by go_num, Lib.hid (fun j hj hjk => ?_)⟩
              by_cases e : j = k
              · subst e
                have := HC.out
                simpa using this
              · exact HK.out j hj (by omega)
            case measure => simp [intOf]; omega
        · obtain rfl : k = cm.size := by omega
          have hl : ¬ (cm.size : Int) < (cm.size : Int) := by omega
          have hne : ∀ x ∈ cm.data.toList, x ≠ 10 := by
            intro x hx
            obtain ⟨j, hj, rfl⟩ := List.getElem_of_mem hx
            exact HK.out j (by simpa using hj) (by simpa using hj)
          obtain ⟨S, hS⟩ : ∃ S, h ++ s = S := ⟨_, rfl⟩
          obtain ⟨m1, m2, m3⟩ := lexS_head s h cm.data.toList hne HHD.out (by omega)
          have hSz : S.size ≤ 65536 := by rw [← hS]; simp; omega
          rw [hS] at m1 m2 m3
          have HX := Lib.hid (fun W hW => lex_any s W hW)
          have HY := Lib.hid (fun W hW => lex_any S W hW)
          obtain ⟨X, hX⟩ : ∃ X, lexS s = X := ⟨_, rfl⟩
          obtain ⟨Y, hY⟩ : ∃ Y, lexS S = Y := ⟨_, rfl⟩
          rw [hX] at HX m1 m2 m3
          rw [hY] at HY m1 m2 m3
          obtain ⟨L, c, fa⟩ := X
          obtain ⟨M, c2, f2⟩ := Y
          simp only at m1 m2 m3
          subst m2
          have lk := lexS_like (by omega) hX
          have lk2 := lexS_like hSz hY
          have HSM := Lib.hid (same_zero m1)
          unfold LexPost fV at HX HY
          simp only at HX HY
          have HSS := Lib.hid hS
          have hH := HH.out
          have hH2 := HH2.out
          clear hne hX hY HK HLX m1 hS HHD
          obtain ⟨nL, hnL⟩ : ∃ nL, L.length = nL := ⟨_, rfl⟩
          obtain ⟨nM, hnM⟩ : ∃ nM, M.length = nM := ⟨_, rfl⟩
          have HNL := Lib.hid hnL
          have HNM := Lib.hid hnM
          clear hnL hnM
          have hfa : 0 ≤ fa ∧ fa ≤ 70000 := by
            by_cases h0 : c2 = 0
            · have := (lk.1 h0).1; omega
            · have := (lk.2 h0).2; omega
          have way : c2 = 0 ∨ (c2 ≠ 0 ∧ f2 = fa + (h.size : Int)) := by
            by_cases h0 : c2 = 0
            · exact .inl h0
            · exact .inr ⟨h0, m3 h0⟩
          clear lk lk2 m3
          have e0 : (c2 != c2) = false := by simp
          have hS := HSS.out
          rcases way with rfl | ⟨h0, rfl⟩
          · go_wp2_with fail
            refine (HX.out _ HT.out).mono ?_
            rintro e w1 ⟨v1, rfl, ho1, hb1⟩
            obtain ⟨a1, b1, cap1, rfl, sl1⟩ := slt_own ho1
            rw [HNL.out] at sl1 ⊢
            have hs1 := hb1.size
            have HB1 := Lib.hid (hb1.alloc hs1 (.cells #[.int .i64 0, .int .i64 fa] 26))
            have HT1 := Lib.hid (HT.out.below HB1.out)
            have HF1 := Lib.hid (ft_new w1 0 fa 26)
            have HS1 := Lib.hid (sl1.keep ((Below.refl _ _).alloc (Nat.le_refl _) (.cells #[.int .i64 0, .int .i64 fa] 26)))
            clear ho1 sl1 hb1
            go_wp2_with fail
            refine (HY.out _ HT1.out).mono ?_
            rintro e w2 ⟨v2, rfl, ho2, hb2⟩
            obtain ⟨a2, b2, cap2, rfl, sl2⟩ := slt_own ho2
            rw [HNM.out] at sl2 ⊢
            have hs2 := hb2.size
            simp only [World.size_alloc] at hs2
            have HB2 := Lib.hid (bel_by hb2 (by simp; omega) HB1.out)
            have HB2a := Lib.hid (HB2.out.alloc (by omega) (.cells #[.int .i64 0, .int .i64 f2] 26))
            have HT2 := Lib.hid (HT.out.below HB2a.out)
            have HS2 := Lib.hid ((HS1.out.keep hb2).keep ((Below.refl _ _).alloc (Nat.le_refl _) (.cells #[.int .i64 0, .int .i64 f2] 26)))
            have HR2 := Lib.hid (sl2.keep ((Below.refl _ _).alloc (Nat.le_refl _) (.cells #[.int .i64 0, .int .i64 f2] 26)))
            obtain ⟨g0, g1, gf, gl⟩ := HF1.out.keep hb2
            clear ho2 sl2 hb2
            go_wp2_with fail
            refine (HA.out _ HT2.out).mono ?_
            rintro e w3 ⟨rfl, hb3⟩
            have hs3 := hb3.size
            simp only [World.size_alloc] at hs3
            have HB3 := Lib.hid (bel_by hb3 (by simp; omega) HB2a.out)
            have HSA := Lib.hid (same_any (HS2.out.keep hb3) (HR2.out.keep hb3) false)
            rw [HSM.out] at HSA
            clear hb3
            go_wp2_with fail
            refine HSA.out.mono ?_
            rintro e w4 ⟨rfl, hb4⟩
            have HB4 := Lib.hid (bel_by hb4 (by omega) HB3.out)
            clear hb4
            go_wp2_with fail
            go_ret
            exact ⟨rfl, HB4.out⟩
          · have e1 : (c2 == 0) = false := by simpa using h0
            have e2 : (c2 != 0) = true := by simpa using h0
            have e3 : ((fa + (h.size : Int)) != (fa + (h.size : Int))) = false := by simp
            by_cases h6 : c2 = 6
            · subst h6
              go_wp2_with fail
              refine (HX.out _ HT.out).mono ?_
              rintro e w1 ⟨v1, rfl, ho1, hb1⟩
              obtain ⟨a1, b1, cap1, rfl, sl1⟩ := slt_own ho1
              rw [HNL.out] at sl1 ⊢
              have hs1 := hb1.size
              have HB1 := Lib.hid (hb1.alloc hs1 (.cells #[.int .i64 6, .int .i64 fa] 26))
              have HT1 := Lib.hid (HT.out.below HB1.out)
              have HF1 := Lib.hid (ft_new w1 6 fa 26)
              have HS1 := Lib.hid (sl1.keep ((Below.refl _ _).alloc (Nat.le_refl _) (.cells #[.int .i64 6, .int .i64 fa] 26)))
              clear ho1 sl1 hb1
              go_wp2_with fail
              refine (HY.out _ HT1.out).mono ?_
              rintro e w2 ⟨v2, rfl, ho2, hb2⟩
              obtain ⟨a2, b2, cap2, rfl, sl2⟩ := slt_own ho2
              rw [HNM.out] at sl2 ⊢
              have hs2 := hb2.size
              simp only [World.size_alloc] at hs2
              have HB2 := Lib.hid (bel_by hb2 (by simp; omega) HB1.out)
              have HB2a := Lib.hid (HB2.out.alloc (by omega) (.cells #[.int .i64 6, .int .i64 (fa + (h.size : Int))] 26))
              have HT2 := Lib.hid (HT.out.below HB2a.out)
              have HS2 := Lib.hid ((HS1.out.keep hb2).keep ((Below.refl _ _).alloc (Nat.le_refl _) (.cells #[.int .i64 6, .int .i64 (fa + (h.size : Int))] 26)))
              have HR2 := Lib.hid (sl2.keep ((Below.refl _ _).alloc (Nat.le_refl _) (.cells #[.int .i64 6, .int .i64 (fa + (h.size : Int))] 26)))
              obtain ⟨g0, g1, gf, gl⟩ := HF1.out.keep hb2
              clear ho2 sl2 hb2
              go_wp2_with fail
              refine (HA.out _ HT2.out).mono ?_
              rintro e w3 ⟨rfl, hb3⟩
              have hs3 := hb3.size
              simp only [World.size_alloc] at hs3
              have HB3 := Lib.hid (bel_by hb3 (by simp; omega) HB2a.out)
              have HSA := Lib.hid (same_any (HS2.out.keep hb3) (HR2.out.keep hb3) false)
              rw [HSM.out] at HSA
              clear hb3
              go_wp2_with fail
              refine HSA.out.mono ?_
              rintro e w4 ⟨rfl, hb4⟩
              have HB4 := Lib.hid (bel_by hb4 (by omega) HB3.out)
              clear hb4
              go_wp2_with fail
              go_ret
              exact ⟨rfl, HB4.out⟩
            · have e4 : (c2 == 6) = false := by simpa using h6
              have e5 : (c2 != 6) = true := by simpa using h6
              go_wp2_with fail
              refine (HX.out _ HT.out).mono ?_
              rintro e w1 ⟨v1, rfl, ho1, hb1⟩
              obtain ⟨a1, b1, cap1, rfl, sl1⟩ := slt_own ho1
              rw [HNL.out] at sl1 ⊢
              have hs1 := hb1.size
              have HB1 := Lib.hid (hb1.alloc hs1 (.cells #[.int .i64 c2, .int .i64 fa] 26))
              have HT1 := Lib.hid (HT.out.below HB1.out)
              have HF1 := Lib.hid (ft_new w1 c2 fa 26)
              have HS1 := Lib.hid (sl1.keep ((Below.refl _ _).alloc (Nat.le_refl _) (.cells #[.int .i64 c2, .int .i64 fa] 26)))
              clear ho1 sl1 hb1
              go_wp2_with fail
              refine (HY.out _ HT1.out).mono ?_
              rintro e w2 ⟨v2, rfl, ho2, hb2⟩
              obtain ⟨a2, b2, cap2, rfl, sl2⟩ := slt_own ho2
              rw [HNM.out] at sl2 ⊢
              have hs2 := hb2.size
              simp only [World.size_alloc] at hs2
              have HB2 := Lib.hid (bel_by hb2 (by simp; omega) HB1.out)
              have HB2a := Lib.hid (HB2.out.alloc (by omega) (.cells #[.int .i64 c2, .int .i64 (fa + (h.size : Int))] 26))
              have HT2 := Lib.hid (HT.out.below HB2a.out)
              have HS2 := Lib.hid ((HS1.out.keep hb2).keep ((Below.refl _ _).alloc (Nat.le_refl _) (.cells #[.int .i64 c2, .int .i64 (fa + (h.size : Int))] 26)))
              have HR2 := Lib.hid (sl2.keep ((Below.refl _ _).alloc (Nat.le_refl _) (.cells #[.int .i64 c2, .int .i64 (fa + (h.size : Int))] 26)))
              obtain ⟨g0, g1, gf, gl⟩ := HF1.out.keep hb2
              clear ho2 sl2 hb2
              go_wp2_with fail
              refine (HA.out _ HT2.out).mono ?_
              rintro e w3 ⟨rfl, hb3⟩
              have hs3 := hb3.size
              simp only [World.size_alloc] at hs3
              have HB3 := Lib.hid (bel_by hb3 (by simp; omega) HB2a.out)
              have HSA := Lib.hid (same_any (HS2.out.keep hb3) (HR2.out.keep hb3) false)
              rw [HSM.out] at HSA
              clear hb3
              go_wp2_with fail
              refine HSA.out.mono ?_
              rintro e w4 ⟨rfl, hb4⟩
              have HB4 := Lib.hid (bel_by hb4 (by omega) HB3.out)
              clear hb4
              go_wp2_with fail
              go_ret
              exact ⟨rfl, HB4.out⟩
end Go.Proofs.YtmokeegebbmdhaaDoor
