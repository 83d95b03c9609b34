/- The law of a source's tokens: for every source. -/
import Derived.Test.YtmokeegebbmdhaaDoorAwk
import Derived.Test.YtmokeegebbmdhaaDoorStep
import Derived.Test.YtmokeegebbmdhaaDoorSame
set_option linter.unusedSimpArgs false
set_option linter.unusedVariables false
namespace Go.Proofs.YtmokeegebbmdhaaDoor
open Go.RowKit

theorem lexS_like {s : ByteArray} {L : List Tk} {c fa : Int} (hs : s.size ≤ 65536) (h : lexS s = (L, c, fa)) :
    (c = 0 → fa = 0 ∧ Inc 0 L ∧ (∀ t ∈ L, validT t = true ∧ t.a ≤ (s.size : Int)) ∧ L.length ≤ s.size + 1) ∧ (c ≠ 0 → L = [] ∧ 0 ≤ fa ∧ fa ≤ (s.size : Int)) := by
  have hsz := list_size s
  have h0 := lexS_small s hs
  rw [h] at h0
  by_cases h1 : (lexR (s.size + 1) s.data.toList 0).2.1 = 0
  · rw [if_pos h1] at h0
    obtain ⟨ts, e, q1, q2, q3, q4, q5, q6, q7, q8⟩ := lexR_like (s.size + 1) s.data.toList 0 (by omega) h1
    rw [← h0] at q1 q4 q5
    simp only [Prod.mk.injEq] at q1 q4 q5
    obtain ⟨rfl, rfl⟩ := q5
    refine ⟨fun _ => ⟨rfl, q4, fun t ht => ?_, ?_⟩, fun h => absurd rfl h⟩
    · rw [q1] at ht
      rcases List.mem_append.1 ht with ht | ht
      · exact ⟨(q2 t ht).1, by have := q8 t ht; rw [hsz] at this; omega⟩
      · rw [List.mem_singleton.1 ht, q3]
        exact ⟨by simp [validT, vText, bs_data], by simp⟩
    · rw [q1, List.length_append, List.length_singleton]
      omega
  · rw [if_neg h1] at h0
    obtain ⟨k, hk, he⟩ := lexR_fault (s.size + 1) s.data.toList 0 (by omega) h1
    simp only [Prod.mk.injEq] at h0
    obtain ⟨rfl, h2⟩ := h0
    rw [← h2] at h1 he
    refine ⟨fun h => absurd h h1, fun _ => ⟨rfl, ?_, ?_⟩⟩
    · simp only at he; omega
    · simp only at he; omega
theorem same_zero {A B : List Tk} (h : B.map zeroA = A.map zeroA) : sameL false A B = true := by
  unfold sameL
  rw [decide_eq_true_eq]
  have e : nrm false = zeroA := by funext t; rfl
  rw [e, h]
set_option maxHeartbeats 4000000 in
set_option maxRecDepth 100000 in
theorem tokens_walk (s : ByteArray) (hs : s.size ≤ 9223372036854775807) (w : World) (hT : Tabs w) : Calls Tryd.prog 4 #[.string s] w fun e w' => e = .returned (.bool true) ∧ Below w.heap.size w w' := by
  by_cases hz : 2000 < s.size
  · have HA := Lib.hid (awake_any w hT)
    have k1 : decide ((s.size : Int) > 2000) = true := decide_eq_true (by omega)
    clear hT
    go_enter Tryd.func4, Tryd.ntmps4
    go_wp2_with fail
    refine HA.out.mono ?_
    rintro e w1 ⟨rfl, hb1⟩
    go_wp2_with fail
    go_ret
    exact ⟨rfl, hb1⟩
  · have k1 : decide ((s.size : Int) > 2000) = false := decide_eq_false (by omega)
    have HT := Lib.hid hT
    have HX := Lib.hid (lex_any s w hT)
    have HA := Lib.hid (fun W hW => awake_any W hW)
    have HV := Lib.hid (fun t ht W hW => valid_any t ht W hW)
    have HLX := Lib.hid (fun s W hW => lex_any s W hW)
    clear hT
    obtain ⟨X, hX⟩ : ∃ X, lexS s = X := ⟨_, rfl⟩
    rw [hX] at HX
    obtain ⟨L, c, fa⟩ := X
    unfold LexPost fV at HX
    simp only at HX
    have HLK := Lib.hid (lexS_like (by omega) hX)
    have HAG := Lib.hid (lexS_again s (by omega))
    rw [hX] at HAG
    simp only at HAG
    clear hX
    by_cases hc : c = 0
    · subst hc
      obtain ⟨rfl, hinc, hall, hlen⟩ := HLK.out.1 rfl
      obtain ⟨g1, g2, g3, g4⟩ := HAG.out rfl
      have HINC := Lib.hid hinc
      have HALL := Lib.hid hall
      obtain ⟨nL, hnL⟩ : ∃ nL, L.length = nL := ⟨_, rfl⟩
      rw [hnL] at hlen
      obtain ⟨J, hJ⟩ : ∃ J, joinS L = J := ⟨_, rfl⟩
      rw [hJ] at g1 g2 g3 g4
      obtain ⟨J1, J2⟩ := J
      simp only at g1 g2 g3 g4
      subst g1
      obtain ⟨D, hD⟩ : ∃ D, bs J1 = D := ⟨_, rfl⟩
      rw [hD] at g2 g3
      obtain ⟨Y, hY⟩ : ∃ Y, lexS D = Y := ⟨_, rfl⟩
      have HLD := Lib.hid (fun W hW => lex_any D W hW)
      rw [hY] at g2 g3 HLD
      obtain ⟨L2, c2, f2⟩ := Y
      simp only [Prod.mk.injEq] at g2 g3
      obtain ⟨rfl, rfl⟩ := g2
      have HSM := Lib.hid (same_zero g3)
      unfold LexPost fV at HLD
      simp only at HLD
      have HJT := Lib.hid (show ∀ (W : World) (a : Option Addr) (b o cp : Nat), SlT W a b o nL cp L → Tabs W → Calls Tryd.prog 11 #[.slice a nL cp] W fun e w' => e = .returned (.tuple #[.string D, .int .i64 0]) ∧ Below W.heap.size W w' from fun W a b o cp hS hW => by
        have := joinT_any hS (by omega) (fun t ht => Nat.le_trans (valid_short t (hall t ht).1) (by omega)) hW
        rw [hJ, hD] at this
        exact this)
      have HNL := Lib.hid hnL
      clear hinc hall g3 g4 hJ hD hY HLK HAG HLX
      go_enter Tryd.func4, Tryd.ntmps4
      go_wp2_with fail
      refine HX.out.mono ?_
      rintro e w1 ⟨v1, rfl, ho1, hb1⟩
      rw [HNL.out] at ho1
      obtain ⟨a1, b1, cap1, rfl, sl1⟩ := (show ∃ a b cap, v1 = .slice a nL cap ∧ SlT w1 a b 0 nL cap L from by
        have h := slt_own (L := L) (by rw [HNL.out]; exact ho1)
        rw [HNL.out] at h
        exact h)
      have hcap := sl1.hcap
      have hmax := sl1.hmax
      unfold maxLen at hmax
      have HBW := Lib.hid (hb1.alloc hb1.size (.cells #[.int .i64 0, .int .i64 0] 26))
      have HS1 := Lib.hid (sl1.keep ((Below.refl _ _).alloc (Nat.le_refl _) (.cells #[.int .i64 0, .int .i64 0] 26)))
      clear ho1 sl1 hb1
      go_wp2_with fail
      generalize w1.alloc (.cells #[.int .i64 0, .int .i64 0] 26) = W1 at *
      generalize w1.heap.size = bf at *
      go_loopw [5, 6] (fun s5 s6 wr => ∃ (i : Nat) (x : Int), i ≤ nL ∧ -1 ≤ x ∧ x ≤ s.size ∧ s5 = .int .i64 x ∧ s6 = .int .i64 (i : Int) ∧ Hid (Below W1.heap.size W1 wr) ∧ Hid (Inc (x + 1) (L.drop i))) (fun _ s6 _ => (nL - (intOf s6)).toNat)
      case atStart => exact ⟨0, -1, Nat.zero_le _, by omega, by omega, rfl, rfl, Lib.hid (Below.refl _ _), HINC⟩
      case round =>
        obtain ⟨i, x, hi, hx1, hx2, rfl, rfl, HB, HI⟩ := hrel
        have HBr := Lib.hid (show Below w.heap.size w wr from bel_by HB.out HBW.out.size HBW.out)
        have hbs := HBr.out.size
        by_cases hlt : i < nL
        · have hl : (i : Int) < (nL : Int) := by omega
          have hkL : i < L.length := by rw [HNL.out]; exact hlt
          have hI := HI.out
          rw [List.drop_eq_getElem_cons hkL] at hI
          obtain ⟨hi1, hi2⟩ := hI
          obtain ⟨hv, hta⟩ := HALL.out _ (List.getElem_mem hkL)
          have hvs := valid_short _ hv
          have HVK := HV.out (L[i]'hkL) (by omega)
          rw [hv] at HVK
          have SA := HS1.out.keep HB.out
          obtain rfl := SA.ha (by omega)
          have ba := SA.hb (by omega)
          have ca0 := SA.c0 i hkL
          have ca1 := SA.c1 i hkL
          have ca2 := SA.c2 i hkL
          have ca3 := SA.c3 i hkL
          simp only [Nat.zero_add] at ca0 ca1 ca2 ca3
          clear SA hv
          generalize L[i]'hkL = t at *
          obtain ⟨xk, xt, xn, xa⟩ := t
          simp only [Tk.val] at ca0 ca1 ca2 ca3 HVK hi1 hta
          have HVK := Lib.hid (HVK wr (HT.out.below HBr.out))
          have HI2 := Lib.hid hi2
          have d1 : decide (xa ≤ x) = false := decide_eq_false (by omega)
          have d2 : decide (xa > (s.size : Int)) = false := decide_eq_false (by omega)
          have d3 : ¬ xa ≤ x := by omega
          have d4 : ¬ (s.size : Int) < xa := by omega
          clear hi2
          go_wp2_with fail
          refine HVK.out.mono ?_
          rintro e w2 ⟨rfl, hb2⟩
          have hs2 := hb2.size
          have HB2 := Lib.hid (bel_by hb2 HB.out.size HB.out)
          have SA := (HS1.out.keep HB.out).keep hb2
          have bb := SA.hb (by omega)
          have ca3' := (hb2.cell (p := ⟨b1, i * 4 + 3, none⟩) ba).trans ca3
          have ca0' := (hb2.cell (p := ⟨b1, i * 4, none⟩) ba).trans ca0
          have ca1' := (hb2.cell (p := ⟨b1, i * 4 + 1, none⟩) ba).trans ca1
          have ca2' := (hb2.cell (p := ⟨b1, i * 4 + 2, none⟩) ba).trans ca2
          clear ca0 ca1 ca2 ca3 HVK hb2 SA
          go_wp2_with fail
          go_roundw
          case rel => exact ⟨i + 1, xa, by omega, by omega, by omega, rfl, by go_num, HB2, HI2⟩
          case measure => simp [intOf]; omega
        · obtain rfl : i = nL := by omega
          have hl : ¬ (i : Int) < (i : Int) := by omega
          have HJW := Lib.hid (HJT.out wr _ _ _ _ (HS1.out.keep HB.out) (HT.out.below HBr.out))
          clear HI HINC HALL
          go_wp2_with fail
          refine HJW.out.mono ?_
          rintro e w4 ⟨rfl, hb4⟩
          have hs4 := hb4.size
          have HB4 := Lib.hid (bel_by hb4 hbs HBr.out)
          have HS4 := Lib.hid ((HS1.out.keep HB.out).keep hb4)
          have HT4 := Lib.hid (HT.out.below HB4.out)
          clear hb4 HJW HB HBr
          go_wp2_with fail
          refine (HLD.out _ HT4.out).mono ?_
          rintro e w5 ⟨v5, rfl, ho5, hb5⟩
          obtain ⟨a5, b5, cap5, rfl, sl5⟩ := slt_own ho5
          obtain ⟨n5, hn5⟩ : ∃ n5, L2.length = n5 := ⟨_, rfl⟩
          rw [hn5] at sl5 ⊢
          have hs5 := hb5.size
          have hbs4 := HB4.out.size
          have HB5 := Lib.hid (bel_by hb5 (by omega) HB4.out)
          have HB5a := Lib.hid (HB5.out.alloc (by omega) (.cells #[.int .i64 0, .int .i64 0] 26))
          have HS5 := Lib.hid ((HS4.out.keep hb5).keep ((Below.refl _ _).alloc (Nat.le_refl _) (.cells #[.int .i64 0, .int .i64 0] 26)))
          have HR5 := Lib.hid (sl5.keep ((Below.refl _ _).alloc (Nat.le_refl _) (.cells #[.int .i64 0, .int .i64 0] 26)))
          have HF5 := Lib.hid (ft_new w5 0 0 26)
          have HT5 := Lib.hid (HT.out.below HB5a.out)
          clear ho5 sl5 hb5 hn5
          go_wp2_with fail
          refine (HA.out _ HT5.out).mono ?_
          rintro e w6 ⟨rfl, hb6⟩
          have hs6 := hb6.size
          simp only [World.size_alloc] at hs6
          have HB6 := Lib.hid (bel_by hb6 (by simp; omega) HB5a.out)
          obtain ⟨g0, g1, gf, gl⟩ := HF5.out.keep hb6
          have HSA := Lib.hid (same_any (HS5.out.keep hb6) (HR5.out.keep hb6) false)
          rw [HSM.out] at HSA
          clear hb6
          go_wp2_with fail
          refine HSA.out.mono ?_
          rintro e w7 ⟨rfl, hb7⟩
          have hs7 := hb7.size
          have HB7 := Lib.hid (bel_by hb7 (by omega) HB6.out)
          clear hb7
          go_wp2_with fail
          go_ret
          exact ⟨rfl, HB7.out⟩
    · obtain ⟨rfl, l1, l2⟩ := HLK.out.2 hc
      have e1 : (c == 0) = false := by simpa using hc
      have e2 : (c != 0) = true := by simpa using hc
      have d1 : decide (fa ≥ 0) = true := decide_eq_true l1
      have d2 : decide (fa ≤ (s.size : Int)) = true := decide_eq_true l2
      clear HLK HAG HLX HV
      go_enter Tryd.func4, Tryd.ntmps4
      go_wp2_with fail
      refine HX.out.mono ?_
      rintro e w1 ⟨v1, rfl, ho1, hb1⟩
      obtain ⟨a1, b1, cap1, rfl, sl1⟩ := (show ∃ a b cap, v1 = .slice a 0 cap ∧ SlT w1 a b 0 0 cap [] from slt_own ho1)
      have hs1 := hb1.size
      have HBW := Lib.hid (hb1.alloc hb1.size (.cells #[.int .i64 c, .int .i64 fa] 26))
      have HT1 := Lib.hid (HT.out.below HBW.out)
      have HF1 := Lib.hid (ft_new w1 c fa 26)
      clear ho1 sl1 hb1
      go_wp2_with fail
      refine (HA.out _ HT1.out).mono ?_
      rintro e w2 ⟨rfl, hb2⟩
      have hs2 := hb2.size
      simp only [World.size_alloc] at hs2
      obtain ⟨g0, g1, gf, gl⟩ := HF1.out.keep hb2
      have HB2 := Lib.hid (bel_by hb2 (by simp; omega) HBW.out)
      clear hb2
      go_wp2_with fail
      go_ret
      exact ⟨rfl, HB2.out⟩
end Go.Proofs.YtmokeegebbmdhaaDoor
