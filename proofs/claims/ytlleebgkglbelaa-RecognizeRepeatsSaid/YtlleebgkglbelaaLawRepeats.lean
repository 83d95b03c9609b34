/- The law of RecognizeRepeats. -/
import Derived.Test.YtlleebgkglbelaaAwk
import Derived.Test.YtlleebgkglbelaaRrq
import Derived.BigQuiet
set_option linter.unusedSimpArgs false
set_option linter.unusedVariables false
namespace Go.Proofs.Ytlleebgkglbelaa
open Go.RowKit

set_option maxHeartbeats 8000000 in
set_option maxRecDepth 100000 in
theorem law_repeats (w : World) {a : Option Addr} {b off len cap : Nat} {R : List Rg} (hL : SlR w a b off len cap R) :
    Calls Try.prog 6 #[.slice a len cap] w fun e w' => e = .returned (.bool true) ∧ Below w.heap.size w w' := by
  have HS := Lib.hid hL
  have hl0 := hL.hl
  have HA := Lib.hid (fun W => awake_any W)
  have HC1 := Lib.hid (fun W (hW : SlR W a b off len cap R) (hm : len ≤ 1000) (hz : ∀ x ∈ R, x.c.size ≤ maxLen) => repeats_any hW hm hz)
  have HC2 := Lib.hid (fun W (hW : SlR W a b off len cap R) (hm : len ≤ 1000) (hz : ∀ x ∈ R, x.c.size ≤ maxLen) => rrepeats_any hW hm hz)
  unfold RepPost at HC1 HC2
  clear hL
  go_enter Try.func6, Try.ntmps6
  go_wp2_with fail
  refine (HA.out _).mono ?_
  rintro e w1 ⟨rfl, hb⟩
  have HB1 := Lib.hid hb
  clear hb HA
  by_cases h30 : len > 30
  · have h30' : (len : Int) > 30 := by omega
    go_wp2_with fail
    go_ret
    exact ⟨rfl, HB1.out⟩
  · have h30' : ¬ (len : Int) > 30 := by omega
    go_wp2_with fail
    go_loopw [3] (fun s wr => ∃ (k : Nat), k ≤ len ∧ s = .int .i64 (k : Int) ∧ Hid (Below w1.heap.size w1 wr) ∧ Hid (∀ (i : Nat) (h : i < R.length), i < k → (R[i]'h).c.size ≤ 40)) (fun s _ => (len - (intOf s)).toNat)
    case atStart => exact ⟨0, Nat.zero_le _, rfl, Lib.hid (Below.refl _ _), Lib.hid (show ∀ (i : Nat) (h : i < R.length), i < 0 → (R[i]'h).c.size ≤ 40 from fun i h hi => absurd hi (Nat.not_lt_zero i))⟩
    case round =>
      obtain ⟨k, hk, rfl, HX, HK⟩ := hrel
      by_cases hlt : k < len
      · have hl : (k : Int) < (len : Int) := by omega
        have hkL : k < R.length := by omega
        have S := HS.out.keep (HB1.out.trans (HX.out.mono HB1.out.size))
        obtain rfl := S.ha (by omega)
        have sb := S.hb (by omega)
        have c1 := S.c1 k hkL
        clear S
        have HXC := Lib.hid (show ∀ x, R[k]'hkL = x → x = R[k]'hkL from fun x h => h.symm)
        obtain ⟨xc, hxc⟩ : ∃ xc, (R[k]'hkL).c = xc := ⟨_, rfl⟩
        rw [hxc] at c1
        have HXX := Lib.hid hxc
        clear hxc HXC
        by_cases h40 : xc.size > 40
        · have h40' : (xc.size : Int) > 40 := by omega
          go_wp2_with fail
          go_ret
          exact ⟨rfl, HB1.out.trans (HX.out.mono HB1.out.size)⟩
        · have h40' : ¬ (xc.size : Int) > 40 := by omega
          have HK2 := Lib.hid (show ∀ (i : Nat) (h : i < R.length), i < k + 1 → (R[i]'h).c.size ≤ 40 from fun i h hi => by
            rcases Nat.lt_succ_iff_lt_or_eq.1 hi with h1 | rfl
            · exact HK.out i h h1
            · have := HXX.out; subst this; omega)
          clear HK
          go_wp2_with fail
          go_roundw
          case rel => exact ⟨k + 1, by omega, by go_num, HX, HK2⟩
          case measure => simp [intOf]; omega
      · have hke : len = k := by omega
        subst hke
        have hl : ¬ (len : Int) < (len : Int) := by omega
        have hz : ∀ x ∈ R, x.c.size ≤ maxLen := fun x hx => by
          obtain ⟨i, hi, rfl⟩ := List.mem_iff_getElem.1 hx
          have := HK.out i hi (by omega)
          unfold maxLen; omega
        have HB2 := Lib.hid (HB1.out.trans (HX.out.mono HB1.out.size))
        have HD1 := Lib.hid (fun W (hB : Below w.heap.size w W) => HC1.out W (HS.out.keep hB) (by omega) hz)
        have HD2 := Lib.hid (fun W (hB : Below w.heap.size w W) => HC2.out W (HS.out.keep hB) (by omega) hz)
        clear HC1 HC2 HX HK hz
        go_wp2_with fail
        refine (HD1.out _ HB2.out).mono ?_
        rintro e w3 ⟨v1, M1, rfl, ho1, hr1, he1, hb⟩
        have HB3 := Lib.hid (HB2.out.trans (hb.mono HB2.out.size))
        clear hb HD1 HB2
        go_wp2_with fail
        refine (HD2.out _ HB3.out).mono ?_
        rintro e w4 ⟨v2, M2, rfl, ho2, hr2, he2, hb⟩
        have HB4 := Lib.hid (HB3.out.trans (hb.mono HB3.out.size))
        have HO1 := Lib.hid (own_below ho1 hb)
        have HR1 := Lib.hid (show ∀ p ∈ M1, RdI w4 p.1 p.2 from fun p hp => (hr1 p hp).keep hb)
        have HO2 := Lib.hid ho2
        have HR2 := Lib.hid hr2
        have HEE := Lib.hid (he1.trans he2.symm)
        have hml : M1.length = M2.length := by have := congrArg List.length HEE.out; simpa using this
        have hm1 : M1.length ≤ 9223372036854775807 := by
          rcases HO1.out.2 with ⟨_, h0⟩ | ⟨g, cap', cur, _, _, _, h1, h2, _⟩
          · omega
          · unfold maxLen at h2; omega
        obtain ⟨a1, c1, rfl⟩ := own_form ho1
        obtain ⟨a2, c2, rfl⟩ := own_form ho2
        rw [← hml]
        have HML := Lib.hid hml
        clear hb ho1 hr1 he1 ho2 hr2 he2 HD2 HB3 hml HB1
        obtain ⟨N, hN⟩ : ∃ N, M1.length = N := ⟨_, rfl⟩
        rw [hN] at HO1 hm1 ⊢
        rw [← HML.out, hN] at HO2
        have HN := Lib.hid hN
        clear hN
        go_wp2_with fail
        go_loopw [6] (fun s wr => ∃ (i m : Nat), i ≤ N ∧ s = .int .i64 (i : Int) ∧ w4.drewN m = wr) (fun s _ => (N - (intOf s)).toNat)
        case atStart => exact ⟨0, 0, Nat.zero_le _, rfl, rfl⟩
        case round =>
          obtain ⟨i, m, hi9, rfl, rfl⟩ := hrel
          by_cases hlt : i < N
          · have hl : (i : Int) < (N : Int) := by omega
            have hi1 : i < M1.length := by rw [HN.out]; exact hlt
            have hi2 : i < M2.length := by rw [← HML.out, HN.out]; exact hlt
            obtain ⟨g1, d1, hfm, hgb1, hgl1⟩ := HO1.out.form (by omega)
            simp only [Value.slice.injEq] at hfm
            obtain ⟨rfl, _, rfl⟩ := hfm
            obtain ⟨g2, d2, hfm, hgb2, hgl2⟩ := HO2.out.form (by omega)
            simp only [Value.slice.injEq] at hfm
            obtain ⟨rfl, _, rfl⟩ := hfm
            have p1 := HO1.out.cellAt i (by omega)
            rw [List.getElem?_map, List.getElem?_eq_getElem hi1] at p1
            have p2 := HO2.out.cellAt i (by omega)
            rw [List.getElem?_map, List.getElem?_eq_getElem hi2] at p2
            have hz : (M1[i]'hi1).2 = (M2[i]'hi2).2 := by
              have h1 : (M1.map (·.2))[i]? = (M2.map (·.2))[i]? := by rw [HEE.out]
              simpa [hi1, hi2] using h1
            obtain ⟨ra, rg, rc, r1, r2, r3, r4, r5⟩ := HR1.out _ (List.getElem_mem hi1)
            obtain ⟨sa, sg, sc, s1, s2, s3, s4, s5⟩ := HR2.out _ (List.getElem_mem hi2)
            simp only [Option.map_some] at p1 p2
            rw [r1] at p1
            rw [s1] at p2
            clear r1 s1
            generalize (M1[i]'hi1).2 = zs at *
            generalize (M2[i]'hi2).2 = zs2 at *
            subst hz
            have hnz : zs.length ≤ 9223372036854775807 := by unfold maxLen at r5; omega
            have HP1 := Lib.hid p1
            have HP2 := Lib.hid p2
            have HRA := Lib.hid (show 0 < zs.length → ra = some ⟨rg, 0, none⟩ ∧ rg < w4.heap.size from fun h => by
              obtain ⟨h1, cs, fr, hh⟩ := r2 h
              exact ⟨h1, (Array.getElem?_eq_some_iff.1 hh).1⟩)
            have HSA := Lib.hid (show 0 < zs.length → sa = some ⟨sg, 0, none⟩ ∧ sg < w4.heap.size from fun h => by
              obtain ⟨h1, cs, fr, hh⟩ := s2 h
              exact ⟨h1, (Array.getElem?_eq_some_iff.1 hh).1⟩)
            have HRC := Lib.hid r3
            have HSC := Lib.hid s3
            clear p1 p2 r2 r3 r4 r5 s2 s3 s4 s5
            have p1 : (w4.drewN m).cell? ⟨g1, i, none⟩ = _ := HP1.out
            have p2 : (w4.drewN m).cell? ⟨g2, i, none⟩ = _ := HP2.out
            have q1 : g1 < (w4.drewN m).heap.size := hgl1
            have q2 : g2 < (w4.drewN m).heap.size := hgl2
            generalize hnl : zs.length = nl at p1 p2 hnz
            have HNL := Lib.hid hnl
            clear hnl
            generalize hwn : w4.drewN m = wn at *
            have HWN := Lib.hid hwn
            clear hwn
            go_wp2_with fail
            go_quiet (fail)
            have HWQ := Lib.hid (show w4.drewN (m + nq) = wn.drewN nq by rw [← HWN.out, World.drewN_drewN])
            clear p1 p2 q1 q2
            go_wp2_with fail
            go_loopw [7] (fun s7 wx => ∃ (k m' : Nat), k ≤ nl ∧ s7 = .int .i64 (k : Int) ∧ w4.drewN m' = wx) (fun s7 _ => (nl - (intOf s7)).toNat)
            case atStart => exact ⟨0, m + nq, Nat.zero_le _, rfl, HWQ.out⟩
            case round =>
              obtain ⟨k, m', hk9, rfl, rfl⟩ := hrel
              have p1 : (w4.drewN m').cell? ⟨g1, i, none⟩ = _ := HP1.out
              have p2 : (w4.drewN m').cell? ⟨g2, i, none⟩ = _ := HP2.out
              rw [HNL.out] at p1 p2
              have q1 : g1 < (w4.drewN m').heap.size := hgl1
              have q2 : g2 < (w4.drewN m').heap.size := hgl2
              by_cases hkl : k < nl
              · have hl2 : (k : Int) < (nl : Int) := by omega
                have hkz : k < zs.length := by rw [HNL.out]; exact hkl
                obtain ⟨rfl, e1⟩ := HRA.out (by omega)
                obtain ⟨rfl, e2⟩ := HSA.out (by omega)
                have p3 : (w4.drewN m').cell? ⟨rg, k, none⟩ = _ := HRC.out k hkz
                have p4 : (w4.drewN m').cell? ⟨sg, k, none⟩ = _ := HSC.out k hkz
                have e3 : rg < (w4.drewN m').heap.size := e1
                have e4 : sg < (w4.drewN m').heap.size := e2
                generalize ((zs[k]'hkz : Nat) : Int) = t at p3 p4
                clear hkz
                generalize hwx : w4.drewN m' = wz at *
                have HWX := Lib.hid hwx
                clear hwx
                go_wp2_with fail
                go_quiet (fail)
                have HWY := Lib.hid (show w4.drewN (m' + nq) = wz.drewN nq by rw [← HWX.out, World.drewN_drewN])
                clear p1 p2 p3 p4 q1 q2 e1 e2 e3 e4
                go_wp2_with fail
                go_roundw
                case rel => exact ⟨k + 1, m' + nq, by omega, by go_num, HWY.out⟩
                case measure => simp [intOf]; omega
              · have hl2 : ¬ (k : Int) < (nl : Int) := by omega
                generalize hwx : w4.drewN m' = wz at *
                have HWX := Lib.hid hwx
                clear hwx
                go_wp2_with fail
                go_roundw
                case rel => exact ⟨i + 1, m', by omega, by go_num, HWX.out⟩
                case measure => simp [intOf]; omega
          · have hl : ¬ (i : Int) < (N : Int) := by omega
            go_wp2_with fail
            go_ret
            exact ⟨rfl, HB4.out.trans ((show Below w4.heap.size w4 (w4.drewN m) from bel_drewN (Below.refl _ _) m).mono HB4.out.size)⟩
end Go.Proofs.Ytlleebgkglbelaa
