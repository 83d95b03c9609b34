/- The law of RecognizeReviews. -/
import Derived.Test.YtlleebgkglbelaaAwk
import Derived.Test.YtlleebgkglbelaaPlv
import Derived.Test.YtlleebgkglbelaaRfl
import Derived.BigQuiet
set_option linter.unusedSimpArgs false
set_option linter.unusedVariables false
namespace Go.Proofs.Ytlleebgkglbelaa
open Go.RowKit

set_option maxHeartbeats 8000000 in
set_option maxRecDepth 100000 in
theorem law_reviews (w : World) {c : Ct} (h : CtOk w c) {a : Option Addr} {b off len cap : Nat} {L : List It} (hL : SlX w a b off len cap L) (ix st : Int) (v : Bool) (hst : st ≤ 9223372036854775807) :
    Calls Try.prog 8 #[c.val, .slice a len cap, .int .i64 ix, .int .i64 st, .bool v] w fun e w' => e = .returned (.bool true) ∧ Below w.heap.size w w' := by
  have HOK := Lib.hid h
  have HS := Lib.hid hL
  have hl0 := hL.hl
  have HA := Lib.hid (fun W => awake_any W)
  have HFI := Lib.hid (fun W (hc : CtOk W c) (hW : SlX W a b off len cap L) => fits_any hc hW 30)
  have HSE := Lib.hid (fun W (hW : SlX W a b off len cap L) (hf : fitC L) (hm : len ≤ 1000) => settle_any hW hf (by omega) ix st v (fun h => chk_d h) hst)
  have HSO := Lib.hid (fun (h : (setS L ix st v).1 = 0) => set_ok h)
  have HLI := Lib.hid (fun W (M : List It) (a' : Option Addr) (b' off' cap' : Nat) (hc : CtOk W c) (hW : SlX W a' b' off' len cap' M) (hE : FitE c.E) (hf : fitC M) (hm : len ≤ 1000) => line_any hc (by have := hE.len; omega) hW hf (by omega))
  have HS0 := Lib.hid (fun W (M : List It) (a' : Option Addr) (b' off' cap' : Nat) (hW : SlX W a' b' off' len cap' M) (hf : fitC M) (hm : len ≤ 1000) (n : Int) => settle_any hW hf (by omega) n 0 false (fun h => chk_d h) (by decide))
  have HRV := Lib.hid (fun W (M : List It) (a' : Option Addr) (b' off' cap' : Nat) (hc : CtOk W c) (hW : SlX W a' b' off' len cap' M) (hE : FitE c.E) (hf : fitC M) (hm : len ≤ 1000) => reviewed_any hc (by have := hE.len; omega) (wit_val2 hE.wit) hW hf hm)
  have HN := Lib.hid (ct_new w c 27)
  have HB0 := Lib.hid (show Below w.heap.size w (w.alloc (.cells #[.slice c.ag c.ng c.cg, .slice c.ak c.nk c.ck, .slice c.ae c.ne c.ce, .slice c.ac c.nc c.cc] 27)) from (by repeat (first | with_reducible exact Below.refl _ _ | (with_reducible refine Below.setCell ?_ (by first | exact Nat.le_refl _ | omega | (simp; done) | (simp; omega)) _) | (with_reducible refine Below.alloc ?_ (by first | exact Nat.le_refl _ | omega | (simp; done) | (simp; omega)) _) | with_reducible refine Below.drew ?_ | with_reducible refine bel_drewN ?_ _ | (with_reducible refine bel_by (by with_reducible assumption) (by first | exact Nat.le_refl _ | omega | (simp; done) | (simp; omega)) ?_))))
  unfold StlPost at HSE HS0
  unfold LinPost at HLI
  unfold RevPost at HRV
  obtain ⟨q, hq⟩ : ∃ q, setS L ix st v = q := ⟨_, rfl⟩
  rw [hq] at HSE HSO
  obtain ⟨q1, q2⟩ := q
  simp only at HSE HSO
  clear h hL hq
  unfold Ct.val at *
  obtain ⟨ag, bg, og, ng, cg, ak, bk, ok, nk, ck, ae, be, oe, ne, ce, ac, bc, oc, nc, cc, G, K, E, X⟩ := c
  simp only at HN HB0 HFI HLI HRV ⊢
  go_enter Try.func8, Try.ntmps8
  go_wp2_with fail
  generalize (w.alloc (.cells #[.slice ag ng cg, .slice ak nk ck, .slice ae ne ce, .slice ac nc cc] 27)) = W0 at *
  refine (HA.out _).mono ?_
  rintro e w1 ⟨rfl, hb⟩
  have HB1 := Lib.hid (HB0.out.trans (hb.mono HB0.out.size))
  have HN1 := Lib.hid (HN.out.keep hb)
  clear hb HN HB0 HA
  obtain ⟨z0, z1, z2, z3, zf, zl⟩ := HN1.out
  simp only at z0 z1 z2 z3
  go_wp2_with fail
  refine (HFI.out _ (HOK.out.keep HB1.out) (HS.out.keep HB1.out)).mono ?_
  rintro e w2 ⟨f, rfl, hb, hff⟩
  have HB2 := Lib.hid (HB1.out.trans (hb.mono HB1.out.size))
  have HN2 := Lib.hid (HN1.out.keep hb)
  have HFF := Lib.hid hff
  clear hb hff z0 z1 z2 z3 zf zl HN1 HB1 HFI
  cases f with
  | false =>
    go_wp2_with fail
    go_ret
    exact ⟨rfl, HB2.out⟩
  | true =>
    obtain ⟨hE, hlen, hcs⟩ := HFF.out (by simp)
    have hf : fitC L := fun k hk => by have := hcs _ (List.getElem_mem hk); omega
    have hm : len ≤ 1000 := by omega
    have HE := Lib.hid hE
    have HF := Lib.hid hf
    have HM := Lib.hid hm
    clear hlen hcs hE hf hm HFF
    go_wp2_with fail
    refine (HSE.out _ (HS.out.keep HB2.out) HF.out HM.out).mono ?_
    rintro e w3 ⟨hb, h3⟩
    have HB3 := Lib.hid (HB2.out.trans (hb.mono HB2.out.size))
    have HN3 := Lib.hid (HN2.out.keep hb)
    clear hb HN2 HB2 HSE
    rcases h3 with ⟨h3, rfl⟩ | ⟨h3, g3, c3, rfl, s3, hg3⟩
    · have k0 : (q1 == 0) = false := by simpa using h3
      have k1 : (q1 != 0) = true := by simpa using h3
      clear h3
      go_wp2_with fail
      go_ret
      exact ⟨rfl, HB3.out⟩
    · subst h3
      obtain ⟨hk0, n, hn, rfl, hst0, hrn, hq2, hk2⟩ := HSO.out rfl
      try simp only at hq2
      subst hq2
      have HK0 := Lib.hid hk0
      have HK2 := Lib.hid hk2
      have hnl : n < len := by omega
      have HL3 := Lib.hid s3
      have HF3 := Lib.hid (show fitC (L.set n (setI (L[n]'hn) st v)) from fitC_set HF.out n _ (HF.out n hn))
      obtain ⟨M, hM⟩ : ∃ M, L.set n (setI (L[n]'hn) st v) = M := ⟨_, rfl⟩
      have HMD := Lib.hid hM
      rw [hM] at HL3 HF3 HK2
      clear hk0 hk2 s3 hM HSO hrn
      obtain ⟨z0, z1, z2, z3, zf, zl⟩ := HN3.out
      simp only at z0 z1 z2 z3
      go_wp2_with fail
      refine (HLI.out _ L a b off cap (HOK.out.keep HB3.out) (HS.out.keep HB3.out) HE.out HF.out HM.out).mono ?_
      rintro e w4 ⟨hb, h4⟩
      have HB4 := Lib.hid (HB3.out.trans (hb.mono HB3.out.size))
      have HN4 := Lib.hid (HN3.out.keep hb)
      have HL4 := Lib.hid (HL3.out.keep hb)
      clear hb HN3 HB3 HL3 z0 z1 z2 z3 zf zl
      obtain ⟨_, v4, rfl, ho4⟩ := h4.resolve_left (fun h => h.1 HK0.out)
      clear h4
      obtain ⟨a4, b4, c4, rfl, sl4, _⟩ := slr_own ho4
      have HA4 := Lib.hid sl4
      clear ho4 sl4
      rw [List.length_map, hl0] at HA4
      rw [List.length_map, hl0]
      obtain ⟨z0, z1, z2, z3, zf, zl⟩ := HN4.out
      simp only at z0 z1 z2 z3
      go_wp2_with fail
      refine (HLI.out _ M (some ⟨g3, 0, none⟩) g3 0 c3 (HOK.out.keep HB4.out) HL4.out HE.out HF3.out HM.out).mono ?_
      rintro e w5 ⟨hb, h5⟩
      have HB5 := Lib.hid (HB4.out.trans (hb.mono HB4.out.size))
      have HN5 := Lib.hid (HN4.out.keep hb)
      have HL5 := Lib.hid (HL4.out.keep hb)
      have HA5 := Lib.hid (HA4.out.keep hb)
      have hMl : M.length = len := by rw [← HMD.out, List.length_set, hl0]
      clear hb HN4 HB4 HL4 HA4 HLI z0 z1 z2 z3 zf zl
      obtain ⟨_, v5, rfl, ho5⟩ := h5.resolve_left (fun h => h.1 HK2.out)
      clear h5
      obtain ⟨a5, b5, c5, rfl, sl5, _⟩ := slr_own ho5
      rw [List.length_map, hMl] at sl5
      rw [List.length_map, hMl]
      have HC5 := Lib.hid sl5
      have HG3 := Lib.hid hg3
      clear ho5 sl5 hMl hg3
      obtain ⟨R1, hR1⟩ : ∃ R1, L.map (itemS E) = R1 := ⟨_, rfl⟩
      obtain ⟨R2, hR2⟩ : ∃ R2, M.map (itemS E) = R2 := ⟨_, rfl⟩
      rw [hR1] at HA5
      rw [hR2] at HC5
      have HR12 := Lib.hid (show ∀ (k : Nat) (h1 : k < R1.length) (h2 : k < R2.length), k ≠ n → R2[k]'h2 = R1[k]'h1 from fun k h1 h2 hk => by
        subst hR1
        subst hR2
        have hM := HMD.out
        subst hM
        simp only [List.getElem_map]
        rw [List.getElem_set_ne (by omega)])
      have HRN := Lib.hid (show ∃ (y z : Rg), (∀ h1 : n < R1.length, R1[n]'h1 = y) ∧ (∀ h2 : n < R2.length, R2[n]'h2 = z) ∧ z.n ≤ y.n ∧ z.r = false ∧ (v = true → z.k = false) ∧ (st = 0 → v = false → z = ⟨y.k, y.c, y.g, y.s, y.n, false, y.j⟩) from by
        obtain ⟨p1, p2, p3, p4⟩ := rev_item HE.out (wit_val2 HE.out.wit) (L[n]'hn) (chk_d HK0.out _ (List.getElem_mem hn)).1 hst0 v
        refine ⟨itemS E (L[n]'hn), itemS E (setI (L[n]'hn) st v), fun h1 => ?_, fun h2 => ?_, p1, p2, p3, p4⟩
        · subst hR1
          simp only [List.getElem_map]
        · subst hR2
          have hM := HMD.out
          subst hM
          simp only [List.getElem_map, List.getElem_set_self])
      have HL1 := Lib.hid (show R1.length = len from by rw [← hR1, List.length_map, hl0])
      have HL2 := Lib.hid (show R2.length = len from by rw [← hR2, List.length_map, ← HMD.out, List.length_set, hl0])
      have HMM := Lib.hid (show M.length = len from by rw [← HMD.out, List.length_set, hl0])
      clear hR1 hR2
      obtain ⟨z0, z1, z2, z3, zf, zl⟩ := HN5.out
      simp only at z0 z1 z2 z3
      have hli : len ≤ 1000 := HM.out
      obtain rfl := HA5.out.ha (by omega)
      obtain rfl := HC5.out.ha (by omega)
      have hs4 := HA5.out.hb (by omega)
      have hs5 := HC5.out.hb (by omega)
      go_wp2_with fail
      go_loopw [17] (fun s wr => ∃ (k : Nat), k ≤ len ∧ s = .int .i64 (k : Int) ∧ Hid (Below w5.heap.size w5 wr)) (fun s _ => (len - (intOf s)).toNat)
      case atStart => exact ⟨0, Nat.zero_le _, rfl, Lib.hid (Below.refl _ _)⟩
      case round =>
        obtain ⟨k, hk, rfl, HBR⟩ := hrel
        have SA := HA5.out.low (fun _ => hs4) HBR.out
        have SC := HC5.out.low (fun _ => hs5) HBR.out
        by_cases hlt : k < len
        · have hl : (k : Int) < (len : Int) := by omega
          by_cases hkn : k = n
          · subst hkn
            clear SA SC
            go_upto_region 15 with fail
            refine wp_region_quiet_below (by kernel_rfl) (by kernel_rfl) ?_
            repeat (go_big_quiet_step (fail))
            refine wpQuiet_nil ?_
            intro _ hw'
            obtain ⟨⟨dq, osq⟩, hw''⟩ := hw'
            subst hw''
            have HB7 := Lib.hid (HBR.out.trans ((below_regrown wr dq osq).mono HBR.out.size))
            generalize Sort.grow (redrawn wr dq) osq = w7 at *
            go_wp2_with fail
            go_roundw
            case rel => exact ⟨k + 1, by omega, by go_num, HB7⟩
            case measure => simp [intOf]; omega
          · have h1 : k < R1.length := by rw [HL1.out]; exact hlt
            have h2 : k < R2.length := by rw [HL2.out]; exact hlt
            have he := HR12.out k h1 h2 hkn
            have c0 := fun d os => cell_regrown (SA.c0 k h1) d os
            have c1 := fun d os => cell_regrown (SA.c1 k h1) d os
            have c2 := fun d os => cell_regrown (SA.c2 k h1) d os
            have c3' := fun d os => cell_regrown (SA.c3 k h1) d os
            have c4' := fun d os => cell_regrown (SA.c4 k h1) d os
            have c5' := fun d os => cell_regrown (SA.c5 k h1) d os
            have c6 := fun d os => cell_regrown (SA.c6 k h1) d os
            have d0 := fun d os => cell_regrown (SC.c0 k h2) d os
            have d1 := fun d os => cell_regrown (SC.c1 k h2) d os
            have d2 := fun d os => cell_regrown (SC.c2 k h2) d os
            have d3 := fun d os => cell_regrown (SC.c3 k h2) d os
            have d4 := fun d os => cell_regrown (SC.c4 k h2) d os
            have d5 := fun d os => cell_regrown (SC.c5 k h2) d os
            have d6 := fun d os => cell_regrown (SC.c6 k h2) d os
            simp only [he] at d0 d1 d2 d3 d4 d5 d6
            clear he SA SC
            generalize R1[k]'h1 = x at *
            obtain ⟨xk, xc, xg, xs, xn, xr, xj⟩ := x
            simp only [Nat.zero_add] at c0 c1 c2 c3' c4' c5' c6 d0 d1 d2 d3 d4 d5 d6
            have t1 : (xc.toList == xc.toList) = true := by simp
            have t2 : (xg.toList == xg.toList) = true := by simp
            have t3 : (xs.toList == xs.toList) = true := by simp
            have hki : ¬ (k : Int) = (n : Int) := by omega
            have hkb : ((k : Int) != (n : Int)) = true := by simpa using hki
            go_upto_region 15 with fail
            refine wp_region_quiet_below (by kernel_rfl) (by kernel_rfl) ?_
            repeat (go_big_quiet_step (fail))
            refine wpQuiet_nil ?_
            intro _ hw'
            obtain ⟨⟨dq, osq⟩, hw''⟩ := hw'
            subst hw''
            have HB7 := Lib.hid (HBR.out.trans ((below_regrown wr dq osq).mono HBR.out.size))
            generalize Sort.grow (redrawn wr dq) osq = w7 at *
            clear c0 c1 c2 c3' c4' c5' c6 d0 d1 d2 d3 d4 d5 d6
            go_wp2_with fail
            go_roundw
            case rel => exact ⟨k + 1, by omega, by go_num, HB7⟩
            case measure => simp [intOf]; omega
        · have hl : ¬ (k : Int) < (len : Int) := by omega
          obtain ⟨y, z, hy, hz, hzy, hzr, hzv, hzs⟩ := HRN.out
          have hn1 : n < R1.length := by rw [HL1.out]; exact hnl
          have hn2 : n < R2.length := by rw [HL2.out]; exact hnl
          have d0 := SA.c0 n hn1
          have d1 := SA.c1 n hn1
          have d2 := SA.c2 n hn1
          have d3 := SA.c3 n hn1
          have d4 := SA.c4 n hn1
          have d5 := SA.c5 n hn1
          have d6 := SA.c6 n hn1
          have HCZ := Lib.hid (fun W (hW : Below w5.heap.size w5 W) => (HC5.out.low (fun _ => hs5) hW))
          rw [hy hn1] at d0 d1 d2 d3 d4 d5 d6
          have HZ := Lib.hid (hz hn2)
          have HZF := Lib.hid (And.intro hzy (And.intro hzr (And.intro hzv hzs)))
          clear SA SC hy hz hzy hzr hzv hzs
          obtain ⟨yk, yc, yg, ys, yn, yr, yj⟩ := y
          simp only [Nat.zero_add] at d0 d1 d2 d3 d4 d5 d6
          have hnI : (n : Int) < (len : Int) := by omega
          have HY := Lib.hid (rg_new wr ⟨yk, yc, yg, ys, yn, false, yj⟩ 35)
          have HBY := Lib.hid (show Below w5.heap.size w5 (wr.alloc (.cells #[.bool yk, .string yc, .string yg, .string ys, .int .i64 yn, .bool false, .bool yj] 35)) from HBR.out.alloc HBR.out.size _)
          go_upto_region 19 with fail
          clear d0 d1 d2 d3 d4 d5 d6
          generalize (wr.alloc (.cells #[.bool yk, .string yc, .string yg, .string ys, .int .i64 yn, .bool false, .bool yj] 35)) = w9 at *
          go_cut [136] (fun s136 wx => s136 = .bool false ∧ Hid (Below w9.heap.size w9 wx))
          case first =>
            have SC := HCZ.out w9 HBY.out
            have e0 := SC.c0 n hn2
            have e1 := SC.c1 n hn2
            have e2 := SC.c2 n hn2
            have e3 := SC.c3 n hn2
            have e4 := SC.c4 n hn2
            have e5 := SC.c5 n hn2
            have e6 := SC.c6 n hn2
            rw [HZ.out] at e0 e1 e2 e3 e4 e5 e6
            clear SC
            obtain ⟨hzy, hzr, hzv, hzs⟩ := HZF.out
            obtain ⟨zk, zc, zg, zs, zn, zr, zj⟩ := z
            simp only [Nat.zero_add] at e0 e1 e2 e3 e4 e5 e6 hzy hzr hzv hzs
            subst hzr
            obtain ⟨i0, i1, i2, i3, i4, i5, i6, iff, il⟩ := HY.out
            simp only at i0 i1 i2 i3 i4 i5 i6
            have a0 := fun d os => cell_regrown i0 d os
            have a1 := fun d os => cell_regrown i1 d os
            have a2 := fun d os => cell_regrown i2 d os
            have a3 := fun d os => cell_regrown i3 d os
            have a4 := fun d os => cell_regrown i4 d os
            have a5 := fun d os => cell_regrown i5 d os
            have a6 := fun d os => cell_regrown i6 d os
            have b0 := fun d os => cell_regrown e0 d os
            have b1 := fun d os => cell_regrown e1 d os
            have b2 := fun d os => cell_regrown e2 d os
            have b3 := fun d os => cell_regrown e3 d os
            have b4' := fun d os => cell_regrown e4 d os
            have b5' := fun d os => cell_regrown e5 d os
            have b6 := fun d os => cell_regrown e6 d os
            clear e0 e1 e2 e3 e4 e5 e6 i0 i1 i2 i3 i4 i5 i6 iff il HZ HZF
            have t1 : (yc.toList == yc.toList) = true := by simp
            have t2 : (yg.toList == yg.toList) = true := by simp
            have t3 : (ys.toList == ys.toList) = true := by simp
            have g1 : ¬ zn > yn := by omega
            have g2 : decide (zn > yn) = false := decide_eq_false g1
            clear hzy
            by_cases h0 : st = 0
            · subst h0
              cases v with
              | false =>
                have hz := hzs rfl rfl
                simp only [Rg.mk.injEq] at hz
                obtain ⟨rfl, rfl, rfl, rfl, rfl, _, rfl⟩ := hz
                clear hzs hzv
                refine wp_region_quiet_below (by kernel_rfl) (by kernel_rfl) ?_
                repeat (go_big_quiet_step (fail))
                refine wpQuiet_nil ?_
                intro _ hw'
                obtain ⟨⟨dq, osq⟩, hw''⟩ := hw'
                subst hw''
                have HB7 := Lib.hid (below_regrown w9 dq osq)
                generalize Sort.grow (redrawn w9 dq) osq = w7 at *
                go_wp2_with fail
                go_meet
                exact ⟨rfl, HB7⟩
              | true =>
                obtain rfl := hzv rfl
                clear hzs hzv
                refine wp_region_quiet_below (by kernel_rfl) (by kernel_rfl) ?_
                repeat (go_big_quiet_step (fail))
                refine wpQuiet_nil ?_
                intro _ hw'
                obtain ⟨⟨dq, osq⟩, hw''⟩ := hw'
                subst hw''
                have HB7 := Lib.hid (below_regrown w9 dq osq)
                generalize Sort.grow (redrawn w9 dq) osq = w7 at *
                go_wp2_with fail
                go_meet
                exact ⟨rfl, HB7⟩
            · have h1 : (st == 0) = false := by simpa using h0
              clear hzs
              cases v with
              | false =>
                clear hzv
                refine wp_region_quiet_below (by kernel_rfl) (by kernel_rfl) ?_
                repeat (go_big_quiet_step (fail))
                refine wpQuiet_nil ?_
                intro _ hw'
                obtain ⟨⟨dq, osq⟩, hw''⟩ := hw'
                subst hw''
                have HB7 := Lib.hid (below_regrown w9 dq osq)
                generalize Sort.grow (redrawn w9 dq) osq = w7 at *
                go_wp2_with fail
                go_meet
                exact ⟨rfl, HB7⟩
              | true =>
                obtain rfl := hzv rfl
                clear hzv
                refine wp_region_quiet_below (by kernel_rfl) (by kernel_rfl) ?_
                repeat (go_big_quiet_step (fail))
                refine wpQuiet_nil ?_
                intro _ hw'
                obtain ⟨⟨dq, osq⟩, hw''⟩ := hw'
                subst hw''
                have HB7 := Lib.hid (below_regrown w9 dq osq)
                generalize Sort.grow (redrawn w9 dq) osq = w7 at *
                go_wp2_with fail
                go_meet
                exact ⟨rfl, HB7⟩
          case rest =>
            obtain ⟨rfl, HBC⟩ := hcut
            generalize wc = w10 at *
            have HB10 := Lib.hid (HBY.out.trans (HBC.out.mono HBY.out.size))
            have HBW := Lib.hid (HB5.out.trans (HB10.out.mono HB5.out.size))
            have HNW := Lib.hid (HN5.out.keep HB10.out)
            have HLW := Lib.hid (HL5.out.keep HB10.out)
            clear HBC HBY HY HZ HZF HCZ HBR HB5 HN5 HL5 HA5 HC5 HR12 HRN z0 z1 z2 z3 zf zl
            go_wp2_with fail
            go_loopw [11, 12, 19] (fun s11 s12 s19 wr => ∃ (k g cv : Nat) (N : List It), k ≤ len ∧ s11 = .slice (some ⟨g, 0, none⟩) len cv ∧ s12 = .int .i64 0 ∧ s19 = .int .i64 (k : Int) ∧ Hid (SlX wr (some ⟨g, 0, none⟩) g 0 len cv N) ∧ Hid (chkL N = 0) ∧ Hid (fitC N) ∧ Hid (∀ (j : Nat) (h : j < N.length), j < k → (N[j]'h).r = false) ∧ Hid (Below w.heap.size w wr) ∧ Hid (CtAt wr w.heap.size ⟨ag, bg, og, ng, cg, ak, bk, ok, nk, ck, ae, be, oe, ne, ce, ac, bc, oc, nc, cc, G, K, E, X⟩)) (fun _ _ s19 _ => (len - (intOf s19)).toNat)
            case atStart => exact ⟨0, g3, c3, M, Nat.zero_le _, rfl, rfl, rfl, HLW, HK2, HF3, Lib.hid (fun j h hj => absurd hj (by omega)), HBW, HNW⟩
            case round =>
              obtain ⟨k, g, cv, N, hk, rfl, rfl, rfl, HLN, HKN, HFN, HRN, HB, HNr⟩ := hrel
              have hNl := HLN.out.hl
              by_cases hlt : k < len
              · have hl : (k : Int) < (len : Int) := by omega
                have hkN : k < N.length := by omega
                have c2 := HLN.out.c2 k hkN
                simp only [Nat.zero_add] at c2
                cases hr : (N[k]'hkN).r with
                | false =>
                  rw [hr] at c2
                  have HRN2 := Lib.hid (show ∀ (j : Nat) (h : j < N.length), j < k + 1 → (N[j]'h).r = false from fun j h hj => by
                    by_cases hjk : j = k
                    · subst hjk; exact hr
                    · exact HRN.out j h (by omega))
                  clear hr HRN hNl
                  go_wp2_with fail
                  go_roundw
                  case rel => exact ⟨k + 1, g, cv, N, by omega, rfl, rfl, by go_num, HLN, HKN, HFN, HRN2, HB, HNr⟩
                  case measure => simp [intOf]; omega
                | true =>
                  rw [hr] at c2
                  have HST := Lib.hid (HS0.out wr N _ g 0 cv HLN.out HFN.out HM.out (k : Int))
                  rw [set_rev HKN.out k hkN hr] at HST
                  have HKN2 := Lib.hid (show chkL (N.set k (setI (N[k]'hkN) 0 false)) = 0 from chk_rev HKN.out k hkN _ rfl (by simp only [setI]; omega) rfl)
                  have HFN2 := Lib.hid (show fitC (N.set k (setI (N[k]'hkN) 0 false)) from fitC_set HFN.out k _ (HFN.out k hkN))
                  have HRN2 := Lib.hid (show ∀ (j : Nat) (h : j < (N.set k (setI (N[k]'hkN) 0 false)).length), j < k + 1 → ((N.set k (setI (N[k]'hkN) 0 false))[j]'h).r = false from fun j h hj => by
                    rw [List.getElem_set]
                    split
                    · rfl
                    · exact HRN.out j (by simpa using h) (by omega))
                  generalize N.set k (setI (N[k]'hkN) 0 false) = N2 at *
                  simp only at HST
                  clear hr HRN hNl
                  go_wp2_with fail
                  refine HST.out.mono ?_
                  rintro e w11 ⟨hb, h3⟩
                  rcases h3 with ⟨h3, _⟩ | ⟨_, g4, c4', rfl, s4, hg4⟩
                  · exact absurd rfl h3
                  have HLN2 := Lib.hid s4
                  have HB2 := Lib.hid (HB.out.trans (hb.mono HB.out.size))
                  have HN2 := Lib.hid (HNr.out.keep hb)
                  clear HST s4 hb hg4 HLN HKN HFN HB HNr c2
                  go_wp2_with fail
                  go_roundw
                  case rel => exact ⟨k + 1, g4, c4', N2, by omega, rfl, rfl, by go_num, HLN2, HKN2, HFN2, HRN2, HB2, HN2⟩
                  case measure => simp [intOf]; omega
              · have hl : ¬ (k : Int) < (len : Int) := by omega
                have HRW := Lib.hid (HRV.out wr N _ g 0 cv (HOK.out.keep HB.out) HLN.out HE.out HFN.out HM.out)
                have hrn : revL (N.map (itemS E)) N.length = ([], 0) := rev_none (fun x hx => by
                  obtain ⟨y, hy, rfl⟩ := List.mem_map.1 hx
                  obtain ⟨j, hj, rfl⟩ := List.mem_iff_getElem.1 hy
                  exact item_rev HE.out _ (HRN.out j hj (by omega))) _
                simp only [hrn] at HRW
                have HKZ := Lib.hid HKN.out
                clear hrn hNl HRN
                obtain ⟨z0, z1, z2, z3, zf, zl⟩ := HNr.out
                simp only at z0 z1 z2 z3
                go_wp2_with fail
                refine HRW.out.mono ?_
                rintro e w12 ⟨hb, h3⟩
                have HB2 := Lib.hid (HB.out.trans (hb.mono HB.out.size))
                obtain ⟨_, v8, rfl, ho8⟩ := h3.resolve_left (fun h => h.1 HKZ.out)
                obtain ⟨a8, c8, rfl⟩ := own_form ho8
                clear hb h3 ho8 HRW
                go_wp2_with fail
                go_ret
                exact ⟨by first | rfl | simp, HB2.out⟩
end Go.Proofs.Ytlleebgkglbelaa
