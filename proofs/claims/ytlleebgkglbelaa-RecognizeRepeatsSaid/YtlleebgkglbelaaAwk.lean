/- Contract of layer 20's awake. -/
import Derived.Test.YtlleebgkglbelaaEgp
import Derived.Test.YtlleebgkglbelaaFul
set_option linter.unusedSimpArgs false
set_option linter.unusedVariables false
namespace Go.Proofs.Ytlleebgkglbelaa
open Go.RowKit

theorem req20 : True := trivial
set_option maxHeartbeats 16000000 in
set_option maxRecDepth 100000 in
theorem awake_any (w : World) : Calls Try.prog 9 #[] w fun e w' => e = .returned (.bool true) ∧ Below w.heap.size w w' := by
  have HEX := Lib.hid (fun W => example_any W)
  unfold EgPost at HEX
  go_enter Try.func9, Try.ntmps9
  go_wp2_with fail
  refine (HEX.out _).mono ?_
  rintro e w1 ⟨c, rfl, hok, hce, hb1⟩
  have hE : c.E.length ≤ 1000000 := by rw [hce]; decide
  have hv : ValE c.E := by rw [hce]; exact eg_val
  have HB1 := Lib.hid (show Below w.heap.size w (w1.alloc (.cells #[.slice c.ag c.ng c.cg, .slice c.ak c.nk c.ck, .slice c.ae c.ne c.ce, .slice c.ac c.nc c.cc] 27)) from hb1.alloc hb1.size _)
  have HN1 := Lib.hid (ct_new w1 c 27)
  have HOK1 := Lib.hid (hok.keep (show Below w1.heap.size w1 (w1.alloc (.cells #[.slice c.ag c.ng c.cg, .slice c.ak c.nk c.ck, .slice c.ae c.ne c.ce, .slice c.ac c.nc c.cc] 27)) from (Below.refl _ _).alloc (Nat.le_refl _) _))
  have HIT := Lib.hid (fun W (hW : CtOk W c) => item_any hW hE ⟨⟨#[51, 65]⟩, 1, false, false, true⟩ (by unfold maxLen; decide))
  have HR3 := Lib.hid (fun W (hW : CtOk W c) => reason_any hW hE ⟨⟨#[51, 65]⟩, 2, false, false, false⟩ (by unfold maxLen; decide))
  have HR2 := Lib.hid (fun W (hW : CtOk W c) => reason_any hW hE ⟨⟨#[52, 65]⟩, 0, false, false, false⟩ (by unfold maxLen; decide))
  have HR1 := Lib.hid (fun W (hW : CtOk W c) => reason_any hW hE ⟨⟨#[51, 65]⟩, 0, false, true, false⟩ (by unfold maxLen; decide))
  have HLO := Lib.hid (fun W b cap (hW : CtOk W c) (hS : SlX W (some ⟨b, 0, none⟩) b 0 2 cap egI) => lost_any hW hE hv hS eg_fit (by decide))
  have HRV := Lib.hid (fun W b cap (hW : CtOk W c) (hS : SlX W (some ⟨b, 0, none⟩) b 0 2 cap egI) => reviewed_any hW hE hv hS eg_fit (by decide))
  have HLI := Lib.hid (fun W b cap (hW : CtOk W c) (hS : SlX W (some ⟨b, 0, none⟩) b 0 2 cap egI) => line_any hW hE hS eg_fit (by decide))
  have HST := Lib.hid (fun W b cap (hS : SlX W (some ⟨b, 0, none⟩) b 0 2 cap egI) => settle_any hS eg_fit (by decide) 1 0 false (fun _ => by decide) (by decide))
  unfold RgPost at HIT
  unfold RevPost at HRV
  unfold LinPost at HLI
  unfold StlPost at HST
  rw [hce] at HIT HR3 HR2 HR1 HLO HRV HLI
  rw [eg_it] at HIT
  rw [eg_r3] at HR3
  rw [eg_r2] at HR2
  rw [eg_r1] at HR1
  simp only [eg_chk, if_true, eg_lost, eg_map, show egI.length = 2 from rfl, eg_rev, ne_eq, not_true_eq_false, false_and, false_or, true_and, eg_set] at HLO HRV HLI HST
  clear hce hok hb1 hE hv HEX
  unfold Ct.val at *
  obtain ⟨ag, bg, og, ng, cg, ak, bk, ok, nk, ck, ae, be, oe, ne, ce, ac, bc, oc, nc, cc, G, K, E, X⟩ := c
  unfold It.val Rg.val at *
  simp only at HB1 HN1 HOK1 HIT HR3 HR2 HR1 HLO HRV HLI HST ⊢
  go_upto_region 2 with fail
  generalize (w1.alloc (.cells #[.slice ag ng cg, .slice ak nk ck, .slice ae ne ce, .slice ac nc cc] 27)) = V1 at *
  obtain ⟨w1x, hw1x⟩ : ∃ w1x, w1x = V1 := ⟨_, rfl⟩
  clear hw1x w1x
  obtain ⟨z0, z1, z2, z3, zf, zl⟩ := HN1.out
  simp only at z0 z1 z2 z3
  go_wp2_with fail
  clear z0 z1 z2 z3 zf zl
  refine (HIT.out _ HOK1.out).mono ?_
  rintro e w2 ⟨rfl, hb⟩
  have HB2 := Lib.hid (HB1.out.trans (hb.mono HB1.out.size))
  have HN2 := Lib.hid (HN1.out.keep hb)
  have HOK2 := Lib.hid (HOK1.out.keep hb)
  skip
  skip
  clear hb
  have HB3 := Lib.hid (show Below w.heap.size w (w2.alloc (.cells #[.bool true, .string ⟨#[50, 65]⟩, .string ⟨#[106, 117, 109, 112]⟩, .string ⟨#[99]⟩, .int .i64 3300, .bool false, .bool true] 35)) from HB2.out.alloc HB2.out.size _)
  have HN3 := Lib.hid (HN2.out.keep (show Below w2.heap.size w2 (w2.alloc (.cells #[.bool true, .string ⟨#[50, 65]⟩, .string ⟨#[106, 117, 109, 112]⟩, .string ⟨#[99]⟩, .int .i64 3300, .bool false, .bool true] 35)) from (Below.refl _ _).alloc (Nat.le_refl _) _))
  have HOK3 := Lib.hid (HOK2.out.keep (show Below w2.heap.size w2 (w2.alloc (.cells #[.bool true, .string ⟨#[50, 65]⟩, .string ⟨#[106, 117, 109, 112]⟩, .string ⟨#[99]⟩, .int .i64 3300, .bool false, .bool true] 35)) from (Below.refl _ _).alloc (Nat.le_refl _) _))
  have HG3 := Lib.hid (rg_new w2 (⟨true, ⟨#[50, 65]⟩, ⟨#[106, 117, 109, 112]⟩, ⟨#[99]⟩, 3300, false, true⟩ : Rg) 35)
  simp only at HG3
  go_upto_region 3 with fail
  generalize (w2.alloc (.cells #[.bool true, .string ⟨#[50, 65]⟩, .string ⟨#[106, 117, 109, 112]⟩, .string ⟨#[99]⟩, .int .i64 3300, .bool false, .bool true] 35)) = w3 at *
  have HS4 := Lib.hid (show SlX (w3.alloc (.cells #[.string ⟨#[51, 65]⟩, .int .i64 1, .bool false, .bool false, .bool false, .string ⟨#[50, 65]⟩, .int .i64 0, .bool true, .bool false, .bool false] 29)) (some ⟨w3.heap.size, 0, none⟩) w3.heap.size 0 2 2 egI from by
    refine ⟨rfl, fun _ => rfl, fun _ => by simp, Nat.le_refl _, (show (2 : Nat) ≤ maxLen from by unfold maxLen; decide), ?_, ?_, ?_, ?_, ?_⟩ <;> intro k hk <;> (match k, hk with | 0, _ => simp [go_sem, egI] | 1, _ => simp [go_sem, egI]))
  have HB4 := Lib.hid (show Below w.heap.size w (w3.alloc (.cells #[.string ⟨#[51, 65]⟩, .int .i64 1, .bool false, .bool false, .bool false, .string ⟨#[50, 65]⟩, .int .i64 0, .bool true, .bool false, .bool false] 29)) from HB3.out.alloc HB3.out.size _)
  have HN4 := Lib.hid (HN3.out.keep (show Below w3.heap.size w3 (w3.alloc (.cells #[.string ⟨#[51, 65]⟩, .int .i64 1, .bool false, .bool false, .bool false, .string ⟨#[50, 65]⟩, .int .i64 0, .bool true, .bool false, .bool false] 29)) from (Below.refl _ _).alloc (Nat.le_refl _) _))
  have HOK4 := Lib.hid (HOK3.out.keep (show Below w3.heap.size w3 (w3.alloc (.cells #[.string ⟨#[51, 65]⟩, .int .i64 1, .bool false, .bool false, .bool false, .string ⟨#[50, 65]⟩, .int .i64 0, .bool true, .bool false, .bool false] 29)) from (Below.refl _ _).alloc (Nat.le_refl _) _))
  have HG4 := Lib.hid (HG3.out.keep (show Below w3.heap.size w3 (w3.alloc (.cells #[.string ⟨#[51, 65]⟩, .int .i64 1, .bool false, .bool false, .bool false, .string ⟨#[50, 65]⟩, .int .i64 0, .bool true, .bool false, .bool false] 29)) from (Below.refl _ _).alloc (Nat.le_refl _) _))
  go_upto_region 4 with fail
  generalize (w3.alloc (.cells #[.string ⟨#[51, 65]⟩, .int .i64 1, .bool false, .bool false, .bool false, .string ⟨#[50, 65]⟩, .int .i64 0, .bool true, .bool false, .bool false] 29)) = w4 at *
  obtain ⟨g3, hg3⟩ : ∃ g, w3.heap.size = g := ⟨_, rfl⟩
  rw [hg3] at HS4 ⊢
  clear hg3
  obtain ⟨z0, z1, z2, z3, zf, zl⟩ := HN4.out
  simp only at z0 z1 z2 z3
  go_wp2_with fail
  clear z0 z1 z2 z3 zf zl
  refine (HLO.out _ _ _ HOK4.out HS4.out).mono ?_
  rintro e w5 ⟨rfl, hb⟩
  have HB5 := Lib.hid (HB4.out.trans (hb.mono HB4.out.size))
  have HN5 := Lib.hid (HN4.out.keep hb)
  have HOK5 := Lib.hid (HOK4.out.keep hb)
  have HG5 := Lib.hid (HG4.out.keep hb)
  have HS5 := Lib.hid (HS4.out.keep hb)
  clear hb
  obtain ⟨z0, z1, z2, z3, zf, zl⟩ := HN5.out
  simp only at z0 z1 z2 z3
  go_wp2_with fail
  clear z0 z1 z2 z3 zf zl
  refine (HRV.out _ _ _ HOK5.out HS5.out).mono ?_
  rintro e w6 ⟨hb, v6, rfl, ho6⟩
  have HB6 := Lib.hid (HB5.out.trans (hb.mono HB5.out.size))
  have HN6 := Lib.hid (HN5.out.keep hb)
  have HOK6 := Lib.hid (HOK5.out.keep hb)
  have HG6 := Lib.hid (HG5.out.keep hb)
  have HS6 := Lib.hid (HS5.out.keep hb)
  clear hb
  have HO6 := Lib.hid ho6
  obtain ⟨g6, c6, rfl⟩ : ∃ g cv, v6 = .slice (some ⟨g, 0, none⟩) 1 cv := by
    rcases ho6.2 with ⟨rfl, hh⟩ | ⟨g, cv, cur, rfl, _⟩
    · exact absurd hh (by decide)
    · exact ⟨g, cv, rfl⟩
  clear ho6
  obtain ⟨z0, z1, z2, z3, zf, zl⟩ := HN6.out
  simp only at z0 z1 z2 z3
  go_wp2_with fail
  clear z0 z1 z2 z3 zf zl
  refine (HST.out _ _ _ HS6.out).mono ?_
  rintro e w7 ⟨hb, b7, c7, rfl, hs7, hb7⟩
  have HB7 := Lib.hid (HB6.out.trans (hb.mono HB6.out.size))
  have HN7 := Lib.hid (HN6.out.keep hb)
  have HOK7 := Lib.hid (HOK6.out.keep hb)
  have HG7 := Lib.hid (HG6.out.keep hb)
  have HS7 := Lib.hid (HS6.out.keep hb)
  have HO7 := Lib.hid (own_below HO6.out hb)
  have HT7 := Lib.hid hs7
  clear hs7
  clear hb
  obtain ⟨z0, z1, z2, z3, zf, zl⟩ := HN7.out
  simp only at z0 z1 z2 z3
  go_wp2_with fail
  clear z0 z1 z2 z3 zf zl
  refine (HLI.out _ _ _ HOK7.out HS7.out).mono ?_
  rintro e w8 ⟨hb, v8, rfl, ho8⟩
  have HB8 := Lib.hid (HB7.out.trans (hb.mono HB7.out.size))
  have HN8 := Lib.hid (HN7.out.keep hb)
  have HOK8 := Lib.hid (HOK7.out.keep hb)
  have HG8 := Lib.hid (HG7.out.keep hb)
  have HS8 := Lib.hid (HS7.out.keep hb)
  have HO8 := Lib.hid (own_below HO7.out hb)
  have HT8 := Lib.hid (HT7.out.keep hb)
  clear hb
  obtain ⟨a8, b8, c8, rfl, sl8, hbb8⟩ := (show ∃ a b cap, v8 = .slice a 2 cap ∧ SlR w8 a b 0 2 cap egR ∧ (0 < 2 → w7.heap.size ≤ b) from slr_own ho8)
  obtain rfl := sl8.ha (by decide)
  have HL8 := Lib.hid sl8
  clear sl8 ho8 hbb8
  obtain ⟨z0, z1, z2, z3, zf, zl⟩ := HN8.out
  simp only at z0 z1 z2 z3
  obtain ⟨r0, r1, r2, r3, r4, r5, r6, rf, rl⟩ := HG8.out
  simp only at r0 r1 r2 r3 r4 r5 r6
  have hreq := req20
  go_wp2_with fail
  clear z0 z1 z2 z3 zf zl r0 r1 r2 r3 r4 r5 r6 rf rl
  refine (HR3.out _ HOK8.out).mono ?_
  rintro e w9 ⟨rfl, hb⟩
  have HB9 := Lib.hid (HB8.out.trans (hb.mono HB8.out.size))
  have HN9 := Lib.hid (HN8.out.keep hb)
  have HOK9 := Lib.hid (HOK8.out.keep hb)
  have HG9 := Lib.hid (HG8.out.keep hb)
  have HS9 := Lib.hid (HS8.out.keep hb)
  have HO9 := Lib.hid (own_below HO8.out hb)
  have HT9 := Lib.hid (HT8.out.keep hb)
  have HL9 := Lib.hid (HL8.out.keep hb)
  clear hb
  obtain ⟨z0, z1, z2, z3, zf, zl⟩ := HN9.out
  simp only at z0 z1 z2 z3
  go_wp2_with fail
  clear z0 z1 z2 z3 zf zl
  refine (HR2.out _ HOK9.out).mono ?_
  rintro e w10 ⟨rfl, hb⟩
  have HB10 := Lib.hid (HB9.out.trans (hb.mono HB9.out.size))
  have HN10 := Lib.hid (HN9.out.keep hb)
  have HOK10 := Lib.hid (HOK9.out.keep hb)
  have HG10 := Lib.hid (HG9.out.keep hb)
  have HS10 := Lib.hid (HS9.out.keep hb)
  have HO10 := Lib.hid (own_below HO9.out hb)
  have HT10 := Lib.hid (HT9.out.keep hb)
  have HL10 := Lib.hid (HL9.out.keep hb)
  clear hb
  obtain ⟨z0, z1, z2, z3, zf, zl⟩ := HN10.out
  simp only at z0 z1 z2 z3
  go_wp2_with fail
  clear z0 z1 z2 z3 zf zl
  refine (HR1.out _ HOK10.out).mono ?_
  rintro e w11 ⟨rfl, hb⟩
  have HB11 := Lib.hid (HB10.out.trans (hb.mono HB10.out.size))
  have HN11 := Lib.hid (HN10.out.keep hb)
  have HOK11 := Lib.hid (HOK10.out.keep hb)
  have HG11 := Lib.hid (HG10.out.keep hb)
  have HS11 := Lib.hid (HS10.out.keep hb)
  have HO11 := Lib.hid (own_below HO10.out hb)
  have HT11 := Lib.hid (HT10.out.keep hb)
  have HL11 := Lib.hid (HL10.out.keep hb)
  clear hb
  have i0 : w11.cell? ⟨g6, 0, none⟩ = some (.int .i64 1) := (HO11.out.cellAt 0 (by decide)).trans rfl
  have i2 : w11.cell? ⟨b7, 0 + 1 * 5 + 2, none⟩ = some (.bool false) := HT11.out.c2 1 (by decide)
  have HRP := Lib.hid (repeats_any HL11.out (by decide) (by unfold maxLen; decide))
  have s1 : g6 < w11.heap.size := (HO11.out.lt g6 rfl).2
  have s2 : b7 < w11.heap.size := HT11.out.hb (by decide)
  go_wp2_with fail
  clear i0 i2 s1 s2
  refine HRP.out.mono ?_
  rintro e w12 ⟨v12, M, rfl, ho, _, hM, hb⟩
  have hml : M.length = 1 := by
    have h := congrArg List.length hM
    rw [List.length_map, eg_out] at h
    exact h
  have HB12 := Lib.hid (HB11.out.trans (hb.mono HB11.out.size))
  obtain ⟨a12, c12, rfl⟩ := own_form ho
  rw [hml]
  clear ho hM hb hml
  go_wp2_with fail
  go_ret
  exact ⟨rfl, HB12.out⟩
end Go.Proofs.Ytlleebgkglbelaa
