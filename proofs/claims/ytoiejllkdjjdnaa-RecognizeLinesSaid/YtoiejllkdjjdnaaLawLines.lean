/- Contract of layer 20's reference: Same, of two slices that read alike. -/
import Derived.Test.YtoiejllkdjjdnaaRcg
import Derived.Test.YtoiejllkdjjdnaaSts
import Derived.BigQuiet
import Derived.Test.YtoiejllkdjjdnaaRfl
import Derived.Test.YtoiejllkdjjdnaaLos
import Derived.Test.YtoiejllkdjjdnaaAwk
import Derived.Test.YtoiejllkdjjdnaaRln
import Derived.Test.YtoiejllkdjjdnaaRrv
import Derived.Test.YtoiejllkdjjdnaaRst
set_option linter.unusedSimpArgs false
set_option linter.unusedVariables false
namespace Go.Proofs.Ytoiejllkdjjdnaa
open Go.RowKit

set_option maxHeartbeats 4000000 in
set_option maxRecDepth 100000 in
theorem rsame_any {w : World} {a1 a2 : Option Addr} {b1 o1 n c1 b2 o2 c2 : Nat} {R : List Rg} (hA : SlR w a1 b1 o1 n c1 R) (hB : SlR w a2 b2 o2 n c2 R) :
    Calls Try.prog 23 #[.slice a1 n c1, .slice a2 n c2] w fun e w' => e = .returned (.bool true) ∧ Below w.heap.size w w' := by
  have hl0 := hA.hl
  have hle : n ≤ 9223372036854775807 := by have := hA.hcap; have := hA.hmax; unfold maxLen at this; omega
  have HA := Lib.hid hA
  have HB := Lib.hid hB
  have hdr : ∀ m, Below w.heap.size w (w.drewN m) := fun m => bel_drewN (Below.refl _ _) m
  have HDR := Lib.hid hdr
  clear hA hB hdr
  go_enter Try.func23, Try.ntmps23
  go_wp2_with fail
  go_loopw [5] (fun s5 wr => ∃ (k m : Nat), k ≤ n ∧ s5 = .int .i64 (k : Int) ∧ w.drewN m = wr) (fun s5 _ => (n - (intOf s5)).toNat)
  case atStart => exact ⟨0, 0, Nat.zero_le _, rfl, rfl⟩
  case round =>
    obtain ⟨k, m, hk, rfl, rfl⟩ := hrel
    by_cases hlt : k < n
    · have hl : (k : Int) < (n : Int) := by omega
      have hkL : k < R.length := by omega
      have S := HA.out.keep (HDR.out m)
      have T := HB.out.keep (HDR.out m)
      obtain rfl := S.ha (by omega)
      obtain rfl := T.ha (by omega)
      have sb := S.hb (by omega)
      have tb := T.hb (by omega)
      have c0 := S.c0 k hkL
      have c1' := S.c1 k hkL
      have c2' := S.c2 k hkL
      have c3 := S.c3 k hkL
      have c4 := S.c4 k hkL
      have c5 := S.c5 k hkL
      have c6 := S.c6 k hkL
      have d0 := T.c0 k hkL
      have d1 := T.c1 k hkL
      have d2 := T.c2 k hkL
      have d3 := T.c3 k hkL
      have d4 := T.c4 k hkL
      have d5 := T.c5 k hkL
      have d6 := T.c6 k hkL
      clear S T
      generalize R[k]'hkL = x at *
      obtain ⟨xk, xc, xg, xs, xn, xr, xj⟩ := x
      simp only at c0 c1' c2' c3 c4 c5 c6 d0 d1 d2 d3 d4 d5 d6
      have t1 : (xc.toList == xc.toList) = true := by simp
      have t2 : (xg.toList == xg.toList) = true := by simp
      have t3 : (xs.toList == xs.toList) = true := by simp
      generalize hwn : w.drewN m = wn at *
      have HWN := Lib.hid hwn
      clear hwn
      go_wp2_with fail
      go_quiet (fail)
      go_wp2_with fail
      go_roundw
      case rel => exact ⟨k + 1, m + nq, by omega, by go_num, by rw [← HWN.out, World.drewN_drewN]⟩
      case measure => simp [intOf]; omega
    · have hl : ¬ (k : Int) < (n : Int) := by omega
      go_wp2_with fail
      go_ret
      exact ⟨rfl, HDR.out m⟩
end Go.Proofs.Ytoiejllkdjjdnaa
/- Contract of layer 20's reference: Lost. -/
namespace Go.Proofs.Ytoiejllkdjjdnaa
open Go.RowKit

set_option maxHeartbeats 4000000 in
set_option maxRecDepth 100000 in
theorem rlost_any {w : World} {c : Ct} (h : CtOk w c) (hE : FitE c.E) (hv : ValE c.E) {a : Option Addr} {b off len cap : Nat} {L : List It} (hL : SlX w a b off len cap L) (hf : fitC L) (hm : len ≤ 1000) :
    Calls Try.prog 22 #[c.val, .slice a len cap] w fun e w' => e = .returned (.int .i64 (lostS c.E L)) ∧ Below w.heap.size w w' := by
  have hl0 := hL.hl
  have HOK := Lib.hid h
  have HS := Lib.hid hL
  have HIT := Lib.hid (fun W (x : It) (hW : CtOk W c) (hx : x.c.size ≤ maxLen) => ritem_fit hW hE x hx)
  have HFU := Lib.hid (fun W (x : It) (hW : CtOk W c) (hx : x.c.size ≤ maxLen) => rfull_any hW hE x hx)
  have HF := Lib.hid (show ∀ (k : Nat) (h : k < L.length), (L[k]'h).c.size ≤ maxLen from fun k h => hf k h)
  have HV := Lib.hid (fun x => itemS_val hv x)
  have HLB := Lib.hid (fun M => lostS_bd hv M)
  have HN := Lib.hid (ct_new w c 27)
  have HB0 := Lib.hid (show Below w.heap.size w (w.alloc (.cells #[.slice c.ag c.ng c.cg, .slice c.ak c.nk c.ck, .slice c.ae c.ne c.ce, .slice c.ac c.nc c.cc] 27)) from (by repeat (first | with_reducible exact Below.refl _ _ | (with_reducible refine Below.setCell ?_ (by first | exact Nat.le_refl _ | omega | (simp; done) | (simp; omega)) _) | (with_reducible refine Below.alloc ?_ (by first | exact Nat.le_refl _ | omega | (simp; done) | (simp; omega)) _) | with_reducible refine Below.drew ?_ | with_reducible refine bel_drewN ?_ _ | (with_reducible refine bel_by (by with_reducible assumption) (by first | exact Nat.le_refl _ | omega | (simp; done) | (simp; omega)) ?_))))
  unfold RgPost at HIT HFU
  obtain ⟨M, hM⟩ : ∃ M, lostS c.E L = M := ⟨_, rfl⟩
  rw [hM]
  have HM := Lib.hid hM
  unfold Ct.val at HIT HFU ⊢
  obtain ⟨ag, bg, og, ng, cg, ak, bk, ok, nk, ck, ae, be, oe, ne, ce, ac, bc, oc, nc, cc, G, K, E, X⟩ := c
  simp only at HIT HFU HN HB0 HM HV HLB ⊢
  clear h hL hf hE hM hv
  go_enter Try.func22, Try.ntmps22
  go_wp2_with fail
  go_loopw [5, 6] (fun s7 s17 wr => ∃ (k : Nat), k ≤ len ∧ s17 = .int .i64 (k : Int) ∧ s7 = .int .i64 (lostS E (L.take k)) ∧ Hid (Below w.heap.size w wr) ∧ Hid (CtAt wr w.heap.size _)) (fun _ s17 _ => (len - (intOf s17)).toNat)
  case atStart => exact ⟨0, Nat.zero_le _, rfl, by simp [lostS], HB0, HN⟩
  case round =>
    clear HB0 HN
    obtain ⟨k, hk, rfl, rfl, HB, HNr⟩ := hrel
    by_cases hlt : k < len
    · have hl : (k : Int) < (len : Int) := by omega
      have hkL : k < L.length := by omega
      have S := HS.out.keep HB.out
      obtain rfl := S.ha (by omega)
      have sb := S.hb (by omega)
      have c0 := S.c0 k hkL
      have c1 := S.c1 k hkL
      have c2 := S.c2 k hkL
      have c3 := S.c3 k hkL
      have c4 := S.c4 k hkL
      have hfx := HF.out k hkL
      have HX := Lib.hid (show lostS E (L.take (k + 1)) = lostS E (L.take k) + ((itemS E (bareI (L[k]'hkL))).n - (itemS E (L[k]'hkL)).n) by
        rw [List.take_succ_eq_append_getElem hkL, lostS_snoc])
      have hb3 := HLB.out (L.take k)
      have hln : (L.take k).length = k := by rw [List.length_take]; omega
      rw [hln] at hb3
      clear S hln
      generalize L[k]'hkL = x at *
      obtain ⟨A, hA⟩ : ∃ A, lostS E (L.take k) = A := ⟨_, rfl⟩
      rw [hA] at hb3 HX ⊢
      obtain ⟨y, hy⟩ : ∃ y, itemS E x = y := ⟨_, rfl⟩
      obtain ⟨z, hz⟩ : ∃ z, itemS E (bareI x) = z := ⟨_, rfl⟩
      have hvy := HV.out x
      have hvz := HV.out (bareI x)
      rw [hy] at hvy
      rw [hz] at hvz
      have HIX := Lib.hid (fun W hW => HIT.out W x hW hfx)
      have HFX := Lib.hid (fun W hW => HFU.out W x hW hfx)
      simp only [hy, hz] at HIX HFX HX
      clear hy hz hA hfx
      obtain ⟨xc, xd, xr, xv, xj⟩ := x
      obtain ⟨yk, yc, yg, ys, yn, yr, yj⟩ := y
      obtain ⟨zk, zc, zg, zs, zn, zr, zj⟩ := z
      simp only [It.val, Rg.val] at c0 c1 c2 c3 c4 HIX HFX HX hvy hvz
      have HOKV := Lib.hid (HOK.out.keep HB.out)
      go_upto_region 5 with fail
      obtain ⟨z0, z1, z2, z3, zf, zl⟩ := HNr.out
      simp only at z0 z1 z2 z3
      have a0 := fun d os => cell_regrown c0 d os
      have a1 := fun d os => cell_regrown c1 d os
      have a2 := fun d os => cell_regrown c2 d os
      have a3 := fun d os => cell_regrown c3 d os
      have a4 := fun d os => cell_regrown c4 d os
      have b0 := fun d os => cell_regrown z0 d os
      have b1 := fun d os => cell_regrown z1 d os
      have b2 := fun d os => cell_regrown z2 d os
      have b3 := fun d os => cell_regrown z3 d os
      have cQ1 := fun (d : Nat) (os : Array Obj) => Calls.regrown_of (HFX.out (Sort.grow (redrawn wr d) os) (HOKV.out.keep (below_regrown wr d os)))
      have cQ2 := fun (d : Nat) (os : Array Obj) => Calls.regrown_of (HIX.out (Sort.grow (redrawn wr d) os) (HOKV.out.keep (below_regrown wr d os)))
      have k1 : IntKind.i64.wrap (A + zn) = A + zn := IntWalk.i64_in _ (by omega)
      have k2 : IntKind.i64.wrap (A + zn - yn) = A + zn - yn := IntWalk.i64_in _ (by omega)
      clear c0 c1 c2 c3 c4 z0 z1 z2 z3 zf zl
      have hfd := fld_n
      refine wp_region_quiet_below (by kernel_rfl) (by kernel_rfl) ?_
      repeat (quiet_step (first | with_reducible exact cQ1 _ _ | with_reducible exact cQ2 _ _))
      refine wpQuiet_nil ?_
      intro _ hw'
      obtain ⟨⟨dq, osq⟩, hw''⟩ := hw'
      subst hw''
      have HBI := below_regrown wr dq osq
      have HB7 := Lib.hid (HB.out.trans (HBI.mono HB.out.size))
      have HN7 := Lib.hid (HNr.out.keep HBI)
      generalize Sort.grow (redrawn wr dq) osq = w7 at *
      clear HBI cQ1 cQ2 a0 a1 a2 a3 a4 b0 b1 b2 b3
      go_wp2_with fail
      go_roundw
      case rel => exact ⟨k + 1, by omega, by go_num, by rw [HX.out, Int.add_sub_assoc], HB7, HN7⟩
      case measure => simp [intOf]; omega
    · obtain rfl : k = len := by omega
      have hl : ¬ (k : Int) < (k : Int) := by omega
      have hMM := HM.out
      rw [List.take_of_length_le (by omega)] at *
      rw [hMM]
      clear hMM
      go_wp2_with fail
      go_ret
      exact ⟨by first | rfl | simp, HB.out⟩
end Go.Proofs.Ytoiejllkdjjdnaa
/- The law of RecognizeLines. -/
namespace Go.Proofs.Ytoiejllkdjjdnaa
open Go.RowKit

theorem wit_val {E : List El} (h : WitE E) : ValE E := by
  intro x hx
  obtain ⟨j, hj, rfl⟩ := List.mem_iff_getElem.1 hx
  have := h j hj
  omega
theorem ints_read {w : World} {base : Nat} {v : Value} {l : List Nat} (h : w.ownsRow base 3 1 v l.length (encI l)) :
    ∃ a g cv, v = .slice a l.length cv ∧ (0 < l.length → a = some ⟨g, 0, none⟩ ∧ g < w.heap.size) ∧ ∀ (k : Nat) (hk : k < l.length), w.cell? ⟨g, k, none⟩ = some (.int .i64 ((l[k]'hk : Nat) : Int)) := by
  have hcell := h
  rcases h.2 with ⟨rfl, h0⟩ | ⟨g, cap, cur, rfl, hg, hb, h1, h2, h3, h4⟩
  · exact ⟨none, 0, 0, by rw [h0], fun hh => absurd hh (by omega), fun k hk => absurd hk (by omega)⟩
  · have hgs : g < w.heap.size := (Array.getElem?_eq_some_iff.1 hb).1
    refine ⟨_, g, cap, rfl, fun _ => ⟨rfl, hgs⟩, fun k hk => ?_⟩
    rw [hcell.cellAt k (by omega)]
    simp [encI, hk]
set_option maxHeartbeats 8000000 in
set_option maxRecDepth 100000 in
theorem law_lines (w : World) {c : Ct} (h : CtOk w c) {a : Option Addr} {b off len cap : Nat} {L : List It} (hL : SlX w a b off len cap L) :
    Calls Try.prog 4 #[c.val, .slice a len cap] w fun e w' => e = .returned (.bool true) ∧ Below w.heap.size w w' := by
  have HOK := Lib.hid h
  have HS := Lib.hid hL
  have hl0 := hL.hl
  have HA := Lib.hid (fun W => awake_any W)
  have HFI := Lib.hid (fun W (hc : CtOk W c) (hW : SlX W a b off len cap L) => fits_any hc hW 40)
  have HC1 := Lib.hid (fun W (hc : CtOk W c) (hW : SlX W a b off len cap L) (hE : FitE c.E) (hf : fitC L) (hm : len ≤ 1000) => line_any hc (by have := hE.len; omega) hW hf (by omega))
  have HC2 := Lib.hid (fun W (hc : CtOk W c) (hW : SlX W a b off len cap L) (hE : FitE c.E) (hf : fitC L) (hm : len ≤ 1000) => lost_any hc (by have := hE.len; omega) (wit_val hE.wit) hW hf hm)
  have HC3 := Lib.hid (fun W (hc : CtOk W c) (hW : SlX W a b off len cap L) (hE : FitE c.E) (hf : fitC L) (hm : len ≤ 1000) => reviewed_any hc (by have := hE.len; omega) (wit_val hE.wit) hW hf hm)
  have HC4 := Lib.hid (fun W (hW : SlX W a b off len cap L) (hf : fitC L) => rckb_any hW hf)
  have HC5 := Lib.hid (fun W (hc : CtOk W c) (hW : SlX W a b off len cap L) (hE : FitE c.E) (hf : fitC L) (hm : len ≤ 1000) => rreviewed_any hc hE (wit_val hE.wit) hW hf hm)
  have HC6 := Lib.hid (fun W (hc : CtOk W c) (hW : SlX W a b off len cap L) (hE : FitE c.E) (hf : fitC L) (hm : len ≤ 1000) => rlost_any hc hE (wit_val hE.wit) hW hf hm)
  have HC7 := Lib.hid (fun W (hc : CtOk W c) (hW : SlX W a b off len cap L) (hE : FitE c.E) (hf : fitC L) (hm : len ≤ 1000) => rline_any hc hE hW hf (by omega))
  have HN := Lib.hid (ct_new w c 27)
  have HB0 := Lib.hid (show Below w.heap.size w (w.alloc (.cells #[.slice c.ag c.ng c.cg, .slice c.ak c.nk c.ck, .slice c.ae c.ne c.ce, .slice c.ac c.nc c.cc] 27)) from (by repeat (first | with_reducible exact Below.refl _ _ | (with_reducible refine Below.setCell ?_ (by first | exact Nat.le_refl _ | omega | (simp; done) | (simp; omega)) _) | (with_reducible refine Below.alloc ?_ (by first | exact Nat.le_refl _ | omega | (simp; done) | (simp; omega)) _) | with_reducible refine Below.drew ?_ | with_reducible refine bel_drewN ?_ _ | (with_reducible refine bel_by (by with_reducible assumption) (by first | exact Nat.le_refl _ | omega | (simp; done) | (simp; omega)) ?_))))
  unfold LinPost at HC1
  unfold RevPost at HC3
  unfold RrvPost at HC5
  unfold RlnPost at HC7
  obtain ⟨r, hr⟩ : ∃ r, chkL L = r := ⟨_, rfl⟩
  obtain ⟨R, hR⟩ : ∃ R, L.map (itemS c.E) = R := ⟨_, rfl⟩
  obtain ⟨q, hq⟩ : ∃ q, lostS c.E L = q := ⟨_, rfl⟩
  rw [hr, hR] at HC1 HC3
  rw [hr, hq] at HC2
  rw [hr] at HC4
  rw [hR] at HC5 HC7
  rw [hq] at HC6
  obtain ⟨⟨l, y⟩, hly⟩ : ∃ z, revL R L.length = z := ⟨_, rfl⟩
  rw [hly] at HC3 HC5
  simp only at HC3 HC5
  have hRl : R.length = len := by rw [← hR, List.length_map, hl0]
  clear h hL hr hR hq hly
  unfold Ct.val at *
  obtain ⟨ag, bg, og, ng, cg, ak, bk, ok, nk, ck, ae, be, oe, ne, ce, ac, bc, oc, nc, cc, G, K, E, X⟩ := c
  simp only at HN HB0 HFI HC1 HC2 HC3 HC5 HC6 HC7 ⊢
  go_enter Try.func4, Try.ntmps4
  go_wp2_with fail
  generalize (w.alloc (.cells #[.slice ag ng cg, .slice ak nk ck, .slice ae ne ce, .slice ac nc cc] 27)) = W0 at *
  refine (HA.out _).mono ?_
  rintro e w1 ⟨rfl, hb⟩
  have HB1 := Lib.hid (HB0.out.trans (hb.mono HB0.out.size))
  have HN1 := Lib.hid (HN.out.keep hb)
  clear hb HN HB0 HA
  obtain ⟨z0, z1, z2, z3, zf, zl⟩ := HN1.out
  simp only at z0 z1 z2 z3
  go_wp2_with fail
  refine (HFI.out _ (HOK.out.keep HB1.out) (HS.out.keep HB1.out)).mono ?_
  rintro e w2 ⟨f, rfl, hb, hff⟩
  have HB2 := Lib.hid (HB1.out.trans (hb.mono HB1.out.size))
  have HN2 := Lib.hid (HN1.out.keep hb)
  have HFF := Lib.hid hff
  clear hb hff z0 z1 z2 z3 zf zl HN1 HB1 HFI
  cases f with
  | false =>
    go_wp2_with fail
    go_ret
    exact ⟨rfl, HB2.out⟩
  | true =>
    obtain ⟨hE, hlen, hcs⟩ := HFF.out (by simp)
    have hf : fitC L := fun k hk => by have := hcs _ (List.getElem_mem hk); omega
    have hm : len ≤ 1000 := by omega
    have HD1 := Lib.hid (fun W (hB : Below w.heap.size w W) => HC1.out W (HOK.out.keep hB) (HS.out.keep hB) hE hf hm)
    have HD2 := Lib.hid (fun W (hB : Below w.heap.size w W) => HC2.out W (HOK.out.keep hB) (HS.out.keep hB) hE hf hm)
    have HD3 := Lib.hid (fun W (hB : Below w.heap.size w W) => HC3.out W (HOK.out.keep hB) (HS.out.keep hB) hE hf hm)
    have HD4 := Lib.hid (fun W (hB : Below w.heap.size w W) => HC4.out W (HS.out.keep hB) hf)
    have HD5 := Lib.hid (fun W (hB : Below w.heap.size w W) => HC5.out W (HOK.out.keep hB) (HS.out.keep hB) hE hf hm)
    have HD6 := Lib.hid (fun W (hB : Below w.heap.size w W) => HC6.out W (HOK.out.keep hB) (HS.out.keep hB) hE hf hm)
    have HD7 := Lib.hid (fun W (hB : Below w.heap.size w W) => HC7.out W (HOK.out.keep hB) (HS.out.keep hB) hE hf hm)
    clear HC1 HC2 HC3 HC4 HC5 HC6 HC7 hlen hcs hE hf HFF
    obtain ⟨z0, z1, z2, z3, zf, zl⟩ := HN2.out
    simp only at z0 z1 z2 z3
    go_wp2_with fail
    refine (HD1.out _ HB2.out).mono ?_
    rintro e w3 ⟨hb, h3⟩
    have HB3 := Lib.hid (HB2.out.trans (hb.mono HB2.out.size))
    have HN3 := Lib.hid (HN2.out.keep hb)
    clear hb z0 z1 z2 z3 zf zl HN2 HB2 HD1
    obtain ⟨z0, z1, z2, z3, zf, zl⟩ := HN3.out
    simp only at z0 z1 z2 z3
    by_cases h0 : r = 0
    · subst h0
      rcases h3 with ⟨h3, _⟩ | ⟨_, v3, rfl, ho3⟩
      · exact absurd rfl h3
      obtain ⟨a3, b3, c3, rfl, sl3, _⟩ := slr_own ho3
      have HL3 := Lib.hid sl3
      clear ho3 sl3
      simp only [if_true] at HD2
      go_wp2_with fail
      refine (HD2.out _ HB3.out).mono ?_
      rintro e w4 ⟨rfl, hb⟩
      have HB4 := Lib.hid (HB3.out.trans (hb.mono HB3.out.size))
      have HN4 := Lib.hid (HN3.out.keep hb)
      have HL4 := Lib.hid (HL3.out.keep hb)
      clear hb z0 z1 z2 z3 zf zl HN3 HB3 HD2 HL3
      obtain ⟨z0, z1, z2, z3, zf, zl⟩ := HN4.out
      simp only at z0 z1 z2 z3
      go_wp2_with fail
      refine (HD3.out _ HB4.out).mono ?_
      rintro e w5 ⟨hb, h5⟩
      have HB5 := Lib.hid (HB4.out.trans (hb.mono HB4.out.size))
      have HN5 := Lib.hid (HN4.out.keep hb)
      have HL5 := Lib.hid (HL4.out.keep hb)
      clear hb z0 z1 z2 z3 zf zl HN4 HB4 HD3 HL4
      rcases h5 with ⟨h5, _⟩ | ⟨_, v5, rfl, ho5⟩
      · exact absurd rfl h5
      have HO5 := Lib.hid ho5
      obtain ⟨a5, c5, rfl⟩ := own_form ho5
      clear ho5
      obtain ⟨z0, z1, z2, z3, zf, zl⟩ := HN5.out
      simp only at z0 z1 z2 z3
      go_wp2_with fail
      refine (HD4.out _ HB5.out).mono ?_
      rintro e w6 ⟨rfl, hb⟩
      have HB6 := Lib.hid (HB5.out.trans (hb.mono HB5.out.size))
      have HN6 := Lib.hid (HN5.out.keep hb)
      have HL6 := Lib.hid (HL5.out.keep hb)
      have HO6 := Lib.hid (own_below HO5.out hb)
      clear hb z0 z1 z2 z3 zf zl HN5 HB5 HD4 HL5 HO5
      obtain ⟨z0, z1, z2, z3, zf, zl⟩ := HN6.out
      simp only at z0 z1 z2 z3
      go_wp2_with fail
      refine (HD5.out _ HB6.out).mono ?_
      rintro e w7 ⟨hb, v7, rfl, ho7⟩
      have HB7 := Lib.hid (HB6.out.trans (hb.mono HB6.out.size))
      have HN7 := Lib.hid (HN6.out.keep hb)
      have HL7 := Lib.hid (HL6.out.keep hb)
      have HO7 := Lib.hid (own_below HO6.out hb)
      have HP7 := Lib.hid ho7
      obtain ⟨a7, c7, rfl⟩ := own_form ho7
      clear hb ho7 z0 z1 z2 z3 zf zl HN6 HB6 HD5 HL6 HO6
      obtain ⟨z0, z1, z2, z3, zf, zl⟩ := HN7.out
      simp only at z0 z1 z2 z3
      go_wp2_with fail
      refine (HD6.out _ HB7.out).mono ?_
      rintro e w8 ⟨rfl, hb⟩
      have HB8 := Lib.hid (HB7.out.trans (hb.mono HB7.out.size))
      have HN8 := Lib.hid (HN7.out.keep hb)
      have HL8 := Lib.hid (HL7.out.keep hb)
      have HO8 := Lib.hid (own_below HO7.out hb)
      have HP8 := Lib.hid (own_below HP7.out hb)
      clear hb z0 z1 z2 z3 zf zl HN7 HB7 HD6 HL7 HO7 HP7
      obtain ⟨z0, z1, z2, z3, zf, zl⟩ := HN8.out
      simp only at z0 z1 z2 z3
      go_wp2_with fail
      refine (HD7.out _ HB8.out).mono ?_
      rintro e w9 ⟨hb, v9, rfl, ho9⟩
      obtain ⟨a9, b9, c9, rfl, sl9, _⟩ := slr_own ho9
      have HB9 := Lib.hid (HB8.out.trans (hb.mono HB8.out.size))
      have HO9 := Lib.hid (own_below HO8.out hb)
      have HP9 := Lib.hid (own_below HP8.out hb)
      have HSM := Lib.hid (rsame_any (HL8.out.keep hb) sl9)
      clear hb ho9 sl9 z0 z1 z2 z3 zf zl HN8 HB8 HD7 HL8 HO8 HP8
      go_wp2_with fail
      rw [hRl] at HSM
      try rw [hRl]
      refine HSM.out.mono ?_
      rintro e wa ⟨rfl, hb⟩
      have HBa := Lib.hid (HB9.out.trans (hb.mono HB9.out.size))
      obtain ⟨ap, gp, cp, hvp, hgp, hcp⟩ := ints_read (own_below HO9.out hb)
      obtain ⟨aq, gq, cq, hvq, hgq, hcq⟩ := ints_read (own_below HP9.out hb)
      simp only [Value.slice.injEq, true_and] at hvp hvq
      obtain ⟨rfl, rfl⟩ := hvp
      obtain ⟨rfl, rfl⟩ := hvq
      have HGP := Lib.hid hgp
      have HGQ := Lib.hid hgq
      have HCP := Lib.hid hcp
      have HCQ := Lib.hid hcq
      have hli : l.length ≤ 9223372036854775807 := by
        rcases HO9.out.2 with ⟨_, h0⟩ | ⟨g, cap', cur, _, _, _, h1, h2, _⟩
        · omega
        · unfold maxLen at h2; omega
      clear hb hgp hgq hcp hcq HSM HB9 HO9 HP9
      go_wp2_with fail
      go_loopw [15] (fun s wr => ∃ (k m : Nat), k ≤ l.length ∧ s = .int .i64 (k : Int) ∧ wa.drewN m = wr) (fun s _ => (l.length - (intOf s)).toNat)
      case atStart => exact ⟨0, 0, Nat.zero_le _, rfl, rfl⟩
      case round =>
        obtain ⟨k, m, hk, rfl, rfl⟩ := hrel
        by_cases hlt : k < l.length
        · have hl : (k : Int) < (l.length : Int) := by omega
          obtain ⟨rfl, sp⟩ := HGP.out (by omega)
          obtain ⟨rfl, sq⟩ := HGQ.out (by omega)
          have p0 : (wa.drewN m).cell? ⟨gp, k, none⟩ = _ := HCP.out k hlt
          have q0 : (wa.drewN m).cell? ⟨gq, k, none⟩ = _ := HCQ.out k hlt
          have sp2 : gp < (wa.drewN m).heap.size := sp
          have sq2 : gq < (wa.drewN m).heap.size := sq
          generalize ((l[k]'hlt : Nat) : Int) = t at p0 q0
          generalize hwn : wa.drewN m = wn at *
          have HWN := Lib.hid hwn
          clear hwn
          go_wp2_with fail
          go_quiet (fail)
          go_wp2_with fail
          go_roundw
          case rel => exact ⟨k + 1, m + nq, by omega, by go_num, by rw [← HWN.out, World.drewN_drewN]⟩
          case measure => simp [intOf]; omega
        · have hl : ¬ (k : Int) < (l.length : Int) := by omega
          go_wp2_with fail
          go_ret
          exact ⟨rfl, HBa.out.trans ((show Below wa.heap.size wa (wa.drewN m) from bel_drewN (Below.refl _ _) m).mono HBa.out.size)⟩
    · have k0 : (r == 0) = false := by simpa using h0
      have k1 : (r != 0) = true := by simpa using h0
      have H0 := Lib.hid h0
      simp only [if_neg h0] at HD2
      obtain ⟨_, rfl⟩ := h3.resolve_right (fun h => h0 h.1)
      clear h0
      go_wp2_with fail
      refine (HD2.out _ HB3.out).mono ?_
      rintro e w4 ⟨rfl, hb⟩
      have HB4 := Lib.hid (HB3.out.trans (hb.mono HB3.out.size))
      have HN4 := Lib.hid (HN3.out.keep hb)
      clear hb z0 z1 z2 z3 zf zl HN3 HB3 HD2
      obtain ⟨z0, z1, z2, z3, zf, zl⟩ := HN4.out
      simp only at z0 z1 z2 z3
      go_wp2_with fail
      refine (HD3.out _ HB4.out).mono ?_
      rintro e w5 ⟨hb, h5⟩
      have HB5 := Lib.hid (HB4.out.trans (hb.mono HB4.out.size))
      clear hb z0 z1 z2 z3 zf zl HN4 HB4 HD3
      obtain ⟨_, rfl⟩ := h5.resolve_right (fun h => H0.out h.1)
      go_wp2_with fail
      refine (HD4.out _ HB5.out).mono ?_
      rintro e w6 ⟨rfl, hb⟩
      have HB6 := Lib.hid (HB5.out.trans (hb.mono HB5.out.size))
      clear hb HB5 HD4
      go_wp2_with fail
      go_ret
      exact ⟨rfl, HB6.out⟩
end Go.Proofs.Ytoiejllkdjjdnaa
