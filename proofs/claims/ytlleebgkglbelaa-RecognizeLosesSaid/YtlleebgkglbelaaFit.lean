/- Contracts of layer 14's reference Small, Check and of layer 20's Fits. -/
import Derived.Test.YtlleebgkglbelaaNam
import Derived.Test.YtlleebgkglbelaaWit
import Derived.Test.YtlleebgkglbelaaFal
import Derived.Test.YtlleebgkglbelaaChx
set_option linter.unusedSimpArgs false
set_option linter.unusedVariables false
namespace Go.Proofs.Ytlleebgkglbelaa
open Go.RowKit

/-- what a valid small catalog's elements are -/
structure FitE (E : List El) : Prop where
  len : E.length ≤ 40
  ris : RisE E
  nam : NamE E
  wit : WitE E
  fal : FalE E
/-- an error's number, and what holds when it is nil -/
def CkPost (w : World) (P : Prop) (e : Ending) (w' : World) : Prop := ∃ r : Int, e = .returned (.int .i64 r) ∧ Below w.heap.size w w' ∧ (r = 0 → P)
theorem ck_any {w w' : World} {P : Prop} {r : Int} (h : Below w.heap.size w w') (hp : r = 0 → P) : CkPost w P (.returned (.int .i64 r)) w' := ⟨r, rfl, h, hp⟩
theorem ck_no {w w' : World} {P : Prop} {r : Int} (h : Below w.heap.size w w') (hr : r ≠ 0) : CkPost w P (.returned (.int .i64 r)) w' := ck_any h (fun h => absurd h hr)
set_option maxHeartbeats 4000000 in
set_option maxRecDepth 100000 in
theorem small_any {w : World} (c : Ct) : Calls Try.prog 32 #[c.val] w (FacPost w (c.ne ≤ 40)) := by
  have HN := Lib.hid (ct_new w c 27)
  have HB0 := Lib.hid (show Below w.heap.size w (w.alloc (.cells #[.slice c.ag c.ng c.cg, .slice c.ak c.nk c.ck, .slice c.ae c.ne c.ce, .slice c.ac c.nc c.cc] 27)) from (by repeat (first | with_reducible exact Below.refl _ _ | (with_reducible refine Below.setCell ?_ (by first | exact Nat.le_refl _ | omega | (simp; done) | (simp; omega)) _) | (with_reducible refine Below.alloc ?_ (by first | exact Nat.le_refl _ | omega | (simp; done) | (simp; omega)) _) | with_reducible refine Below.drew ?_ | with_reducible refine bel_drewN ?_ _ | (with_reducible refine bel_by (by with_reducible assumption) (by first | exact Nat.le_refl _ | omega | (simp; done) | (simp; omega)) ?_))))
  unfold Ct.val
  obtain ⟨ag, bg, og, ng, cg, ak, bk, ok, nk, ck, ae, be, oe, ne, ce, ac, bc, oc, nc, cc, G, K, E, X⟩ := c
  simp only at HN HB0 ⊢
  by_cases h1 : ng ≤ 12
  · by_cases h2 : nk ≤ 16
    · by_cases h3 : ne ≤ 40
      · have H3 := Lib.hid h3
        go_enter Try.func32, Try.ntmps32
        go_wp2_with fail
        go_ret
        exact fac_any HB0.out (fun _ => H3.out)
      · go_enter Try.func32, Try.ntmps32
        go_wp2_with fail
        go_ret
        exact fac_no HB0.out
    · go_enter Try.func32, Try.ntmps32
      go_wp2_with fail
      go_ret
      exact fac_no HB0.out
  · go_enter Try.func32, Try.ntmps32
    go_wp2_with fail
    go_ret
    exact fac_no HB0.out
set_option maxHeartbeats 8000000 in
set_option maxRecDepth 100000 in
theorem rcheck14_any {w : World} {c : Ct} (h : CtOk w c) : Calls Try.prog 33 #[c.val] w (CkPost w (NamE c.E ∧ RisE c.E ∧ WitE c.E ∧ FalE c.E)) := by
  have HOK := Lib.hid h
  have he0 := h.e.hl
  have HN := Lib.hid (ct_new w c 27)
  have HB0 := Lib.hid (show Below w.heap.size w (w.alloc (.cells #[.slice c.ag c.ng c.cg, .slice c.ak c.nk c.ck, .slice c.ae c.ne c.ce, .slice c.ac c.nc c.cc] 27)) from (by repeat (first | with_reducible exact Below.refl _ _ | (with_reducible refine Below.setCell ?_ (by first | exact Nat.le_refl _ | omega | (simp; done) | (simp; omega)) _) | (with_reducible refine Below.alloc ?_ (by first | exact Nat.le_refl _ | omega | (simp; done) | (simp; omega)) _) | with_reducible refine Below.drew ?_ | with_reducible refine bel_drewN ?_ _ | (with_reducible refine bel_by (by with_reducible assumption) (by first | exact Nat.le_refl _ | omega | (simp; done) | (simp; omega)) ?_))))
  have H1 := Lib.hid (fun W (hW : CtOk W c) => named_any hW)
  have H2 := Lib.hid (fun W (hW : CtOk W c) => rising_any hW)
  have H3 := Lib.hid (fun W (hW : CtOk W c) => within14_any hW)
  have H4 := Lib.hid (fun W (hW : CtOk W c) hE hn => falling_any hW hE hn)
  clear h
  unfold Ct.val at *
  obtain ⟨ag, bg, og, ng, cg, ak, bk, ok, nk, ck, ae, be, oe, ne, ce, ac, bc, oc, nc, cc, G, K, E, X⟩ := c
  simp only at he0 HN HB0 HOK H1 H2 H3 H4 ⊢
  by_cases l1 : 6 < ng
  · go_enter Try.func33, Try.ntmps33
    go_wp2_with fail
    go_ret
    exact ck_no HB0.out (by decide)
  by_cases l2 : 12 < nk
  · go_enter Try.func33, Try.ntmps33
    go_wp2_with fail
    go_ret
    exact ck_no HB0.out (by decide)
  by_cases l3 : 400 < ne
  · go_enter Try.func33, Try.ntmps33
    go_wp2_with fail
    go_ret
    exact ck_no HB0.out (by decide)
  by_cases l4 : 144 < nc
  · go_enter Try.func33, Try.ntmps33
    go_wp2_with fail
    go_ret
    exact ck_no HB0.out (by decide)
  have HE9 := Lib.hid (show E.length ≤ 1000000 by omega)
  go_enter Try.func33, Try.ntmps33
  go_wp2_with fail
  generalize (w.alloc (.cells #[.slice ag ng cg, .slice ak nk ck, .slice ae ne ce, .slice ac nc cc] 27)) = w0 at *
  obtain ⟨z0, z1, z2, z3, zf, zl⟩ := HN.out
  simp only at z0 z1 z2 z3
  go_wp2_with fail
  refine (H1.out _ (HOK.out.keep HB0.out)).mono ?_
  rintro e w1 ⟨r1, rfl, hb, hf1⟩
  have HN1 := Lib.hid (HN.out.keep hb)
  have HB1 := Lib.hid (HB0.out.trans (hb.mono HB0.out.size))
  have HF1 := Lib.hid hf1
  clear hb hf1 z0 z1 z2 z3 zf zl HN HB0
  obtain ⟨z0, z1, z2, z3, zf, zl⟩ := HN1.out
  simp only at z0 z1 z2 z3
  cases r1 with
  | false =>
    go_wp2_with fail
    go_ret
    exact ck_no HB1.out (by decide)
  | true =>
  go_wp2_with fail
  refine (H2.out _ (HOK.out.keep HB1.out)).mono ?_
  rintro e w2 ⟨r2, rfl, hb, hf2⟩
  have HN2 := Lib.hid (HN1.out.keep hb)
  have HB2 := Lib.hid (HB1.out.trans (hb.mono HB1.out.size))
  have HF2 := Lib.hid hf2
  clear hb hf2 z0 z1 z2 z3 zf zl HN1 HB1
  obtain ⟨z0, z1, z2, z3, zf, zl⟩ := HN2.out
  simp only at z0 z1 z2 z3
  cases r2 with
  | false =>
    go_wp2_with fail
    go_ret
    exact ck_no HB2.out (by decide)
  | true =>
  go_wp2_with fail
  refine (H3.out _ (HOK.out.keep HB2.out)).mono ?_
  rintro e w3 ⟨r3, rfl, hb, hf3⟩
  have HN3 := Lib.hid (HN2.out.keep hb)
  have HB3 := Lib.hid (HB2.out.trans (hb.mono HB2.out.size))
  have HF3 := Lib.hid hf3
  clear hb hf3 z0 z1 z2 z3 zf zl HN2 HB2
  obtain ⟨z0, z1, z2, z3, zf, zl⟩ := HN3.out
  simp only at z0 z1 z2 z3
  cases r3 with
  | false =>
    go_wp2_with fail
    go_ret
    exact ck_no HB3.out (by decide)
  | true =>
  go_wp2_with fail
  refine (H4.out _ (HOK.out.keep HB3.out) HE9.out (fun x hx => by
    obtain ⟨j, hj, rfl⟩ := List.mem_iff_getElem.1 hx
    exact (HF1.out (by simp) j hj).2)).mono ?_
  rintro e w4 ⟨r4, rfl, hb, hf4⟩
  have HB4 := Lib.hid (HB3.out.trans (hb.mono HB3.out.size))
  have HF4 := Lib.hid hf4
  clear hb hf4 z0 z1 z2 z3 zf zl HN3 HB3
  cases r4 with
  | false =>
    go_wp2_with fail
    go_ret
    exact ck_no HB4.out (by decide)
  | true =>
    go_wp2_with fail
    go_ret
    exact ck_any HB4.out (fun _ => ⟨HF1.out (by simp), HF2.out (by simp), HF3.out (by simp), HF4.out (by simp)⟩)
set_option maxHeartbeats 4000000 in
set_option maxRecDepth 100000 in
theorem fits_any {w : World} {c : Ct} (h : CtOk w c) {a : Option Addr} {b off len cap : Nat} {L : List It} (hL : SlX w a b off len cap L) (n : Int) : Calls Try.prog 10 #[c.val, .slice a len cap, .int .i64 n] w (FacPost w (FitE c.E ∧ (len : Int) ≤ n ∧ ∀ x ∈ L, x.c.size ≤ 40)) := by
  have hl0 := hL.hl
  have hle : len ≤ 9223372036854775807 := by have := hL.hcap; have := hL.hmax; unfold maxLen at this; omega
  have he0 := h.e.hl
  have HSX := Lib.hid (fun W (hb : Below w.heap.size w W) => hL.keep hb)
  have HOK := Lib.hid h
  have HN := Lib.hid (ct_new w c 27)
  have HB0 := Lib.hid (show Below w.heap.size w (w.alloc (.cells #[.slice c.ag c.ng c.cg, .slice c.ak c.nk c.ck, .slice c.ae c.ne c.ce, .slice c.ac c.nc c.cc] 27)) from (by repeat (first | with_reducible exact Below.refl _ _ | (with_reducible refine Below.setCell ?_ (by first | exact Nat.le_refl _ | omega | (simp; done) | (simp; omega)) _) | (with_reducible refine Below.alloc ?_ (by first | exact Nat.le_refl _ | omega | (simp; done) | (simp; omega)) _) | with_reducible refine Below.drew ?_ | with_reducible refine bel_drewN ?_ _ | (with_reducible refine bel_by (by with_reducible assumption) (by first | exact Nat.le_refl _ | omega | (simp; done) | (simp; omega)) ?_))))
  have H1 := Lib.hid (fun W => @small_any W c)
  have H2 := Lib.hid (fun W (hW : CtOk W c) => rcheck14_any hW)
  clear h hL
  unfold Ct.val at *
  obtain ⟨ag, bg, og, ng, cg, ak, bk, ok, nk, ck, ae, be, oe, ne, ce, ac, bc, oc, nc, cc, G, K, E, X⟩ := c
  simp only at he0 HN HB0 HOK H1 H2 ⊢
  go_enter Try.func10, Try.ntmps10
  go_wp2_with fail
  generalize (w.alloc (.cells #[.slice ag ng cg, .slice ak nk ck, .slice ae ne ce, .slice ac nc cc] 27)) = w0 at *
  obtain ⟨z0, z1, z2, z3, zf, zl⟩ := HN.out
  simp only at z0 z1 z2 z3
  go_wp2_with fail
  refine (H1.out _).mono ?_
  rintro e w1 ⟨r1, rfl, hb, hf1⟩
  have HN1 := Lib.hid (HN.out.keep hb)
  have HB1 := Lib.hid (HB0.out.trans (hb.mono HB0.out.size))
  have HF1 := Lib.hid hf1
  clear hb hf1 z0 z1 z2 z3 zf zl HN HB0
  obtain ⟨z0, z1, z2, z3, zf, zl⟩ := HN1.out
  simp only at z0 z1 z2 z3
  cases r1 with
  | false =>
    go_wp2_with fail
    go_ret
    exact fac_no HB1.out
  | true =>
  go_wp2_with fail
  refine (H2.out _ (HOK.out.keep HB1.out)).mono ?_
  rintro e w2 ⟨r2, rfl, hb, hf2⟩
  have HB2 := Lib.hid (HB1.out.trans (hb.mono HB1.out.size))
  have HF2 := Lib.hid hf2
  clear hb hf2 z0 z1 z2 z3 zf zl HN1 HB1
  by_cases hr : r2 = 0
  · subst hr
    cases hn : decide ((len : Int) > n) with
    | true =>
      go_wp2_with fail
      go_ret
      exact fac_no HB2.out
    | false =>
      have HNN := Lib.hid (of_decide_eq_false hn)
      have HS2 := Lib.hid (HSX.out w2 HB2.out)
      go_wp2_with fail
      go_loop [7] (fun s => ∃ k : Nat, k ≤ len ∧ s = .int .i64 (k : Int) ∧ Hid (∀ (j : Nat) (h : j < L.length), j < k → (L[j]'h).c.size ≤ 40)) (fun s => (len - (intOf s)).toNat)
      case atStart => exact ⟨0, Nat.zero_le _, rfl, Lib.hid (fun j _ h => absurd h (Nat.not_lt_zero j))⟩
      case round =>
        obtain ⟨k, hk, rfl, HK⟩ := hrel
        by_cases hlt : k < len
        · have hl : (k : Int) < (len : Int) := by omega
          have hkL : k < L.length := by omega
          have S := HS2.out
          obtain rfl := S.ha (by omega)
          have sb := S.hb (by omega)
          have c0 := S.c0 k hkL
          clear S
          obtain ⟨s, hs⟩ : ∃ s, (L[k]'hkL).c = s := ⟨_, rfl⟩
          rw [hs] at c0
          have HXS := Lib.hid hs
          clear hs
          by_cases h40 : 40 < s.size
          · go_wp2_with fail
            go_ret
            exact fac_no HB2.out
          · go_wp2_with fail
            go_round
            case rel => exact ⟨k + 1, by omega, by go_num, Lib.hid (fun j h hj => by
              by_cases e : j = k
              · subst e; rw [HXS.out]; omega
              · exact HK.out j h (by omega))⟩
            case measure => simp [intOf]; omega
        · have hl : ¬ (k : Int) < (len : Int) := by omega
          go_wp2_with fail
          go_ret
          exact fac_any HB2.out (fun _ => by
            have hn := HNN.out
            have h1 := HF1.out (by simp)
            obtain ⟨g1, g2, g3, g4⟩ := HF2.out (by simp)
            exact ⟨⟨by omega, g2, g1, g3, g4⟩, by omega, fun x hx => by
              obtain ⟨j, hj, rfl⟩ := List.mem_iff_getElem.1 hx
              exact HK.out j hj (by omega)⟩)
  · have k1 : (r2 != 0) = true := by simpa using hr
    have k0 : (r2 == 0) = false := by simpa using hr
    go_wp2_with fail
    go_ret
    exact fac_no HB2.out
end Go.Proofs.Ytlleebgkglbelaa
