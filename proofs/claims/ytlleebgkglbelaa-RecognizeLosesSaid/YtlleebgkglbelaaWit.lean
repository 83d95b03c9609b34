/- Contract of layer 14's reference: within. -/
import Derived.Test.YtlleebgkglbelaaRis
set_option linter.unusedSimpArgs false
set_option linter.unusedVariables false
namespace Go.Proofs.Ytlleebgkglbelaa
open Go.RowKit

/-- values within their range -/
def WitE (E : List El) : Prop := ∀ (j : Nat) (h : j < E.length), 0 ≤ (E[j]'h).n ∧ (E[j]'h).n ≤ 1000000
set_option maxHeartbeats 4000000 in
set_option maxRecDepth 100000 in
theorem within14_any {w : World} {c : Ct} (h : CtOk w c) : Calls Try.prog 45 #[c.val] w (FacPost w (WitE c.E)) := by
  have hg0 := h.g.hl
  have hk0 := h.k.hl
  have he0 := h.e.hl
  have hc0 := h.c.hl
  have hge : c.ng ≤ 9223372036854775807 := by have := h.g.hcap; have := h.g.hmax; unfold maxLen at this; omega
  have hke : c.nk ≤ 9223372036854775807 := by have := h.k.hcap; have := h.k.hmax; unfold maxLen at this; omega
  have hee : c.ne ≤ 9223372036854775807 := by have := h.e.hcap; have := h.e.hmax; unfold maxLen at this; omega
  have hce : c.nc ≤ 9223372036854775807 := by have := h.c.hcap; have := h.c.hmax; unfold maxLen at this; omega
  have HOK := Lib.hid h
  have HN := Lib.hid (ct_new w c 27)
  have HB0 := Lib.hid (show Below w.heap.size w (w.alloc (.cells #[.slice c.ag c.ng c.cg, .slice c.ak c.nk c.ck, .slice c.ae c.ne c.ce, .slice c.ac c.nc c.cc] 27)) from (by repeat (first | with_reducible exact Below.refl _ _ | (with_reducible refine Below.setCell ?_ (by first | exact Nat.le_refl _ | omega | (simp; done) | (simp; omega)) _) | (with_reducible refine Below.alloc ?_ (by first | exact Nat.le_refl _ | omega | (simp; done) | (simp; omega)) _) | with_reducible refine Below.drew ?_ | with_reducible refine bel_drewN ?_ _ | (with_reducible refine bel_by (by with_reducible assumption) (by first | exact Nat.le_refl _ | omega | (simp; done) | (simp; omega)) ?_))))
  clear h
  unfold Ct.val at *
  obtain ⟨ag, bg, og, ng, cg, ak, bk, ok, nk, ck, ae, be, oe, ne, ce, ac, bc, oc, nc, cc, G, K, E, X⟩ := c
  simp only at hg0 hk0 he0 hc0 hge hke hee hce HN HB0 HOK ⊢
  go_enter Try.func45, Try.ntmps45
  go_wp2_with fail
  go_loopw [3] (fun s wr => ∃ k : Nat, k ≤ ng ∧ s = .int .i64 ((k : Int)) ∧ Hid (Below w.heap.size w wr) ∧ Hid (CtAt wr w.heap.size ⟨ag, bg, og, ng, cg, ak, bk, ok, nk, ck, ae, be, oe, ne, ce, ac, bc, oc, nc, cc, G, K, E, X⟩) ∧ Hid (True)) (fun s _ => (ng + 1 - (intOf s)).toNat)
  case atStart => exact ⟨0, Nat.zero_le _, rfl, HB0, HN, Lib.hid (trivial)⟩
  case round =>
    clear HB0 HN
    obtain ⟨k, hk, rfl, HB0, HN, HK⟩ := hrel
    have hszw : w.heap.size ≤ wr.heap.size := HB0.out.size
    have HOKr := Lib.hid (HOK.out.keep HB0.out)
    obtain ⟨z0, z1, z2, z3, zf, zl⟩ := HN.out
    simp only at z0 z1 z2 z3
    by_cases hlt : k < ng
    · have hl : (k : Int) < (ng : Int) := by omega
      have hkL : k < G.length := by omega
      have S := HOKr.out.g
      simp only at S
      obtain rfl := S.ha (by omega)
      have sb := S.hb (by omega)
      have c0 := S.c0 k hkL
      have c1 := S.c1 k hkL
      have c2 := S.c2 k hkL
      clear S
      obtain ⟨x, hx⟩ : ∃ x, G[k]'hkL = x := ⟨_, rfl⟩
      rw [hx] at c0 c1 c2
      clear hx
      obtain ⟨xc, xm, xn⟩ := x
      simp only at c0 c1 c2
      have HBV := Lib.hid (show Below w.heap.size w (wr.alloc (.cells #[.string xc, .int .i64 xm, .int .i64 xn] 72)) from HB0.out.alloc HB0.out.size _)
      have HNV := Lib.hid (show CtAt (wr.alloc (.cells #[.string xc, .int .i64 xm, .int .i64 xn] 72)) _ _ from HN.out.keep ((Below.refl _ _).alloc (Nat.le_refl _) _))
      have hcs : decide (xm < 1) = true ∨ (decide (xm < 1) = false ∧ decide (xm > 30) = true) ∨ (decide (xm < 1) = false ∧ decide (xm > 30) = false ∧ decide (xn < 0) = true) ∨ (decide (xm < 1) = false ∧ decide (xm > 30) = false ∧ decide (xn < 0) = false ∧ decide (xn > 1000000) = true) ∨ (decide (xm < 1) = false ∧ decide (xm > 30) = false ∧ decide (xn < 0) = false ∧ decide (xn > 1000000) = false) := by
        cases decide (xm < 1) <;> cases decide (xm > 30) <;> cases decide (xn < 0) <;> cases decide (xn > 1000000) <;> simp
      rcases hcs with k1 | ⟨k1, k2⟩ | ⟨k1, k2, k3⟩ | ⟨k1, k2, k3, k4⟩ | ⟨k1, k2, k3, k4⟩
      · go_wp2_with fail
        go_ret
        exact fac_no HBV.out
      · go_wp2_with fail
        go_ret
        exact fac_no HBV.out
      · go_wp2_with fail
        go_ret
        exact fac_no HBV.out
      · go_wp2_with fail
        go_ret
        exact fac_no HBV.out
      · go_wp2_with fail
        go_roundw
        case rel => exact ⟨k + 1, by omega, by go_num, HBV, HNV, Lib.hid trivial⟩
        case measure => simp [intOf]; omega
    · have hl : ¬ (k : Int) < (ng : Int) := by omega
      go_wp2_with fail
      clear HK HOKr z0 z1 z2 z3 zf zl hszw
      go_loopw [5] (fun s wr => ∃ k : Nat, k ≤ ne ∧ s = .int .i64 ((k : Int)) ∧ Hid (Below w.heap.size w wr) ∧ Hid (CtAt wr w.heap.size ⟨ag, bg, og, ng, cg, ak, bk, ok, nk, ck, ae, be, oe, ne, ce, ac, bc, oc, nc, cc, G, K, E, X⟩) ∧ Hid (∀ (j : Nat) (h : j < E.length), j < k → 0 ≤ (E[j]'h).n ∧ (E[j]'h).n ≤ 1000000)) (fun s _ => (ne + 1 - (intOf s)).toNat)
      case atStart => exact ⟨0, Nat.zero_le _, rfl, HB0, HN, Lib.hid (fun j _ h => absurd h (Nat.not_lt_zero j))⟩
      case round =>
        clear HB0 HN
        obtain ⟨k, hk, rfl, HB0, HN, HK⟩ := hrel
        have hszw : w.heap.size ≤ wr.heap.size := HB0.out.size
        have HOKr := Lib.hid (HOK.out.keep HB0.out)
        obtain ⟨z0, z1, z2, z3, zf, zl⟩ := HN.out
        simp only at z0 z1 z2 z3
        by_cases hlt : k < ne
        · have hl : (k : Int) < (ne : Int) := by omega
          have hkL : k < E.length := by omega
          have S := HOKr.out.e
          simp only at S
          obtain rfl := S.ha (by omega)
          have sb := S.hb (by omega)
          have c2 := S.c2 k hkL
          clear S
          obtain ⟨y, hy⟩ : ∃ y, (E[k]'hkL).n = y := ⟨_, rfl⟩
          rw [hy] at c2
          have HY := Lib.hid hy
          clear hy
          cases k1 : decide (y < 0) with
          | true =>
            go_wp2_with fail
            go_ret
            exact fac_no HB0.out
          | false =>
            cases k2 : decide (y > 1000000) with
            | true =>
              go_wp2_with fail
              go_ret
              exact fac_no HB0.out
            | false =>
              have HK1 := Lib.hid (of_decide_eq_false k1)
              have HK2 := Lib.hid (of_decide_eq_false k2)
              go_wp2_with fail
              go_roundw
              case rel => exact ⟨k + 1, by omega, by go_num, HB0, HN, Lib.hid (fun j h hj => by
                  by_cases e : j = k
                  · subst e; have := HK1.out; have := HK2.out; have := HY.out; omega
                  · exact HK.out j h (by omega))⟩
              case measure => simp [intOf]; omega
        · have hl : ¬ (k : Int) < (ne : Int) := by omega
          go_wp2_with fail
          have HE := Lib.hid (show ∀ (j : Nat) (h : j < E.length), 0 ≤ (E[j]'h).n ∧ (E[j]'h).n ≤ 1000000 from fun j h => HK.out j h (by omega))
          clear HK HOKr z0 z1 z2 z3 zf zl hszw
          go_loopw [6] (fun s wr => ∃ k : Nat, k ≤ nc ∧ s = .int .i64 ((k : Int)) ∧ Hid (Below w.heap.size w wr) ∧ Hid (CtAt wr w.heap.size ⟨ag, bg, og, ng, cg, ak, bk, ok, nk, ck, ae, be, oe, ne, ce, ac, bc, oc, nc, cc, G, K, E, X⟩) ∧ Hid (True)) (fun s _ => (nc + 1 - (intOf s)).toNat)
          case atStart => exact ⟨0, Nat.zero_le _, rfl, HB0, HN, Lib.hid (trivial)⟩
          case round =>
            clear HB0 HN
            obtain ⟨k, hk, rfl, HB0, HN, HK⟩ := hrel
            have hszw : w.heap.size ≤ wr.heap.size := HB0.out.size
            have HOKr := Lib.hid (HOK.out.keep HB0.out)
            obtain ⟨z0, z1, z2, z3, zf, zl⟩ := HN.out
            simp only at z0 z1 z2 z3
            by_cases hlt : k < nc
            · have hl : (k : Int) < (nc : Int) := by omega
              have hkL : k < X.length := by omega
              have S := HOKr.out.c
              simp only at S
              obtain rfl := S.ha (by omega)
              have sb := S.hb (by omega)
              have c2 := S.c2 k hkL
              clear S
              obtain ⟨y, hy⟩ : ∃ y, (X[k]'hkL).n = y := ⟨_, rfl⟩
              rw [hy] at c2
              have HY := Lib.hid hy
              clear hy
              cases k1 : decide (y < 0) with
              | true =>
                go_wp2_with fail
                go_ret
                exact fac_no HB0.out
              | false =>
                cases k2 : decide (y > 1000000) with
                | true =>
                  go_wp2_with fail
                  go_ret
                  exact fac_no HB0.out
                | false =>
                  have HK1 := Lib.hid (of_decide_eq_false k1)
                  have HK2 := Lib.hid (of_decide_eq_false k2)
                  go_wp2_with fail
                  go_roundw
                  case rel => exact ⟨k + 1, by omega, by go_num, HB0, HN, Lib.hid trivial⟩
                  case measure => simp [intOf]; omega
            · have hl : ¬ (k : Int) < (nc : Int) := by omega
              go_wp2_with fail
              go_ret
              exact fac_any HB0.out (fun _ => HE.out)
end Go.Proofs.Ytlleebgkglbelaa
