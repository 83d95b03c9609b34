/- Contract of layer 14's reference: rising. -/
import Derived.Test.YtlleebgkglbelaaRel
import Derived.Lib.QuietBelow
set_option linter.unusedSimpArgs false
set_option linter.unusedVariables false
namespace Go.Proofs.Ytlleebgkglbelaa
open Go.RowKit

/-- a Boolean, and what holds when it is true -/
def FacPost (w : World) (P : Prop) (e : Ending) (w' : World) : Prop := ∃ r : Bool, e = .returned (.bool r) ∧ Below w.heap.size w w' ∧ (r = true → P)
theorem fac_any {w w' : World} {P : Prop} {r : Bool} (h : Below w.heap.size w w') (hp : r = true → P) : FacPost w P (.returned (.bool r)) w' := ⟨r, rfl, h, hp⟩
theorem fac_no {w w' : World} {P : Prop} (h : Below w.heap.size w w') : FacPost w P (.returned (.bool false)) w' := fac_any h (fun h => by cases h)
/-- strictly rising codes -/
def RisE (E : List El) : Prop := ∀ (j : Nat) (h : j + 1 < E.length), lessB (E[j]'(Nat.lt_of_succ_lt h)).c (E[j + 1]'h).c = true
def befB (x y : Cn) : Bool := lessB x.f y.f || (decide (x.f = y.f) && lessB x.s y.s)
set_option maxHeartbeats 4000000 in
set_option maxRecDepth 100000 in
theorem before_any (w : World) (x y : Cn) : Calls Try.prog 59 #[x.val, y.val] w fun e w' => e = .returned (.bool (befB x y)) ∧ Below w.heap.size w w' := by
  have HX := cn_new w x 89
  have HY := cn_new (w.alloc (.cells #[.string x.f, .string x.s, .int .i64 x.n] 89)) y 89
  rw [World.size_alloc] at HY
  have HX2 := Lib.hid (HX.keep ((Below.refl _ _).alloc (Nat.le_refl _) (.cells #[.string y.f, .string y.s, .int .i64 y.n] 89)))
  have HY2 := Lib.hid HY
  have HB := Lib.hid (show Below w.heap.size w ((w.alloc (.cells #[.string x.f, .string x.s, .int .i64 x.n] 89)).alloc (.cells #[.string y.f, .string y.s, .int .i64 y.n] 89)) from (by repeat (first | with_reducible exact Below.refl _ _ | (with_reducible refine Below.setCell ?_ (by first | exact Nat.le_refl _ | omega | (simp; done) | (simp; omega)) _) | (with_reducible refine Below.alloc ?_ (by first | exact Nat.le_refl _ | omega | (simp; done) | (simp; omega)) _) | with_reducible refine Below.drew ?_ | with_reducible refine bel_drewN ?_ _ | (with_reducible refine bel_by (by with_reducible assumption) (by first | exact Nat.le_refl _ | omega | (simp; done) | (simp; omega)) ?_))))
  obtain ⟨q, hq⟩ : ∃ q, befB x y = q := ⟨_, rfl⟩
  rw [hq]
  unfold befB at hq
  have hd : decide (x.f = y.f) = (x.f.toList == y.f.toList) := by
    cases h : (x.f.toList == y.f.toList) with
    | true => exact decide_eq_true (eq_iff.1 h)
    | false => exact decide_eq_false (eq_no.1 h)
  rw [hd] at hq
  unfold lessB at hq
  clear hd HX HY
  unfold Cn.val
  obtain ⟨xf, xs, xn⟩ := x
  obtain ⟨yf, ys, yn⟩ := y
  simp only at hq HX2 HY2 HB ⊢
  cases h1 : Op.bytesLess xf.toList yf.toList with
  | true =>
    rw [h1] at hq
    simp only [Bool.true_or] at hq
    subst hq
    go_enter Try.func59, Try.ntmps59
    go_wp2_with fail
    go_ret
    exact ⟨rfl, HB.out⟩
  | false =>
    cases h2 : (xf.toList == yf.toList) with
    | true =>
      rw [h1, h2] at hq
      simp only [Bool.false_or, Bool.true_and] at hq
      subst hq
      go_enter Try.func59, Try.ntmps59
      go_wp2_with fail
      go_ret
      exact ⟨rfl, HB.out⟩
    | false =>
      rw [h1, h2] at hq
      simp only [Bool.false_or, Bool.false_and] at hq
      subst hq
      go_enter Try.func59, Try.ntmps59
      go_wp2_with fail
      go_ret
      exact ⟨rfl, HB.out⟩
set_option maxHeartbeats 4000000 in
set_option maxRecDepth 100000 in
theorem rising_any {w : World} {c : Ct} (h : CtOk w c) : Calls Try.prog 44 #[c.val] w (FacPost w (RisE c.E)) := by
  have hg0 := h.g.hl
  have hk0 := h.k.hl
  have he0 := h.e.hl
  have hc0 := h.c.hl
  have hge : c.ng ≤ 9223372036854775807 := by have := h.g.hcap; have := h.g.hmax; unfold maxLen at this; omega
  have hke : c.nk ≤ 9223372036854775807 := by have := h.k.hcap; have := h.k.hmax; unfold maxLen at this; omega
  have hee : c.ne ≤ 9223372036854775807 := by have := h.e.hcap; have := h.e.hmax; unfold maxLen at this; omega
  have hce : c.nc ≤ 9223372036854775807 := by have := h.c.hcap; have := h.c.hmax; unfold maxLen at this; omega
  have HOK := Lib.hid h
  have HN := Lib.hid (ct_new w c 27)
  have HB0 := Lib.hid (show Below w.heap.size w (w.alloc (.cells #[.slice c.ag c.ng c.cg, .slice c.ak c.nk c.ck, .slice c.ae c.ne c.ce, .slice c.ac c.nc c.cc] 27)) from (by repeat (first | with_reducible exact Below.refl _ _ | (with_reducible refine Below.setCell ?_ (by first | exact Nat.le_refl _ | omega | (simp; done) | (simp; omega)) _) | (with_reducible refine Below.alloc ?_ (by first | exact Nat.le_refl _ | omega | (simp; done) | (simp; omega)) _) | with_reducible refine Below.drew ?_ | with_reducible refine bel_drewN ?_ _ | (with_reducible refine bel_by (by with_reducible assumption) (by first | exact Nat.le_refl _ | omega | (simp; done) | (simp; omega)) ?_))))
  clear h
  unfold Ct.val at *
  obtain ⟨ag, bg, og, ng, cg, ak, bk, ok, nk, ck, ae, be, oe, ne, ce, ac, bc, oc, nc, cc, G, K, E, X⟩ := c
  simp only at hg0 hk0 he0 hc0 hge hke hee hce HN HB0 HOK ⊢
  go_enter Try.func44, Try.ntmps44
  go_wp2_with fail
  go_loopw [3] (fun s wr => ∃ k : Nat, k ≤ ng ∧ s = .int .i64 ((k : Int) + 1) ∧ Hid (Below w.heap.size w wr) ∧ Hid (CtAt wr w.heap.size ⟨ag, bg, og, ng, cg, ak, bk, ok, nk, ck, ae, be, oe, ne, ce, ac, bc, oc, nc, cc, G, K, E, X⟩) ∧ Hid (True)) (fun s _ => (ng + 1 - (intOf s)).toNat)
  case atStart => exact ⟨0, Nat.zero_le _, rfl, HB0, HN, Lib.hid (trivial)⟩
  case round =>
    clear HB0 HN
    obtain ⟨k, hk, rfl, HB0, HN, HK⟩ := hrel
    have hszw : w.heap.size ≤ wr.heap.size := HB0.out.size
    have HOKr := Lib.hid (HOK.out.keep HB0.out)
    obtain ⟨z0, z1, z2, z3, zf, zl⟩ := HN.out
    simp only at z0 z1 z2 z3
    by_cases hlt : k + 1 < ng
    · have hl : (k : Int) + 1 < (ng : Int) := by omega
      have hkL : k + 1 < G.length := by omega
      have S := HOKr.out.g
      simp only at S
      obtain rfl := S.ha (by omega)
      have sb := S.hb (by omega)
      have c1 := S.c0 k (Nat.lt_of_succ_lt hkL)
      have c2 := S.c0 (k + 1) hkL
      clear S
      have HDR := Lib.hid (fun n => HB0.out.trans ((show Below wr.heap.size wr (wr.drewN n) from bel_drewN (Below.refl _ _) n).mono HB0.out.size))
      have HDN := Lib.hid (fun n => HN.out.keep (show Below wr.heap.size wr (wr.drewN n) from bel_drewN (Below.refl _ _) n))
      cases hls : lessB (G[k]'(Nat.lt_of_succ_lt hkL)).c (G[k + 1]'hkL).c with
      | true =>
        have HLS := Lib.hid hls
        unfold lessB at hls
        go_wp2_with fail
        go_quiet (fail)
        go_wp2_with fail
        go_roundw
        case rel => exact ⟨k + 1, by omega, by go_num, Lib.hid (HDR.out nq), Lib.hid (HDN.out nq), Lib.hid trivial⟩
        case measure => simp [intOf]; omega
      | false =>
        unfold lessB at hls
        go_wp2_with fail
        go_quiet (fail)
        go_wp2_with fail
        go_ret
        exact fac_no (HDR.out nq)
    · have hl : ¬ (k : Int) + 1 < (ng : Int) := by omega
      go_wp2_with fail
      clear HK HOKr z0 z1 z2 z3 zf zl hszw
      go_loopw [4] (fun s wr => ∃ k : Nat, k ≤ ne ∧ s = .int .i64 ((k : Int) + 1) ∧ Hid (Below w.heap.size w wr) ∧ Hid (CtAt wr w.heap.size ⟨ag, bg, og, ng, cg, ak, bk, ok, nk, ck, ae, be, oe, ne, ce, ac, bc, oc, nc, cc, G, K, E, X⟩) ∧ Hid (∀ (j : Nat) (h : j + 1 < E.length), j < k → lessB (E[j]'(Nat.lt_of_succ_lt h)).c (E[j + 1]'h).c = true)) (fun s _ => (ne + 1 - (intOf s)).toNat)
      case atStart => exact ⟨0, Nat.zero_le _, rfl, HB0, HN, Lib.hid (fun j _ h => absurd h (Nat.not_lt_zero j))⟩
      case round =>
        clear HB0 HN
        obtain ⟨k, hk, rfl, HB0, HN, HK⟩ := hrel
        have hszw : w.heap.size ≤ wr.heap.size := HB0.out.size
        have HOKr := Lib.hid (HOK.out.keep HB0.out)
        obtain ⟨z0, z1, z2, z3, zf, zl⟩ := HN.out
        simp only at z0 z1 z2 z3
        by_cases hlt : k + 1 < ne
        · have hl : (k : Int) + 1 < (ne : Int) := by omega
          have hkL : k + 1 < E.length := by omega
          have S := HOKr.out.e
          simp only at S
          obtain rfl := S.ha (by omega)
          have sb := S.hb (by omega)
          have c1 := S.c0 k (Nat.lt_of_succ_lt hkL)
          have c2 := S.c0 (k + 1) hkL
          clear S
          have HDR := Lib.hid (fun n => HB0.out.trans ((show Below wr.heap.size wr (wr.drewN n) from bel_drewN (Below.refl _ _) n).mono HB0.out.size))
          have HDN := Lib.hid (fun n => HN.out.keep (show Below wr.heap.size wr (wr.drewN n) from bel_drewN (Below.refl _ _) n))
          cases hls : lessB (E[k]'(Nat.lt_of_succ_lt hkL)).c (E[k + 1]'hkL).c with
          | true =>
            have HLS := Lib.hid hls
            unfold lessB at hls
            go_wp2_with fail
            go_quiet (fail)
            go_wp2_with fail
            go_roundw
            case rel => exact ⟨k + 1, by omega, by go_num, Lib.hid (HDR.out nq), Lib.hid (HDN.out nq), Lib.hid (fun j h hj => by
                by_cases e : j = k
                · subst e; exact HLS.out
                · exact HK.out j h (by omega))⟩
            case measure => simp [intOf]; omega
          | false =>
            unfold lessB at hls
            go_wp2_with fail
            go_quiet (fail)
            go_wp2_with fail
            go_ret
            exact fac_no (HDR.out nq)
        · have hl : ¬ (k : Int) + 1 < (ne : Int) := by omega
          go_wp2_with fail
          have HE := Lib.hid (show ∀ (j : Nat) (h : j + 1 < E.length), lessB (E[j]'(Nat.lt_of_succ_lt h)).c (E[j + 1]'h).c = true from fun j h => HK.out j h (by omega))
          clear HK HOKr z0 z1 z2 z3 zf zl hszw
          go_loopw [5] (fun s wr => ∃ k : Nat, k ≤ nc ∧ s = .int .i64 ((k : Int) + 1) ∧ Hid (Below w.heap.size w wr) ∧ Hid (CtAt wr w.heap.size ⟨ag, bg, og, ng, cg, ak, bk, ok, nk, ck, ae, be, oe, ne, ce, ac, bc, oc, nc, cc, G, K, E, X⟩) ∧ Hid (True)) (fun s _ => (nc + 1 - (intOf s)).toNat)
          case atStart => exact ⟨0, Nat.zero_le _, rfl, HB0, HN, Lib.hid (trivial)⟩
          case round =>
            clear HB0 HN
            obtain ⟨k, hk, rfl, HB0, HN, HK⟩ := hrel
            have hszw : w.heap.size ≤ wr.heap.size := HB0.out.size
            have HOKr := Lib.hid (HOK.out.keep HB0.out)
            obtain ⟨z0, z1, z2, z3, zf, zl⟩ := HN.out
            simp only at z0 z1 z2 z3
            by_cases hlt : k + 1 < nc
            · have hl : (k : Int) + 1 < (nc : Int) := by omega
              have hkL : k + 1 < X.length := by omega
              have S := HOKr.out.c
              simp only at S
              obtain rfl := S.ha (by omega)
              have sb := S.hb (by omega)
              have c0 := S.c0 k (Nat.lt_of_succ_lt hkL)
              have d0 := S.c0 (k + 1) hkL
              have c1 := S.c1 k (Nat.lt_of_succ_lt hkL)
              have d1 := S.c1 (k + 1) hkL
              have c2 := S.c2 k (Nat.lt_of_succ_lt hkL)
              have d2 := S.c2 (k + 1) hkL
              clear S
              obtain ⟨x, hx⟩ : ∃ x, X[k]'(Nat.lt_of_succ_lt hkL) = x := ⟨_, rfl⟩
              obtain ⟨y, hy⟩ : ∃ y, X[k + 1]'hkL = y := ⟨_, rfl⟩
              rw [hx] at c0 c1 c2
              rw [hy] at d0 d1 d2
              clear hx hy
              have HBQ := fun W => before_any W x y
              obtain ⟨xf, xs, xn⟩ := x
              obtain ⟨yf, ys, yn⟩ := y
              unfold Cn.val at HBQ
              simp only at c0 c1 c2 d0 d1 d2 HBQ
              obtain ⟨q, hq⟩ : ∃ q, befB ⟨xf, xs, xn⟩ ⟨yf, ys, yn⟩ = q := ⟨_, rfl⟩
              rw [hq] at HBQ
              have a0 := fun d os => cell_regrown c0 d os
              have a1 := fun d os => cell_regrown c1 d os
              have a2 := fun d os => cell_regrown c2 d os
              have e0 := fun d os => cell_regrown d0 d os
              have e1 := fun d os => cell_regrown d1 d os
              have e2 := fun d os => cell_regrown d2 d os
              have b3 := fun d os => cell_regrown z3 d os
              have cQ := fun (d : Nat) (os : Array Obj) => Calls.regrown_of (HBQ (Sort.grow (redrawn wr d) os))
              obtain ⟨m, hm⟩ : ∃ m, k + 1 = m := ⟨_, rfl⟩
              have hm1 : (k : Int) + 1 = (m : Int) := by omega
              have k9 : IntKind.i64.wrap ((m : Int) - 1) = (k : Int) := by rw [show (m : Int) - 1 = (k : Int) by omega]; exact IntWalk.i64_in _ (by omega)
              have hl2 : (k : Int) < (nc : Int) := by omega
              have hl3 : (m : Int) < (nc : Int) := by omega
              rw [hm] at e0 e1 e2
              go_wp2_with fail
              rw [hm1]
              have HM := Lib.hid hm
              clear hm hm1
              clear c0 c1 c2 d0 d1 d2 HBQ hq z0 z1 z2 z3
              refine wp_region_quiet_below (by kernel_rfl) (by kernel_rfl) ?_
              repeat (quiet_step (exact cQ _ _))
              refine wpQuiet_nil ?_
              intro _ hw'
              obtain ⟨⟨dq, osq⟩, hw''⟩ := hw'
              subst hw''
              have HBI := below_regrown wr dq osq
              have HB7 := Lib.hid (HB0.out.trans (HBI.mono HB0.out.size))
              have HN7 := Lib.hid (HN.out.keep HBI)
              generalize Sort.grow (redrawn wr dq) osq = w7 at *
              clear HBI cQ a0 a1 a2 e0 e1 e2 b3
              obtain rfl := HM.out
              cases q with
              | true =>
                go_wp2_with fail
                go_roundw
                case rel => exact ⟨k + 1, by omega, by go_num, HB7, HN7, Lib.hid trivial⟩
                case measure => simp [intOf]; omega
              | false =>
                go_wp2_with fail
                go_ret
                exact fac_no HB7.out
            · have hl : ¬ (k : Int) + 1 < (nc : Int) := by omega
              go_wp2_with fail
              refine (rsorted_any (by have := HOKr.out.k; simpa using this)).mono ?_
              rintro e w2 ⟨rfl, n2, rfl⟩
              go_wp2_with fail
              go_ret
              exact fac_any (HB0.out.trans ((show Below wr.heap.size wr (wr.drewN n2) from bel_drewN (Below.refl _ _) n2).mono HB0.out.size)) (fun _ => HE.out)
end Go.Proofs.Ytlleebgkglbelaa
