/- Contract of layer 14's reference: named. -/
import Derived.Test.YtlleebgkglbelaaRis
import Derived.Test.YtlleebgkglbelaaRChk
import Derived.Test.YtlleebgkglbelaaRCode
set_option linter.unusedSimpArgs false
set_option linter.unusedVariables false
namespace Go.Proofs.Ytlleebgkglbelaa
open Go.RowKit

theorem quietH {P : Program} {f : FuncId} {args : Array Value} {w : World} {n : Nat} {v : Value} (h : Calls P f args (w.drewN n) fun e w' => e = .returned v ∧ w' = w.drewN n) : Calls P f args (w.drewN n) fun e w'' => e = .returned v ∧ ∃ m, w'' = w.drewN m :=
  h.mono fun _ _ ⟨he, hm⟩ => ⟨he, n, hm⟩
/-- valid codes, known lower elements -/
def NamE (E : List El) : Prop := ∀ (j : Nat) (h : j < E.length), codeS (E[j]'h).c = true ∧ ((E[j]'h).l = ⟨#[]⟩ ∨ 0 ≤ idxE E (E[j]'h).l)
set_option maxHeartbeats 8000000 in
set_option maxRecDepth 100000 in
theorem named_any {w : World} {c : Ct} (h : CtOk w c) : Calls Try.prog 43 #[c.val] w (FacPost w (NamE c.E)) := by
  have hg0 := h.g.hl
  have hk0 := h.k.hl
  have he0 := h.e.hl
  have hc0 := h.c.hl
  have hge : c.ng ≤ 9223372036854775807 := by have := h.g.hcap; have := h.g.hmax; unfold maxLen at this; omega
  have hke : c.nk ≤ 9223372036854775807 := by have := h.k.hcap; have := h.k.hmax; unfold maxLen at this; omega
  have hee : c.ne ≤ 9223372036854775807 := by have := h.e.hcap; have := h.e.hmax; unfold maxLen at this; omega
  have hce : c.nc ≤ 9223372036854775807 := by have := h.c.hcap; have := h.c.hmax; unfold maxLen at this; omega
  have HOK := Lib.hid h
  have HN := Lib.hid (ct_new w c 27)
  have HB0 := Lib.hid (show Below w.heap.size w (w.alloc (.cells #[.slice c.ag c.ng c.cg, .slice c.ak c.nk c.ck, .slice c.ae c.ne c.ce, .slice c.ac c.nc c.cc] 27)) from (by repeat (first | with_reducible exact Below.refl _ _ | (with_reducible refine Below.setCell ?_ (by first | exact Nat.le_refl _ | omega | (simp; done) | (simp; omega)) _) | (with_reducible refine Below.alloc ?_ (by first | exact Nat.le_refl _ | omega | (simp; done) | (simp; omega)) _) | with_reducible refine Below.drew ?_ | with_reducible refine bel_drewN ?_ _ | (with_reducible refine bel_by (by with_reducible assumption) (by first | exact Nat.le_refl _ | omega | (simp; done) | (simp; omega)) ?_))))
  have HGR := Lib.hid (fun W s (hW : CtOk W c) => rgroup_any hW s)
  have HIE := Lib.hid (fun W s (hW : CtOk W c) => relem_any hW s)
  have HHA := Lib.hid (fun W s (hW : CtOk W c) => rhas_any hW.k s)
  clear h
  unfold Ct.val at *
  obtain ⟨ag, bg, og, ng, cg, ak, bk, ok, nk, ck, ae, be, oe, ne, ce, ac, bc, oc, nc, cc, G, K, E, X⟩ := c
  simp only at hg0 hk0 he0 hc0 hge hke hee hce HN HB0 HOK ⊢
  go_enter Try.func43, Try.ntmps43
  go_wp2_with fail
  go_loopw [3] (fun s wr => ∃ k : Nat, k ≤ ng ∧ s = .int .i64 ((k : Int)) ∧ Hid (Below w.heap.size w wr) ∧ Hid (CtAt wr w.heap.size ⟨ag, bg, og, ng, cg, ak, bk, ok, nk, ck, ae, be, oe, ne, ce, ac, bc, oc, nc, cc, G, K, E, X⟩) ∧ Hid (True)) (fun s _ => (ng + 1 - (intOf s)).toNat)
  case atStart => exact ⟨0, Nat.zero_le _, rfl, HB0, HN, Lib.hid (trivial)⟩
  case round =>
    clear HB0 HN
    obtain ⟨k, hk, rfl, HB0, HN, HK⟩ := hrel
    have hszw : w.heap.size ≤ wr.heap.size := HB0.out.size
    have HOKr := Lib.hid (HOK.out.keep HB0.out)
    obtain ⟨z0, z1, z2, z3, zf, zl⟩ := HN.out
    simp only at z0 z1 z2 z3
    by_cases hlt : k < ng
    · have hl : (k : Int) < (ng : Int) := by omega
      have hkL : k < G.length := by omega
      have S := HOKr.out.g
      simp only at S
      obtain rfl := S.ha (by omega)
      have sb := S.hb (by omega)
      have c0 := S.c0 k hkL
      clear S
      obtain ⟨x, hx⟩ : ∃ x, (G[k]'hkL).c = x := ⟨_, rfl⟩
      have HSZ := Lib.hid (show x.size ≤ 9223372036854775807 from by
        have h := HOK.out.gc _ (List.getElem_mem hkL)
        unfold maxLen at h
        rw [← hx]
        exact h)
      rw [hx] at c0
      clear hx
      have HNM := Lib.hid (rname_any x HSZ.out wr)
      obtain ⟨q, hq⟩ : ∃ q, nameS x = q := ⟨_, rfl⟩
      rw [hq] at HNM
      clear hq
      go_wp2_with fail
      refine HNM.out.mono ?_
      rintro e w1 ⟨rfl, rfl⟩
      cases q with
      | false =>
        go_wp2_with fail
        go_ret
        exact fac_no HB0.out
      | true =>
        go_wp2_with fail
        go_roundw
        case rel => exact ⟨k + 1, by omega, by go_num, HB0, HN, Lib.hid trivial⟩
        case measure => simp [intOf]; omega
    · have hl : ¬ (k : Int) < (ng : Int) := by omega
      go_wp2_with fail
      clear HK HOKr z0 z1 z2 z3 zf zl hszw
      go_loopw [4] (fun s wr => ∃ k : Nat, k ≤ nk ∧ s = .int .i64 ((k : Int)) ∧ Hid (Below w.heap.size w wr) ∧ Hid (CtAt wr w.heap.size ⟨ag, bg, og, ng, cg, ak, bk, ok, nk, ck, ae, be, oe, ne, ce, ac, bc, oc, nc, cc, G, K, E, X⟩) ∧ Hid (True)) (fun s _ => (nk + 1 - (intOf s)).toNat)
      case atStart => exact ⟨0, Nat.zero_le _, rfl, HB0, HN, Lib.hid (trivial)⟩
      case round =>
        clear HB0 HN
        obtain ⟨k, hk, rfl, HB0, HN, HK⟩ := hrel
        have hszw : w.heap.size ≤ wr.heap.size := HB0.out.size
        have HOKr := Lib.hid (HOK.out.keep HB0.out)
        obtain ⟨z0, z1, z2, z3, zf, zl⟩ := HN.out
        simp only at z0 z1 z2 z3
        by_cases hlt : k < nk
        · have hl : (k : Int) < (nk : Int) := by omega
          have hkL : k < K.length := by omega
          have S := HOKr.out.k
          simp only at S
          obtain rfl := S.ha (by omega)
          have sb := S.hb (by omega)
          have c0 := S.cell k hkL
          clear S
          obtain ⟨x, hx⟩ : ∃ x, K[k]'hkL = x := ⟨_, rfl⟩
          have HSZ := Lib.hid (show x.size ≤ 9223372036854775807 from by
            have h := HOK.out.kc _ (List.getElem_mem hkL)
            unfold maxLen at h
            rw [← hx]
            exact h)
          rw [hx] at c0
          clear hx
          have HNM := Lib.hid (rname_any x HSZ.out wr)
          obtain ⟨q, hq⟩ : ∃ q, nameS x = q := ⟨_, rfl⟩
          rw [hq] at HNM
          clear hq
          go_wp2_with fail
          refine HNM.out.mono ?_
          rintro e w1 ⟨rfl, rfl⟩
          cases q with
          | false =>
            go_wp2_with fail
            go_ret
            exact fac_no HB0.out
          | true =>
            go_wp2_with fail
            go_roundw
            case rel => exact ⟨k + 1, by omega, by go_num, HB0, HN, Lib.hid trivial⟩
            case measure => simp [intOf]; omega
        · have hl : ¬ (k : Int) < (nk : Int) := by omega
          go_wp2_with fail
          clear HK HOKr z0 z1 z2 z3 zf zl hszw
          go_loopw [5] (fun s wr => ∃ k : Nat, k ≤ ne ∧ s = .int .i64 ((k : Int)) ∧ Hid (Below w.heap.size w wr) ∧ Hid (CtAt wr w.heap.size ⟨ag, bg, og, ng, cg, ak, bk, ok, nk, ck, ae, be, oe, ne, ce, ac, bc, oc, nc, cc, G, K, E, X⟩) ∧ Hid (∀ (j : Nat) (h : j < E.length), j < k → codeS (E[j]'h).c = true ∧ ((E[j]'h).l = ⟨#[]⟩ ∨ 0 ≤ idxE E (E[j]'h).l))) (fun s _ => (ne + 1 - (intOf s)).toNat)
          case atStart => exact ⟨0, Nat.zero_le _, rfl, HB0, HN, Lib.hid (fun j _ h => absurd h (Nat.not_lt_zero j))⟩
          case round =>
            clear HB0 HN
            obtain ⟨k, hk, rfl, HB0, HN, HK⟩ := hrel
            have hszw : w.heap.size ≤ wr.heap.size := HB0.out.size
            have HOKr := Lib.hid (HOK.out.keep HB0.out)
            obtain ⟨z0, z1, z2, z3, zf, zl⟩ := HN.out
            simp only at z0 z1 z2 z3
            by_cases hlt : k < ne
            · have hl : (k : Int) < (ne : Int) := by omega
              have hkL : k < E.length := by omega
              have S := HOKr.out.e
              simp only at S
              obtain rfl := S.ha (by omega)
              have sb := S.hb (by omega)
              have c0 := S.c0 k hkL
              have c1 := S.c1 k hkL
              have c2 := S.c2 k hkL
              have c3 := S.c3 k hkL
              have c4 := S.c4 k hkL
              clear S
              obtain ⟨x, hx⟩ : ∃ x, E[k]'hkL = x := ⟨_, rfl⟩
              have HSZ := Lib.hid (show x.c.size ≤ 9223372036854775807 from by
                have h := HOK.out.ec _ (List.getElem_mem hkL)
                unfold maxLen at h
                rw [← hx]
                exact h)
              rw [hx] at c0 c1 c2 c3 c4
              have HX := Lib.hid hx
              clear hx
              obtain ⟨xc, xg, xn, xs, xl⟩ := x
              simp only at c0 c1 c2 c3 c4 HSZ
              have HE1 := Lib.hid (el_new wr ⟨xc, xg, xn, xs, xl⟩ 66)
              have HB1 := Lib.hid (show Below w.heap.size w (wr.alloc (.cells #[.string xc, .string xg, .int .i64 xn, .string xs, .string xl] 66)) from HB0.out.alloc HB0.out.size _)
              have HN1 := Lib.hid (show CtAt (wr.alloc (.cells #[.string xc, .string xg, .int .i64 xn, .string xs, .string xl] 66)) _ _ from HN.out.keep ((Below.refl _ _).alloc (Nat.le_refl _) _))
              have HOK1 := Lib.hid (HOK.out.keep HB1.out)
              have HCO := Lib.hid (fun W => rcode_any xc HSZ.out W)
              obtain ⟨q0, hq0⟩ : ∃ q, codeS xc = q := ⟨_, rfl⟩
              rw [hq0] at HCO
              have HQ := Lib.hid hq0
              clear hq0
              go_wp2_with fail
              generalize (wr.alloc (.cells #[.string xc, .string xg, .int .i64 xn, .string xs, .string xl] 66)) = V at *
              refine (HCO.out _).mono ?_
              rintro e w1 ⟨rfl, rfl⟩
              clear c0 c1 c2 c3 c4 z0 z1 z2 z3 zf zl
              obtain ⟨z0, z1, z2, z3, zf, zl⟩ := HN1.out
              obtain ⟨y0, y1, y2, y3, y4, yf, yl⟩ := HE1.out
              simp only at z0 z1 z2 z3 y0 y1 y2 y3 y4
              cases q0 with
              | false =>
                go_wp2_with fail
                go_ret
                exact fac_no HB1.out
              | true =>
                have HQ0 := Lib.hid HQ.out
                go_wp2_with fail
                clear z0 z1 z2 z3 zf zl y0 y1 y2 y3 y4 yf yl
                refine (HGR.out _ xg HOK1.out).mono ?_
                rintro e w2 ⟨rfl, hb2⟩
                have HB2 := Lib.hid (HB1.out.trans (hb2.mono HB1.out.size))
                have HN2 := Lib.hid (HN1.out.keep hb2)
                have HE2 := Lib.hid (HE1.out.keep hb2)
                have HOK2 := Lib.hid (HOK.out.keep HB2.out)
                clear hb2
                obtain ⟨z0, z1, z2, z3, zf, zl⟩ := HN2.out
                obtain ⟨y0, y1, y2, y3, y4, yf, yl⟩ := HE2.out
                simp only at z0 z1 z2 z3 y0 y1 y2 y3 y4
                obtain ⟨q1, hq1⟩ : ∃ q1, idxP G xg = q1 := ⟨_, rfl⟩
                rw [hq1]
                clear hq1
                cases h1 : decide (q1 < 0) with
                | true =>
                  go_wp2_with fail
                  go_ret
                  exact fac_no HB2.out
                | false =>
                  cases hse : (xs.toList == []) with
                  | true =>
                    cases hle : (xl.toList == []) with
                    | true =>
                      have HLE := Lib.hid (show xl = ⟨#[]⟩ from by have h : xl.toList = [] := by simpa using hle
                                                                   exact tolist_inj (by rw [h]; simp))
                      go_wp2_with fail
                      go_roundw
                      case rel => exact ⟨k + 1, by omega, by go_num, HB2, HN2, Lib.hid (fun j h hj => by
                        by_cases e : j = k
                        · subst e; rw [HX.out]; exact ⟨HQ0.out, Or.inl HLE.out⟩
                        · exact HK.out j h (by omega))⟩
                      case measure => simp [intOf]; omega
                    | false =>
                      go_wp2_with fail
                      refine (HIE.out _ xl HOK2.out).mono ?_
                      rintro e w9 ⟨rfl, hb9⟩
                      have HB9 := Lib.hid (HB2.out.trans (hb9.mono HB2.out.size))
                      have HN9 := Lib.hid (HN2.out.keep hb9)
                      have HE9 := Lib.hid (HE2.out.keep hb9)
                      have HOK9 := Lib.hid (HOK.out.keep HB9.out)
                      clear hb9
                      obtain ⟨z0, z1, z2, z3, zf, zl⟩ := HN9.out
                      obtain ⟨y0, y1, y2, y3, y4, yf, yl⟩ := HE9.out
                      simp only at z0 z1 z2 z3 y0 y1 y2 y3 y4
                      obtain ⟨q9, hq9⟩ : ∃ q9, idxE E xl = q9 := ⟨_, rfl⟩
                      rw [hq9]
                      have HQ9 := Lib.hid hq9
                      clear hq9
                      cases h9 : decide (q9 < 0) with
                      | true =>
                        go_wp2_with fail
                        go_ret
                        exact fac_no HB9.out
                      | false =>
                        have HD9 := Lib.hid (of_decide_eq_false h9)
                        go_wp2_with fail
                        go_roundw
                        case rel => exact ⟨k + 1, by omega, by go_num, HB9, HN9, Lib.hid (fun j h hj => by
                          by_cases e : j = k
                          · subst e; rw [HX.out]; exact ⟨HQ0.out, Or.inr (by have h1 := HD9.out; have h2 := HQ9.out; show 0 ≤ idxE E xl; omega)⟩
                          · exact HK.out j h (by omega))⟩
                        case measure => simp [intOf]; omega
                  | false =>
                    go_wp2_with fail
                    refine (HHA.out _ xs HOK2.out).mono ?_
                    rintro e w4 ⟨rfl, rfl⟩
                    obtain ⟨q2, hq2⟩ : ∃ q2, hasS K xs = q2 := ⟨_, rfl⟩
                    rw [hq2]
                    clear hq2
                    cases q2 with
                    | false =>
                      go_wp2_with fail
                      go_ret
                      exact fac_no HB2.out
                    | true =>
                      cases hle : (xl.toList == []) with
                      | true =>
                        have HLE := Lib.hid (show xl = ⟨#[]⟩ from by have h : xl.toList = [] := by simpa using hle
                                                                     exact tolist_inj (by rw [h]; simp))
                        go_wp2_with fail
                        go_roundw
                        case rel => exact ⟨k + 1, by omega, by go_num, HB2, HN2, Lib.hid (fun j h hj => by
                          by_cases e : j = k
                          · subst e; rw [HX.out]; exact ⟨HQ0.out, Or.inl HLE.out⟩
                          · exact HK.out j h (by omega))⟩
                        case measure => simp [intOf]; omega
                      | false =>
                        go_wp2_with fail
                        refine (HIE.out _ xl HOK2.out).mono ?_
                        rintro e w9 ⟨rfl, hb9⟩
                        have HB9 := Lib.hid (HB2.out.trans (hb9.mono HB2.out.size))
                        have HN9 := Lib.hid (HN2.out.keep hb9)
                        have HE9 := Lib.hid (HE2.out.keep hb9)
                        have HOK9 := Lib.hid (HOK.out.keep HB9.out)
                        clear hb9
                        obtain ⟨z0, z1, z2, z3, zf, zl⟩ := HN9.out
                        obtain ⟨y0, y1, y2, y3, y4, yf, yl⟩ := HE9.out
                        simp only at z0 z1 z2 z3 y0 y1 y2 y3 y4
                        obtain ⟨q9, hq9⟩ : ∃ q9, idxE E xl = q9 := ⟨_, rfl⟩
                        rw [hq9]
                        have HQ9 := Lib.hid hq9
                        clear hq9
                        cases h9 : decide (q9 < 0) with
                        | true =>
                          go_wp2_with fail
                          go_ret
                          exact fac_no HB9.out
                        | false =>
                          have HD9 := Lib.hid (of_decide_eq_false h9)
                          go_wp2_with fail
                          go_roundw
                          case rel => exact ⟨k + 1, by omega, by go_num, HB9, HN9, Lib.hid (fun j h hj => by
                            by_cases e : j = k
                            · subst e; rw [HX.out]; exact ⟨HQ0.out, Or.inr (by have h1 := HD9.out; have h2 := HQ9.out; show 0 ≤ idxE E xl; omega)⟩
                            · exact HK.out j h (by omega))⟩
                          case measure => simp [intOf]; omega
            · have hl : ¬ (k : Int) < (ne : Int) := by omega
              go_wp2_with fail
              have HE := Lib.hid (show ∀ (j : Nat) (h : j < E.length), codeS (E[j]'h).c = true ∧ ((E[j]'h).l = ⟨#[]⟩ ∨ 0 ≤ idxE E (E[j]'h).l) from fun j h => HK.out j h (by omega))
              clear HK HOKr z0 z1 z2 z3 zf zl hszw
              go_loopw [7] (fun s wr => ∃ k : Nat, k ≤ nc ∧ s = .int .i64 ((k : Int)) ∧ Hid (Below w.heap.size w wr) ∧ Hid (CtAt wr w.heap.size ⟨ag, bg, og, ng, cg, ak, bk, ok, nk, ck, ae, be, oe, ne, ce, ac, bc, oc, nc, cc, G, K, E, X⟩) ∧ Hid (True)) (fun s _ => (nc + 1 - (intOf s)).toNat)
              case atStart => exact ⟨0, Nat.zero_le _, rfl, HB0, HN, Lib.hid (trivial)⟩
              case round =>
                clear HB0 HN
                obtain ⟨k, hk, rfl, HB0, HN, HK⟩ := hrel
                have hszw : w.heap.size ≤ wr.heap.size := HB0.out.size
                have HOKr := Lib.hid (HOK.out.keep HB0.out)
                obtain ⟨z0, z1, z2, z3, zf, zl⟩ := HN.out
                simp only at z0 z1 z2 z3
                by_cases hlt : k < nc
                · have hl : (k : Int) < (nc : Int) := by omega
                  have hkL : k < X.length := by omega
                  have S := HOKr.out.c
                  simp only at S
                  obtain rfl := S.ha (by omega)
                  have sb := S.hb (by omega)
                  have c0 := S.c0 k hkL
                  have c1 := S.c1 k hkL
                  clear S
                  obtain ⟨x, hx⟩ : ∃ x, X[k]'hkL = x := ⟨_, rfl⟩
                  rw [hx] at c0 c1
                  clear hx
                  obtain ⟨xf, xs, xn⟩ := x
                  simp only at c0 c1
                  have HRD := Lib.hid (fun n => HOKr.out.k.drewN n)
                  simp only at HRD
                  have HH1 := Lib.hid (fun n => rhas_any (HRD.out n) xf)
                  have HH2 := Lib.hid (fun n => rhas_any (HRD.out n) xs)
                  have HDR := Lib.hid (fun n => HB0.out.trans ((show Below wr.heap.size wr (wr.drewN n) from bel_drewN (Below.refl _ _) n).mono HB0.out.size))
                  have HDN := Lib.hid (fun n => HN.out.keep (show Below wr.heap.size wr (wr.drewN n) from bel_drewN (Below.refl _ _) n))
                  obtain ⟨p1, hp1⟩ : ∃ p, hasS K xf = p := ⟨_, rfl⟩
                  obtain ⟨p2, hp2⟩ : ∃ p, hasS K xs = p := ⟨_, rfl⟩
                  rw [hp1] at HH1
                  rw [hp2] at HH2
                  clear hp1 hp2
                  clear HRD
                  cases p1 with
                  | false =>
                    go_wp2_with fail
                    go_quiet ((first | (go_at_call 58; first | with_reducible exact quietH (HH1.out _) | with_reducible exact quietH (HH2.out _))))
                    have HB7 := Lib.hid (HDR.out nq)
                    have HN7 := Lib.hid (HDN.out nq)
                    go_wp2_with fail
                    go_ret
                    exact fac_no HB7.out
                  | true =>
                    cases p2 with
                    | false =>
                      go_wp2_with fail
                      go_quiet ((first | (go_at_call 58; first | with_reducible exact quietH (HH1.out _) | with_reducible exact quietH (HH2.out _))))
                      have HB7 := Lib.hid (HDR.out nq)
                      have HN7 := Lib.hid (HDN.out nq)
                      go_wp2_with fail
                      go_ret
                      exact fac_no HB7.out
                    | true =>
                      go_wp2_with fail
                      go_quiet ((first | (go_at_call 58; first | with_reducible exact quietH (HH1.out _) | with_reducible exact quietH (HH2.out _))))
                      have HB7 := Lib.hid (HDR.out nq)
                      have HN7 := Lib.hid (HDN.out nq)
                      go_wp2_with fail
                      go_roundw
                      case rel => exact ⟨k + 1, by omega, by go_num, HB7, HN7, Lib.hid trivial⟩
                      case measure => simp [intOf]; omega
                · have hl : ¬ (k : Int) < (nc : Int) := by omega
                  go_wp2_with fail
                  go_ret
                  exact fac_any HB0.out (fun _ => HE.out)
end Go.Proofs.Ytlleebgkglbelaa
