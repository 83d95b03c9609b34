/- Contract of layer 14's reference: falling. -/
import Derived.Test.YtlleebgkglbelaaRis
import Derived.Test.YtlleebgkglbelaaRch
import Derived.Deep.RegionHeld3
set_option linter.unusedSimpArgs false
set_option linter.unusedVariables false
namespace Go.Proofs.Ytlleebgkglbelaa
open Go.RowKit

/-- the chain from an element on ends, within so many steps, and does not rise -/
def FlE (E : List El) : Nat → El → Prop
  | 0, x => x.l = ⟨#[]⟩
  | n + 1, x => x.l = ⟨#[]⟩ ∨ ∃ y, fstE E x.l = some y ∧ y.n ≤ x.n ∧ FlE E n y
def FalE (E : List El) : Prop := ∀ (j : Nat) (h : j < E.length), ∃ n, n ≤ E.length + 1 ∧ FlE E n (E[j]'h)
theorem emp_of {s : ByteArray} (h : (s.toList == []) = true) : s = ⟨#[]⟩ := by
  have h : s.toList = [] := by simpa using h
  exact tolist_inj (by rw [h]; simp)
theorem idx_pos {E : List El} {s : ByteArray} (h : 0 ≤ idxE E s) : ∃ y, fstE E s = some y := by
  cases hf : fstE E s with
  | none => rw [idx_none hf] at h; omega
  | some y => exact ⟨y, rfl⟩
theorem ct_set5 {W : World} {b g : Nat} {c : Ct} (h : CtAt W b c) (hne : g ≠ b) (v0 v1 v2 v3 v4 : Value) : CtAt (((((W.setCell ⟨g, 0, none⟩ v0).setCell ⟨g, 1, none⟩ v1).setCell ⟨g, 2, none⟩ v2).setCell ⟨g, 3, none⟩ v3).setCell ⟨g, 4, none⟩ v4) b c := by
  have hf : ∀ (W : World) (j t : Nat) (v : Value), (W.setCell ⟨g, j, none⟩ v).cell? ⟨b, t, none⟩ = W.cell? ⟨b, t, none⟩ := fun W j t v => World.cell?_setCell_far _ _ _ _ hne
  refine ⟨?_, ?_, ?_, ?_, fun k => ?_, ?_⟩
  · rw [hf, hf, hf, hf, hf]; exact h.c0
  · rw [hf, hf, hf, hf, hf]; exact h.c1
  · rw [hf, hf, hf, hf, hf]; exact h.c2
  · rw [hf, hf, hf, hf, hf]; exact h.c3
  · simp only [World.frozen?_setCell]; exact h.f k
  · simp; exact h.lt
set_option maxHeartbeats 4000000 in
set_option maxRecDepth 100000 in
theorem falling_any {w : World} {c : Ct} (h : CtOk w c) (hE : c.E.length ≤ 1000000) (hn : ∀ x ∈ c.E, x.l = ⟨#[]⟩ ∨ 0 ≤ idxE c.E x.l) : Calls Try.prog 46 #[c.val] w (FacPost w (FalE c.E)) := by
  have hg0 := h.g.hl
  have hk0 := h.k.hl
  have hE9 : c.ne ≤ 1000000 := by have := h.e.hl; omega
  have he0 := h.e.hl
  have hc0 := h.c.hl
  have hge : c.ng ≤ 9223372036854775807 := by have := h.g.hcap; have := h.g.hmax; unfold maxLen at this; omega
  have hke : c.nk ≤ 9223372036854775807 := by have := h.k.hcap; have := h.k.hmax; unfold maxLen at this; omega
  have hee : c.ne ≤ 9223372036854775807 := by have := h.e.hcap; have := h.e.hmax; unfold maxLen at this; omega
  have hce : c.nc ≤ 9223372036854775807 := by have := h.c.hcap; have := h.c.hmax; unfold maxLen at this; omega
  have HOK := Lib.hid h
  have HN := Lib.hid (ct_new w c 27)
  have HB0 := Lib.hid (show Below w.heap.size w (w.alloc (.cells #[.slice c.ag c.ng c.cg, .slice c.ak c.nk c.ck, .slice c.ae c.ne c.ce, .slice c.ac c.nc c.cc] 27)) from (by repeat (first | with_reducible exact Below.refl _ _ | (with_reducible refine Below.setCell ?_ (by first | exact Nat.le_refl _ | omega | (simp; done) | (simp; omega)) _) | (with_reducible refine Below.alloc ?_ (by first | exact Nat.le_refl _ | omega | (simp; done) | (simp; omega)) _) | with_reducible refine Below.drew ?_ | with_reducible refine bel_drewN ?_ _ | (with_reducible refine bel_by (by with_reducible assumption) (by first | exact Nat.le_refl _ | omega | (simp; done) | (simp; omega)) ?_))))
  have HIE := Lib.hid (fun W s (hW : CtOk W c) => relem_any hW s)
  have HNM := Lib.hid hn
  clear h hn hE
  unfold Ct.val at *
  obtain ⟨ag, bg, og, ng, cg, ak, bk, ok, nk, ck, ae, be, oe, ne, ce, ac, bc, oc, nc, cc, G, K, E, X⟩ := c
  simp only at hE9 hg0 hk0 he0 hc0 hge hke hee hce HN HB0 HOK ⊢
  go_enter Try.func46, Try.ntmps46
  go_wp2_with fail
  go_loopw [3] (fun s wr => ∃ k : Nat, k ≤ ne ∧ s = .int .i64 ((k : Int)) ∧ Hid (Below w.heap.size w wr) ∧ Hid (CtAt wr w.heap.size ⟨ag, bg, og, ng, cg, ak, bk, ok, nk, ck, ae, be, oe, ne, ce, ac, bc, oc, nc, cc, G, K, E, X⟩) ∧ Hid (∀ (j : Nat) (h : j < E.length), j < k → ∃ n, n ≤ ne + 1 ∧ FlE E n (E[j]'h))) (fun s _ => (ne + 1 - (intOf s)).toNat)
  case atStart => exact ⟨0, Nat.zero_le _, rfl, HB0, HN, Lib.hid (fun j _ h => absurd h (Nat.not_lt_zero j))⟩
  case round =>
    clear HB0 HN
    obtain ⟨k, hk, rfl, HB0, HN, HK⟩ := hrel
    have hszw : w.heap.size ≤ wr.heap.size := HB0.out.size
    have HOKr := Lib.hid (HOK.out.keep HB0.out)
    obtain ⟨z0, z1, z2, z3, zf, zl⟩ := HN.out
    simp only at z0 z1 z2 z3
    by_cases hlt : k < ne
    · have hl : (k : Int) < (ne : Int) := by omega
      have hkL : k < E.length := by omega
      have S := HOKr.out.e
      simp only at S
      obtain rfl := S.ha (by omega)
      have sb := S.hb (by omega)
      have c0 := S.c0 k hkL
      have c1 := S.c1 k hkL
      have c2 := S.c2 k hkL
      have c3 := S.c3 k hkL
      have c4 := S.c4 k hkL
      clear S
      obtain ⟨x, hx⟩ : ∃ x, E[k]'hkL = x := ⟨_, rfl⟩
      have HME := Lib.hid (show x ∈ E from by rw [← hx]; exact List.getElem_mem hkL)
      rw [hx] at c0 c1 c2 c3 c4
      have HX := Lib.hid hx
      clear hx
      have hgw0 : w.heap.size < wr.heap.size := HN.out.lt
      have HGW := Lib.hid (show w.heap.size ≤ wr.heap.size from Nat.le_of_lt hgw0)
      have HE1 := Lib.hid (el_new wr x 66)
      have HB1 := Lib.hid (show Below w.heap.size w (wr.alloc (.cells #[.string x.c, .string x.g, .int .i64 x.n, .string x.s, .string x.l] 66)) from HB0.out.alloc HB0.out.size _)
      have HN1 := Lib.hid (show CtAt (wr.alloc (.cells #[.string x.c, .string x.g, .int .i64 x.n, .string x.s, .string x.l] 66)) _ _ from HN.out.keep ((Below.refl _ _).alloc (Nat.le_refl _) _))
      go_wp2_with fail
      generalize (wr.alloc (.cells #[.string x.c, .string x.g, .int .i64 x.n, .string x.s, .string x.l] 66)) = V at *
      obtain ⟨g4, hg4⟩ : ∃ g4, wr.heap.size = g4 := ⟨_, rfl⟩
      rw [hg4] at HE1 HGW hgw0 ⊢
      clear hg4
      go_loopw [5] (fun s wr => ∃ (n : Nat) (e : El), n ≤ ne + 1 ∧ s = .int .i64 (n : Int) ∧ Hid (Below w.heap.size w wr) ∧ Hid (CtAt wr w.heap.size ⟨ag, bg, og, ng, cg, ak, bk, ok, nk, ck, some ⟨be, oe, none⟩, be, oe, ne, ce, ac, bc, oc, nc, cc, G, K, E, X⟩) ∧ Hid (ElAt wr g4 e) ∧ Hid (e ∈ E) ∧ Hid (∀ m, FlE E m e → FlE E (m + n) x)) (fun s _ => (ne + 2 - (intOf s)).toNat)
      case atStart => exact ⟨0, x, Nat.zero_le _, rfl, HB1, HN1, HE1, HME, Lib.hid (fun m h => h)⟩
      case round =>
        clear HB1 HN1 HE1
        obtain ⟨n, e, hn, rfl, HBi, HNi, HEi, HMi, HFi⟩ := hrel
        have hszi : w.heap.size ≤ wr.heap.size := HBi.out.size
        have HOKi := Lib.hid (HOK.out.keep HBi.out)
        obtain ⟨z0, z1, z2, z3, zf, zl⟩ := HNi.out
        obtain ⟨y0, y1, y2, y3, y4, yf, yl⟩ := HEi.out
        simp only at z0 z1 z2 z3
        cases hle : (e.l.toList == []) with
        | true =>
          have HLE := Lib.hid (emp_of hle)
          go_wp2_with fail
          go_roundw
          case rel => exact ⟨k + 1, by omega, by go_num, HBi, HNi, Lib.hid (fun j h hj => by
            by_cases e0 : j = k
            · subst e0; rw [HX.out]; exact ⟨n, by omega, by have := HFi.out 0 HLE.out; rwa [Nat.zero_add] at this⟩
            · exact HK.out j h (by omega))⟩
          case measure => simp [intOf]; omega
        | false =>
          have hne : e.l ≠ ⟨#[]⟩ := fun h => by rw [h] at hle; simp at hle
          obtain ⟨y, hy⟩ := idx_pos ((HNM.out e HMi.out).resolve_left hne)
          obtain ⟨j, hj, hidx, hjy⟩ := idx_some hy
          have HY := Lib.hid hy
          have HMY := Lib.hid (show y ∈ E from (fstE_mem hy).1)
          clear hy hne
          have hjn : j < ne := by omega
          have S := HOKi.out.e
          simp only at S
          have sb := S.hb (by omega)
          have c0 := S.c0 j hj
          have c1 := S.c1 j hj
          have c2 := S.c2 j hj
          have c3 := S.c3 j hj
          have c4 := S.c4 j hj
          rw [hjy] at c0 c1 c2 c3 c4
          have HELX := Lib.hid (fun W hW => HIE.out W e.l hW)
          simp only [hidx] at HELX
          have hl1 : (j : Int) < (ne : Int) := by omega
          clear S hidx hjy
          have HSS := Lib.hid (show ∀ w', Below wr.heap.size wr w' → (w'.cell? ⟨w.heap.size, 0, none⟩ = some (.slice ag ng cg) ∧ w'.cell? ⟨w.heap.size, 1, none⟩ = some (.slice ak nk ck) ∧ w'.cell? ⟨w.heap.size, 2, none⟩ = some (.slice (some ⟨be, oe, none⟩) ne ce) ∧ w'.cell? ⟨w.heap.size, 3, none⟩ = some (.slice ac nc cc) ∧ w'.cell? ⟨g4, 4, none⟩ = some (.string e.l) ∧ w'.cell? ⟨be, oe + j * 5, none⟩ = some (.string y.c) ∧ w'.cell? ⟨be, oe + j * 5 + 1, none⟩ = some (.string y.g) ∧ w'.cell? ⟨be, oe + j * 5 + 2, none⟩ = some (.int .i64 y.n) ∧ w'.cell? ⟨be, oe + j * 5 + 3, none⟩ = some (.string y.s) ∧ w'.cell? ⟨be, oe + j * 5 + 4, none⟩ = some (.string y.l)) from fun w' hB =>
            ⟨(hB.cell (p := ⟨w.heap.size, 0, none⟩) zl).trans z0, (hB.cell (p := ⟨w.heap.size, 1, none⟩) zl).trans z1, (hB.cell (p := ⟨w.heap.size, 2, none⟩) zl).trans z2, (hB.cell (p := ⟨w.heap.size, 3, none⟩) zl).trans z3, (hB.cell (p := ⟨g4, 4, none⟩) yl).trans y4, (hB.cell (p := ⟨be, oe + j * 5, none⟩) sb).trans c0, (hB.cell (p := ⟨be, oe + j * 5 + 1, none⟩) sb).trans c1, (hB.cell (p := ⟨be, oe + j * 5 + 2, none⟩) sb).trans c2, (hB.cell (p := ⟨be, oe + j * 5 + 3, none⟩) sb).trans c3, (hB.cell (p := ⟨be, oe + j * 5 + 4, none⟩) sb).trans c4⟩)
          clear c0 c1 c2 c3 c4
          go_upto_region 8 with fail
          clear z0 z1 z2 z3 zf y0 y1 y2 y3 y4 yf
          go_cut [6] (fun s6 wx => ∃ g : Nat, s6 = .pointer (some ⟨g, 0, none⟩) ∧ Hid (Below wr.heap.size wr wx) ∧ Hid (ElAt wx g y))
          case first =>
            have hBB : Below wr.heap.size wr wr := Below.refl _ _
            go_region_held3 (fun w' => w'.cell? ⟨w.heap.size, 0, none⟩ = some (.slice ag ng cg) ∧ w'.cell? ⟨w.heap.size, 1, none⟩ = some (.slice ak nk ck) ∧ w'.cell? ⟨w.heap.size, 2, none⟩ = some (.slice (some ⟨be, oe, none⟩) ne ce) ∧ w'.cell? ⟨w.heap.size, 3, none⟩ = some (.slice ac nc cc) ∧ w'.cell? ⟨g4, 4, none⟩ = some (.string e.l) ∧ w'.cell? ⟨be, oe + j * 5, none⟩ = some (.string y.c) ∧ w'.cell? ⟨be, oe + j * 5 + 1, none⟩ = some (.string y.g) ∧ w'.cell? ⟨be, oe + j * 5 + 2, none⟩ = some (.int .i64 y.n) ∧ w'.cell? ⟨be, oe + j * 5 + 3, none⟩ = some (.string y.s) ∧ w'.cell? ⟨be, oe + j * 5 + 4, none⟩ = some (.string y.l))
              (exact HSS.out _ (by repeat (first | with_reducible exact Below.refl _ _ | (with_reducible refine Below.setCell ?_ (by first | exact Nat.le_refl _ | omega | (simp; done) | (simp; omega)) _) | (with_reducible refine Below.alloc ?_ (by first | exact Nat.le_refl _ | omega | (simp; done) | (simp; omega)) _) | with_reducible refine Below.drew ?_ | with_reducible refine bel_drewN ?_ _ | (with_reducible refine bel_by (by with_reducible assumption) (by first | exact Nat.le_refl _ | omega | (simp; done) | (simp; omega)) ?_))))
              ((go_at_call 36; refine (HELX.out _ (HOKi.out.keep (by repeat (first | with_reducible exact Below.refl _ _ | (with_reducible refine Below.setCell ?_ (by first | exact Nat.le_refl _ | omega | (simp; done) | (simp; omega)) _) | (with_reducible refine Below.alloc ?_ (by first | exact Nat.le_refl _ | omega | (simp; done) | (simp; omega)) _) | with_reducible refine Below.drew ?_ | with_reducible refine bel_drewN ?_ _ | (with_reducible refine bel_by (by with_reducible assumption) (by first | exact Nat.le_refl _ | omega | (simp; done) | (simp; omega)) ?_))))).mono ?_; rintro e5 w5 ⟨rfl, hb5⟩; have hBB5 : Below wr.heap.size wr w5 := bel_by hb5 (by first | exact Nat.le_refl _ | (simp; done) | (simp; omega)) (by repeat (first | with_reducible exact Below.refl _ _ | (with_reducible refine Below.setCell ?_ (by first | exact Nat.le_refl _ | omega | (simp; done) | (simp; omega)) _) | (with_reducible refine Below.alloc ?_ (by first | exact Nat.le_refl _ | omega | (simp; done) | (simp; omega)) _) | with_reducible refine Below.drew ?_ | with_reducible refine bel_drewN ?_ _ | (with_reducible refine bel_by (by with_reducible assumption) (by first | exact Nat.le_refl _ | omega | (simp; done) | (simp; omega)) ?_))); have hs5 := hBB5.size; (first | have hz5 : ElAt w5 wr.heap.size El.zero := (el_new wr.drew El.zero 66).keep hb5; have HZ5 := Lib.hid hz5; obtain ⟨f0, f1, f2, f3, f4, ff, fl⟩ := hz5; simp only [El.zero] at f0 f1 f2 f3 f4 | skip); clear hb5))
            all_goals
              go_wp2_with fail
              go_meet
              first | exact ⟨_, rfl, Lib.hid (by repeat (first | with_reducible exact Below.refl _ _ | (with_reducible refine Below.setCell ?_ (by first | exact Nat.le_refl _ | omega | (simp; done) | (simp; omega)) _) | (with_reducible refine Below.alloc ?_ (by first | exact Nat.le_refl _ | omega | (simp; done) | (simp; omega)) _) | with_reducible refine Below.drew ?_ | with_reducible refine bel_drewN ?_ _ | (with_reducible refine bel_by (by with_reducible assumption) (by first | exact Nat.le_refl _ | omega | (simp; done) | (simp; omega)) ?_))), Lib.hid (el_set HZ5.out y)⟩ | exact ⟨_, rfl, Lib.hid (by repeat (first | with_reducible exact Below.refl _ _ | (with_reducible refine Below.setCell ?_ (by first | exact Nat.le_refl _ | omega | (simp; done) | (simp; omega)) _) | (with_reducible refine Below.alloc ?_ (by first | exact Nat.le_refl _ | omega | (simp; done) | (simp; omega)) _) | with_reducible refine Below.drew ?_ | with_reducible refine bel_drewN ?_ _ | (with_reducible refine bel_by (by with_reducible assumption) (by first | exact Nat.le_refl _ | omega | (simp; done) | (simp; omega)) ?_))), Lib.hid (el_new _ y _)⟩
          case rest =>
            obtain ⟨g, rfl, HBC, HG⟩ := hcut
            generalize wc = w9 at *
            have HB9 := Lib.hid (HBi.out.trans (HBC.out.mono HBi.out.size))
            have HN9 := Lib.hid (HNi.out.keep HBC.out)
            have HE9 := Lib.hid (HEi.out.keep HBC.out)
            clear HBC zl yl sb
            obtain ⟨z0, z1, z2, z3, zf, zl⟩ := HN9.out
            obtain ⟨y0, y1, y2, y3, y4, yf, yl⟩ := HE9.out
            obtain ⟨v0, v1, v2, v3, v4, vf, vl⟩ := HG.out
            simp only at z0 z1 z2 z3
            cases h1 : decide (y.n > e.n) with
            | true =>
              go_wp2_with fail
              go_ret
              exact fac_no HB9.out
            | false =>
              by_cases h2 : ne < n
              · go_wp2_with fail
                go_ret
                exact fac_no HB9.out
              · have HD1 := Lib.hid (of_decide_eq_false h1)
                go_wp2_with fail
                refine ⟨⟨n + 1, y, by omega, by go_num, Lib.hid (by have hgw := HGW.out; exact ((((((HB9.out.setCell hgw _).setCell hgw _).setCell hgw _).setCell hgw _).setCell hgw _))), Lib.hid (ct_set5 HN9.out (Nat.ne_of_gt hgw0) _ _ _ _ _), Lib.hid (el_set HE9.out y), HMY, Lib.hid (fun m h => ?_)⟩, ?_⟩
                · have h1 := HFi.out (m + 1) (Or.inr ⟨y, HY.out, by have := HD1.out; omega, h⟩)
                  rwa [Nat.add_assoc, Nat.add_comm 1 n] at h1
                · simp [intOf]; omega
    · have hl : ¬ (k : Int) < (ne : Int) := by omega
      go_wp2_with fail
      go_ret
      exact fac_any HB0.out (fun _ j h => by obtain ⟨n, h1, h2⟩ := HK.out j h (by omega); exact ⟨n, by omega, h2⟩)
end Go.Proofs.Ytlleebgkglbelaa
