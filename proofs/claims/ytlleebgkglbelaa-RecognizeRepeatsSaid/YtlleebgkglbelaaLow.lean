/- Contracts of layer 14: Lower; of layer 20: performed, Reason. -/
import Derived.Test.YtlleebgkglbelaaCh
set_option linter.unusedSimpArgs false
set_option linter.unusedVariables false
namespace Go.Proofs.Ytlleebgkglbelaa
open Go.RowKit

def lowL (L : List El) (s : ByteArray) : List El := chnO L (szE L) (getE L s)
def lowE (L : List El) (s : ByteArray) (k : Int) : El × Int :=
  if (lowL L s).length = 0 then (El.zero, 3) else if k < 0 then (El.zero, 1) else if k ≥ ((lowL L s).length : Int) then (El.zero, 8) else ((lowL L s).getD k.toNat El.zero, 0)
/-- what gives an element and a number -/
def EnPost (w : World) (p : El × Int) (e : Ending) (w' : World) : Prop := e = .returned (.tuple #[p.1.val, .int .i64 p.2]) ∧ Below w.heap.size w w'
set_option maxHeartbeats 4000000 in
set_option maxRecDepth 100000 in
theorem lowr_any {w : World} {c : Ct} (h : CtOk w c) (hE : c.E.length ≤ 1000000) (s : ByteArray) (hs : s.size ≤ maxLen) (k : Int) : Calls Try.prog 47 #[c.val, .string s, .int .i64 k] w (EnPost w (lowE c.E s k)) := by
  have HOK := Lib.hid h
  have HEL := Lib.hid (fun W (hW : CtOk W c) => elements_any hW)
  have HCH := Lib.hid (fun W b (hW : MapE W b c.E.length c.E) => chain_any hW hE h.el s hs)
  have HN := Lib.hid (ct_new w c 27)
  have HZ := el_new (w.alloc (.cells #[.slice c.ag c.ng c.cg, .slice c.ak c.nk c.ck, .slice c.ae c.ne c.ce, .slice c.ac c.nc c.cc] 27)) El.zero 66
  rw [World.size_alloc] at HZ
  replace HZ := Lib.hid HZ
  have HB0 := Lib.hid (show Below w.heap.size w ((w.alloc (.cells #[.slice c.ag c.ng c.cg, .slice c.ak c.nk c.ck, .slice c.ae c.ne c.ce, .slice c.ac c.nc c.cc] 27)).alloc (.cells #[.string El.zero.c, .string El.zero.g, .int .i64 El.zero.n, .string El.zero.s, .string El.zero.l] 66)) from (by repeat (first | with_reducible exact Below.refl _ _ | (with_reducible refine Below.setCell ?_ (by first | exact Nat.le_refl _ | omega | (simp; done) | (simp; omega)) _) | (with_reducible refine Below.alloc ?_ (by first | exact Nat.le_refl _ | omega | (simp; done) | (simp; omega)) _) | with_reducible refine Below.drew ?_ | with_reducible refine bel_drewN ?_ _ | (with_reducible refine bel_by (by with_reducible assumption) (by first | exact Nat.le_refl _ | omega | (simp; done) | (simp; omega)) ?_))))
  unfold EnPost lowE
  unfold ElsPost at HEL
  unfold ChPost at HCH
  unfold lowL
  obtain ⟨C, hC⟩ : ∃ C, chnO c.E (szE c.E) (getE c.E s) = C := ⟨_, rfl⟩
  rw [hC] at HCH ⊢
  have hCl : C.length ≤ 1000000 := by
    have : C.length ≤ szE c.E := by rw [← hC]; exact chnO_len _ _ _
    have : szE c.E ≤ c.E.length := sizeE_le c.E
    omega
  obtain ⟨p, hp⟩ : ∃ p, (if C.length = 0 then (El.zero, (3 : Int)) else if k < 0 then (El.zero, 1) else if k ≥ (C.length : Int) then (El.zero, 8) else (C.getD k.toNat El.zero, 0)) = p := ⟨_, rfl⟩
  rw [hp]
  have HP := Lib.hid hp
  clear hp
  unfold Ct.val at HEL ⊢
  obtain ⟨ag, bg, og, ng, cg, ak, bk, ok, nk, ck, ae, be, oe, ne, ce, ac, bc, oc, nc, cc, G, K, E, X⟩ := c
  simp only [El.zero] at HEL HCH HN HZ HB0 HP ⊢
  clear h hC hE
  go_enter Try.func47, Try.ntmps47
  go_wp2_with fail
  obtain ⟨z0, z1, z2, z3, zf, zl⟩ := HN.out
  obtain ⟨y0, y1, y2, y3, y4, yf, yl⟩ := HZ.out
  simp only at z0 z1 z2 z3 y0 y1 y2 y3 y4
  go_wp2_with fail
  refine (HEL.out _ (HOK.out.keep HB0.out)).mono ?_
  rintro e w1 ⟨b, rfl, hb, hm, hb1⟩
  have HB1 := Lib.hid (HB0.out.trans (hb1.mono HB0.out.size))
  have HZ1 := Lib.hid (HZ.out.keep hb1)
  have HM1 := Lib.hid hm
  clear hm hb1 HB0 z0 z1 z2 z3 zf zl y0 y1 y2 y3 y4 yf yl HN
  go_wp2_with fail
  refine (HCH.out _ b HM1.out).mono ?_
  rintro e w2 ⟨v, rfl, ho, hb2⟩
  have HB2 := Lib.hid (HB1.out.trans (hb2.mono HB1.out.size))
  have HZ2 := Lib.hid (HZ1.out.keep hb2)
  have hz2 := HZ2.out.lt
  obtain ⟨ao, bo, cv, rfl, S, hbo⟩ := sle_own ho
  have HS := Lib.hid S
  clear ho hb2 HB1 HZ1 HM1 S
  obtain ⟨y0, y1, y2, y3, y4, yf, yl⟩ := HZ2.out
  simp only at y0 y1 y2 y3 y4
  have hbw := HB2.out
  by_cases h0 : C.length = 0
  · have g0 : ((C.length : Int) == 0) = true := by simp [h0]
    have hp := HP.out
    rw [if_pos h0] at hp
    replace HP := Lib.hid hp
    clear hp
    go_wp2_with fail
    change bodyPost _ _ _ _ _ _
    refine bodyPost_ret (v := .tuple #[.agg #[.string ⟨#[]⟩, .string ⟨#[]⟩, .int .i64 0, .string ⟨#[]⟩, .string ⟨#[]⟩], .int .i64 3]) (by simp [results, Try.results47, go_sem, y0, y1, y2, y3, y4, yf, yl]) rfl ?_
    exact ⟨by rw [← HP.out]; rfl, (by repeat (first | with_reducible exact Below.refl _ _ | (with_reducible refine Below.setCell ?_ (by first | exact Nat.le_refl _ | omega | (simp; done) | (simp; omega)) _) | (with_reducible refine Below.alloc ?_ (by first | exact Nat.le_refl _ | omega | (simp; done) | (simp; omega)) _) | with_reducible refine Below.drew ?_ | with_reducible refine bel_drewN ?_ _ | (with_reducible refine bel_by (by with_reducible assumption) (by first | exact Nat.le_refl _ | omega | (simp; done) | (simp; omega)) ?_)))⟩
  · have g0 : ((C.length : Int) == 0) = false := by simpa using h0
    have hp := HP.out
    rw [if_neg h0] at hp
    replace HP := Lib.hid hp
    clear hp
    by_cases h1 : k < 0
    · have g1 : decide (k < 0) = true := decide_eq_true h1
      have hp := HP.out
      rw [if_pos h1] at hp
      replace HP := Lib.hid hp
      clear hp
      go_wp2_with fail
      change bodyPost _ _ _ _ _ _
      refine bodyPost_ret (v := .tuple #[.agg #[.string ⟨#[]⟩, .string ⟨#[]⟩, .int .i64 0, .string ⟨#[]⟩, .string ⟨#[]⟩], .int .i64 1]) (by simp [results, Try.results47, go_sem, y0, y1, y2, y3, y4, yf, yl]) rfl ?_
      exact ⟨by rw [← HP.out]; rfl, (by repeat (first | with_reducible exact Below.refl _ _ | (with_reducible refine Below.setCell ?_ (by first | exact Nat.le_refl _ | omega | (simp; done) | (simp; omega)) _) | (with_reducible refine Below.alloc ?_ (by first | exact Nat.le_refl _ | omega | (simp; done) | (simp; omega)) _) | with_reducible refine Below.drew ?_ | with_reducible refine bel_drewN ?_ _ | (with_reducible refine bel_by (by with_reducible assumption) (by first | exact Nat.le_refl _ | omega | (simp; done) | (simp; omega)) ?_)))⟩
    · have g1 : decide (k < 0) = false := decide_eq_false h1
      have hp := HP.out
      rw [if_neg h1] at hp
      replace HP := Lib.hid hp
      clear hp
      by_cases h2 : k ≥ (C.length : Int)
      · have g2 : decide (k ≥ (C.length : Int)) = true := decide_eq_true h2
        have hp := HP.out
        rw [if_pos h2] at hp
        replace HP := Lib.hid hp
        clear hp
        go_wp2_with fail
        change bodyPost _ _ _ _ _ _
        refine bodyPost_ret (v := .tuple #[.agg #[.string ⟨#[]⟩, .string ⟨#[]⟩, .int .i64 0, .string ⟨#[]⟩, .string ⟨#[]⟩], .int .i64 8]) (by simp [results, Try.results47, go_sem, y0, y1, y2, y3, y4, yf, yl]) rfl ?_
        exact ⟨by rw [← HP.out]; rfl, (by repeat (first | with_reducible exact Below.refl _ _ | (with_reducible refine Below.setCell ?_ (by first | exact Nat.le_refl _ | omega | (simp; done) | (simp; omega)) _) | (with_reducible refine Below.alloc ?_ (by first | exact Nat.le_refl _ | omega | (simp; done) | (simp; omega)) _) | with_reducible refine Below.drew ?_ | with_reducible refine bel_drewN ?_ _ | (with_reducible refine bel_by (by with_reducible assumption) (by first | exact Nat.le_refl _ | omega | (simp; done) | (simp; omega)) ?_)))⟩
      · have g2 : decide (k ≥ (C.length : Int)) = false := decide_eq_false h2
        have hp := HP.out
        rw [if_neg h2] at hp
        replace HP := Lib.hid hp
        clear hp
        obtain ⟨j, rfl⟩ : ∃ j : Nat, k = (j : Int) := ⟨k.toNat, by omega⟩
        have hj : j < C.length := by omega
        have S := HS.out
        obtain rfl := S.ha (by omega)
        have sb := S.hb (by omega)
        have c0 := S.c0 j hj
        have c1 := S.c1 j hj
        have c2 := S.c2 j hj
        have c3 := S.c3 j hj
        have c4 := S.c4 j hj
        have hg : C.getD ((j : Int).toNat) ⟨⟨#[]⟩, ⟨#[]⟩, 0, ⟨#[]⟩, ⟨#[]⟩⟩ = C[j]'hj := by simp [List.getD, hj]
        replace HP := Lib.hid (show (C[j]'hj, (0 : Int)) = p by rw [← HP.out, hg])
        clear S hg
        generalize C[j]'hj = x at *
        obtain ⟨xc, xg, xn, xs, xl⟩ := x
        simp only [Nat.zero_add] at c0 c1 c2 c3 c4
        have l1 : (j : Int) < (C.length : Int) := by omega
        clear h0 h1 h2
        go_wp2_with fail
        change bodyPost _ _ _ _ _ _
        refine bodyPost_ret (v := .tuple #[.agg #[.string xc, .string xg, .int .i64 xn, .string xs, .string xl], .int .i64 0]) (by simp [results, Try.results47, go_sem, y0, y1, y2, y3, y4, yf, yl]) rfl ?_
        exact ⟨by rw [← HP.out]; rfl, (by repeat (first | with_reducible exact Below.refl _ _ | (with_reducible refine Below.setCell ?_ (by first | exact Nat.le_refl _ | omega | (simp; done) | (simp; omega)) _) | (with_reducible refine Below.alloc ?_ (by first | exact Nat.le_refl _ | omega | (simp; done) | (simp; omega)) _) | with_reducible refine Below.drew ?_ | with_reducible refine bel_drewN ?_ _ | (with_reducible refine bel_by (by with_reducible assumption) (by first | exact Nat.le_refl _ | omega | (simp; done) | (simp; omega)) ?_)))⟩
end Go.Proofs.Ytlleebgkglbelaa
