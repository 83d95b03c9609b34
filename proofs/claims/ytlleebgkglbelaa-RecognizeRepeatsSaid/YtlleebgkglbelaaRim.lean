/- Contracts of layer 20's reference: Item. -/
import Derived.Test.YtlleebgkglbelaaRrs
import Derived.Deep.RegionHeld3
set_option linter.unusedSimpArgs false
set_option linter.unusedVariables false
namespace Go.Proofs.Ytlleebgkglbelaa
open Go.RowKit

/-- what an item is worth, given the chain of its code -/
def ritS (C : List El) (x : It) : Rg :=
  if rsn C x = 0 then ⟨true, (C.getD x.d.toNat El.zero).c, (C.getD x.d.toNat El.zero).g, (C.getD x.d.toNat El.zero).s, (C.getD x.d.toNat El.zero).n, x.r, x.j⟩ else ⟨false, ⟨#[]⟩, ⟨#[]⟩, ⟨#[]⟩, 0, false, x.j⟩
theorem chF_fst {L : List El} : ∀ (n : Nat) (s : ByteArray) (C : List El), chF L n s = some C → ∀ x ∈ C, fstE L x.c = some x
  | 0, s, C, h => by rw [chF] at h; exact absurd h (by simp)
  | n + 1, s, C, h => by
    rw [chF] at h
    cases hx : fstE L s with
    | none =>
      rw [hx] at h
      simp only [Option.some.injEq] at h
      subst h
      intro x hx
      exact absurd hx (by simp)
    | some y =>
      rw [hx] at h
      simp only [Option.map_eq_some_iff] at h
      obtain ⟨B, hB, rfl⟩ := h
      intro x hm
      rcases List.mem_cons.1 hm with rfl | hm
      · rw [(fstE_mem hx).2]; exact hx
      · exact chF_fst n y.l B hB x hm
theorem wpAnyH_mono {P : Program} {ops : Array Oper} {Q : Exit → Act → World → Prop} {md : Region.Mode} {S S' : World → Prop} (hSS : ∀ w, S' w → S w) : ∀ (n : Nat) (l : Array Bool) (a : Act) (w : World), wpAnyH P md ops Q S' n l a w → wpAnyH P md ops Q S n l a w
  | 0, _, _, _, h => h
  | n + 1, _, _, _, h => ⟨h.1, fun i hi => wpOp_mono (fun a' w' x => ⟨hSS _ x.1, wpAnyH_mono hSS n _ a' w' x.2⟩) (h.2 i hi)⟩
theorem own_strs {w : World} {base n : Nat} {v : Value} {C : List El} (h : w.ownsRow base 9 1 v n (codC C)) (hn : C.length = n) {d : Nat} (hd : d < n) : ∃ g cv, v = .slice (some ⟨g, 0, none⟩) n cv ∧ w.cell? ⟨g, d, none⟩ = some (.string (C[d]'(by omega)).c) ∧ g < w.heap.size ∧ base ≤ g := by
  rcases h.2 with ⟨rfl, hh⟩ | ⟨g, cv, cur, rfl, _⟩
  · omega
  · refine ⟨g, cv, rfl, ?_, (h.lt g rfl).2, (h.lt g rfl).1⟩
    rw [h.cellAt d (by omega)]
    simp [codC, List.getElem?_map, List.getElem?_eq_getElem (show d < C.length by omega)]
theorem rsn_in {C : List El} {x : It} (h : rsn C x = 0) : ∃ (d : Nat) (hd : d < C.length), x.d = (d : Int) := by
  unfold rsn at h
  split at h
  · exact absurd h (by decide)
  · split at h
    · exact absurd h (by decide)
    · split at h
      · exact absurd h (by decide)
      · rename_i h1 h2 h3
        exact ⟨x.d.toNat, by omega, by omega⟩
set_option maxHeartbeats 8000000 in
set_option maxRecDepth 100000 in
theorem ritem_any {w : World} {c : Ct} (h : CtOk w c) (x : It) {n : Nat} {C : List El} (hC : chF c.E n x.c = some C) (hl : C.length ≤ 1000000) : Calls Try.prog 14 #[c.val, x.val] w (RgPost w (ritS C x)) := by
  have HOK := Lib.hid h
  have HRS := Lib.hid (fun W (hW : CtOk W c) => rreason_any hW x hC hl)
  have HCH := Lib.hid (fun W (hW : CtOk W c) => rchain_any hW x.c hC hl)
  have HEL := Lib.hid (fun W (s : ByteArray) (hW : CtOk W c) => relem_any hW s)
  have HFS := Lib.hid (fun x hx => idx_some (chF_fst n _ C hC x hx))
  have HIN := Lib.hid (fun (h : rsn C x = 0) => rsn_in h)
  have HN := ct_new w c 27
  have HI := it_new (w.alloc (.cells #[.slice c.ag c.ng c.cg, .slice c.ak c.nk c.ck, .slice c.ae c.ne c.ce, .slice c.ac c.nc c.cc] 27)) x 29
  rw [World.size_alloc] at HI
  have HZ := rg_new ((w.alloc (.cells #[.slice c.ag c.ng c.cg, .slice c.ak c.nk c.ck, .slice c.ae c.ne c.ce, .slice c.ac c.nc c.cc] 27)).alloc (.cells #[.string x.c, .int .i64 x.d, .bool x.r, .bool x.v, .bool x.j] 29)) Rg.zero 35
  rw [World.size_alloc, World.size_alloc] at HZ
  replace HI := Lib.hid (show ItAt (((w.alloc (.cells #[.slice c.ag c.ng c.cg, .slice c.ak c.nk c.ck, .slice c.ae c.ne c.ce, .slice c.ac c.nc c.cc] 27)).alloc (.cells #[.string x.c, .int .i64 x.d, .bool x.r, .bool x.v, .bool x.j] 29)).alloc (.cells #[.bool Rg.zero.k, .string Rg.zero.c, .string Rg.zero.g, .string Rg.zero.s, .int .i64 Rg.zero.n, .bool Rg.zero.r, .bool Rg.zero.j] 35)) _ _ from HI.keep ((Below.refl _ _).alloc (Nat.le_refl _) _))
  replace HN := Lib.hid (show CtAt (((w.alloc (.cells #[.slice c.ag c.ng c.cg, .slice c.ak c.nk c.ck, .slice c.ae c.ne c.ce, .slice c.ac c.nc c.cc] 27)).alloc (.cells #[.string x.c, .int .i64 x.d, .bool x.r, .bool x.v, .bool x.j] 29)).alloc (.cells #[.bool Rg.zero.k, .string Rg.zero.c, .string Rg.zero.g, .string Rg.zero.s, .int .i64 Rg.zero.n, .bool Rg.zero.r, .bool Rg.zero.j] 35)) _ _ from (HN.keep (show Below _ _ ((w.alloc (.cells #[.slice c.ag c.ng c.cg, .slice c.ak c.nk c.ck, .slice c.ae c.ne c.ce, .slice c.ac c.nc c.cc] 27)).alloc (.cells #[.string x.c, .int .i64 x.d, .bool x.r, .bool x.v, .bool x.j] 29)) from ((Below.refl _ _).alloc (Nat.le_refl _) _))).keep ((Below.refl _ _).alloc (Nat.le_refl _) _))
  replace HZ := Lib.hid HZ
  have HB0 := Lib.hid (show Below w.heap.size w (((w.alloc (.cells #[.slice c.ag c.ng c.cg, .slice c.ak c.nk c.ck, .slice c.ae c.ne c.ce, .slice c.ac c.nc c.cc] 27)).alloc (.cells #[.string x.c, .int .i64 x.d, .bool x.r, .bool x.v, .bool x.j] 29)).alloc (.cells #[.bool Rg.zero.k, .string Rg.zero.c, .string Rg.zero.g, .string Rg.zero.s, .int .i64 Rg.zero.n, .bool Rg.zero.r, .bool Rg.zero.j] 35)) from (by repeat (first | with_reducible exact Below.refl _ _ | (with_reducible refine Below.setCell ?_ (by first | exact Nat.le_refl _ | omega | (simp; done) | (simp; omega)) _) | (with_reducible refine Below.alloc ?_ (by first | exact Nat.le_refl _ | omega | (simp; done) | (simp; omega)) _) | with_reducible refine Below.drew ?_ | with_reducible refine bel_drewN ?_ _ | (with_reducible refine bel_by (by with_reducible assumption) (by first | exact Nat.le_refl _ | omega | (simp; done) | (simp; omega)) ?_))))
  unfold RchPost at HCH
  unfold RgPost
  obtain ⟨p, hp⟩ : ∃ p, ritS C x = p := ⟨_, rfl⟩
  rw [hp]
  unfold ritS at hp
  obtain ⟨r, hr⟩ : ∃ r, rsn C x = r := ⟨_, rfl⟩
  rw [hr] at HRS HIN hp
  have HP := Lib.hid hp
  clear h hC hr hp
  unfold Ct.val at HRS HCH HEL ⊢
  unfold It.val at HRS ⊢
  obtain ⟨ag, bg, og, ng, cg, ak, bk, ok, nk, ck, ae, be, oe, ne, ce, ac, bc, oc, nc, cc, G, K, E, X⟩ := c
  obtain ⟨xc, xd, xr, xv, xj⟩ := x
  simp only [Rg.zero] at HRS HCH HEL HN HI HZ HB0 HP HIN HFS ⊢
  go_enter Try.func14, Try.ntmps14
  go_wp2_with fail
  obtain ⟨z0, z1, z2, z3, zf, zl⟩ := HN.out
  obtain ⟨i0, i1, i2, i3, i4, iff, il⟩ := HI.out
  simp only at z0 z1 z2 z3 i0 i1 i2 i3 i4
  go_wp2_with fail
  refine (HRS.out _ (HOK.out.keep HB0.out)).mono ?_
  rintro e w1 ⟨rfl, hb1⟩
  have HB1 := Lib.hid (HB0.out.trans (hb1.mono HB0.out.size))
  have HZ1 := Lib.hid (HZ.out.keep hb1)
  have HI1 := Lib.hid (HI.out.keep hb1)
  have HN1 := Lib.hid (HN.out.keep hb1)
  have hsz1 : w.heap.size + 1 + 1 < w1.heap.size := HZ1.out.lt
  clear hb1 HB0 z0 z1 z2 z3 zf zl HN HZ i0 i1 i2 i3 i4 iff il HI
  by_cases h0 : r = 0
  · subst h0
    obtain ⟨d, hd, hdx⟩ := HIN.out rfl
    skip
    subst hdx
    have hp := HP.out
    rw [if_pos rfl, Int.toNat_natCast, show C.getD d El.zero = C[d]'hd by simp [List.getD, hd]] at hp
    obtain ⟨k, hk, hidx, hkx⟩ := HFS.out _ (List.getElem_mem hd)
    have HCD := Lib.hid (show ∀ (h : d < (codC C).length), (codC C)[d]'h = .string (C[d]'hd).c from fun h => by simp [codC])
    have hcl := codC_len C
    obtain ⟨y, hy⟩ : ∃ y, C[d]'hd = y := ⟨_, rfl⟩
    rw [hy] at hp hidx hkx HCD
    have HCX := Lib.hid (show (C[d]'hd).c = y.c by rw [hy])
    clear hy HP HIN
    obtain ⟨yc, yg, yn, ys, yl⟩ := y
    simp only at hp hidx HCD HCX
    have HP := Lib.hid hp
    clear hp
    have HOK1 := Lib.hid (HOK.out.keep HB1.out)
    have S := HOK1.out.e
    simp only at S
    have hSl := S.hl
    obtain rfl := S.ha (by omega)
    have sb := S.hb (by omega)
    have c0 := S.c0 k hk
    have c1 := S.c1 k hk
    have c2 := S.c2 k hk
    have c3 := S.c3 k hk
    have c4 := S.c4 k hk
    rw [hkx] at c0 c1 c2 c3 c4
    have HELX := Lib.hid (fun W hW => HEL.out W yc hW)
    simp only [hidx] at HELX
    have hkn : (k : Int) < (ne : Int) := by omega
    have hdn : (d : Int) < (C.length : Int) := by omega
    clear S hidx hkx
    obtain ⟨z0, z1, z2, z3, zf, zl⟩ := HN1.out
    obtain ⟨i0, i1, i2, i3, i4, iff, il⟩ := HI1.out
    simp only at z0 z1 z2 z3 i0 i1 i2 i3 i4 c0 c1 c2 c3 c4
    have HSS := Lib.hid (show ∀ w', Below w1.heap.size w1 w' → (w'.cell? ⟨w.heap.size, 0, none⟩ = some (.slice ag ng cg) ∧ w'.cell? ⟨w.heap.size, 1, none⟩ = some (.slice ak nk ck) ∧ w'.cell? ⟨w.heap.size, 2, none⟩ = some (.slice (some ⟨be, oe, none⟩) ne ce) ∧ w'.cell? ⟨w.heap.size, 3, none⟩ = some (.slice ac nc cc) ∧ w'.cell? ⟨w.heap.size + 1, 0, none⟩ = some (.string xc) ∧ w'.cell? ⟨w.heap.size + 1, 1, none⟩ = some (.int .i64 (d : Int)) ∧ w'.cell? ⟨be, oe + k * 5, none⟩ = some (.string yc) ∧ w'.cell? ⟨be, oe + k * 5 + 1, none⟩ = some (.string yg) ∧ w'.cell? ⟨be, oe + k * 5 + 2, none⟩ = some (.int .i64 yn) ∧ w'.cell? ⟨be, oe + k * 5 + 3, none⟩ = some (.string ys) ∧ w'.cell? ⟨be, oe + k * 5 + 4, none⟩ = some (.string yl)) from fun w' hB =>
      ⟨(hB.cell (p := ⟨w.heap.size, 0, none⟩) zl).trans z0, (hB.cell (p := ⟨w.heap.size, 1, none⟩) zl).trans z1, (hB.cell (p := ⟨w.heap.size, 2, none⟩) zl).trans z2, (hB.cell (p := ⟨w.heap.size, 3, none⟩) zl).trans z3, (hB.cell (p := ⟨w.heap.size + 1, 0, none⟩) il).trans i0, (hB.cell (p := ⟨w.heap.size + 1, 1, none⟩) il).trans i1, (hB.cell (p := ⟨be, oe + k * 5, none⟩) sb).trans c0, (hB.cell (p := ⟨be, oe + k * 5 + 1, none⟩) sb).trans c1, (hB.cell (p := ⟨be, oe + k * 5 + 2, none⟩) sb).trans c2, (hB.cell (p := ⟨be, oe + k * 5 + 3, none⟩) sb).trans c3, (hB.cell (p := ⟨be, oe + k * 5 + 4, none⟩) sb).trans c4⟩)
    clear z0 z1 z2 z3 zf i0 i1 i2 i3 i4 iff c0 c1 c2 c3 c4
    go_upto_region 3 with fail
    go_cut [5] (fun s5 wx => ∃ g : Nat, s5 = .pointer (some ⟨g, 0, none⟩) ∧ Hid (Below w1.heap.size w1 wx) ∧ Hid (ElAt wx g ⟨yc, yg, yn, ys, yl⟩))
    case first =>
      refine wp_region_held_drew (S := (fun w' => w'.cell? ⟨w.heap.size, 0, none⟩ = some (.slice ag ng cg) ∧ w'.cell? ⟨w.heap.size, 1, none⟩ = some (.slice ak nk ck) ∧ w'.cell? ⟨w.heap.size, 2, none⟩ = some (.slice (some ⟨be, oe, none⟩) ne ce) ∧ w'.cell? ⟨w.heap.size, 3, none⟩ = some (.slice ac nc cc) ∧ w'.cell? ⟨w.heap.size + 1, 0, none⟩ = some (.string xc) ∧ w'.cell? ⟨w.heap.size + 1, 1, none⟩ = some (.int .i64 (d : Int)) ∧ w'.cell? ⟨be, oe + k * 5, none⟩ = some (.string yc) ∧ w'.cell? ⟨be, oe + k * 5 + 1, none⟩ = some (.string yg) ∧ w'.cell? ⟨be, oe + k * 5 + 2, none⟩ = some (.int .i64 yn) ∧ w'.cell? ⟨be, oe + k * 5 + 3, none⟩ = some (.string ys) ∧ w'.cell? ⟨be, oe + k * 5 + 4, none⟩ = some (.string yl))) (by kernel_rfl) ?_ (fun hH => ?_)
      · exact HSS.out _ (show Below w1.heap.size w1 _ from (by repeat (first | with_reducible exact Below.refl _ _ | (with_reducible refine Below.setCell ?_ (by first | exact Nat.le_refl _ | omega | (simp; done) | (simp; omega)) _) | (with_reducible refine Below.alloc ?_ (by first | exact Nat.le_refl _ | omega | (simp; done) | (simp; omega)) _) | with_reducible refine Below.drew ?_ | with_reducible refine bel_drewN ?_ _ | (with_reducible refine bel_by (by with_reducible assumption) (by first | exact Nat.le_refl _ | omega | (simp; done) | (simp; omega)) ?_))))
      refine wpAnyH_take (i := 0) (v := .pointer (some ⟨w.heap.size, 2, none⟩)) rfl (by kernel_rfl) (by kernel_rfl) (by kernel_rfl) (fun _ _ _ h => h) (Or.inl ⟨by kernel_rfl, fun w' hw' => (by obtain ⟨t0, t1, t2, t3, t4, t5, t6, t7, t8, t9, t10⟩ := hw'; go_simp)⟩) hH ?_
      simp only [Act.put, List.setIfInBounds_toArray, List.set_cons_zero, List.set_cons_succ]
      refine wpAnyH_take (i := 1) (v := .slice (some ⟨be, oe, none⟩) ne ce) rfl (by kernel_rfl) (by kernel_rfl) (by kernel_rfl) (fun _ _ _ h => h) (Or.inl ⟨by kernel_rfl, fun w' hw' => (by obtain ⟨t0, t1, t2, t3, t4, t5, t6, t7, t8, t9, t10⟩ := hw'; go_simp)⟩) hH ?_
      simp only [Act.put, List.setIfInBounds_toArray, List.set_cons_zero, List.set_cons_succ]
      refine wpAnyH_take (i := 2) (v := .agg #[.slice ag ng cg, .slice ak nk ck, .slice (some ⟨be, oe, none⟩) ne ce, .slice ac nc cc]) rfl (by kernel_rfl) (by kernel_rfl) (by kernel_rfl) (fun _ _ _ h => h) (Or.inl ⟨by kernel_rfl, fun w' hw' => (by obtain ⟨t0, t1, t2, t3, t4, t5, t6, t7, t8, t9, t10⟩ := hw'; go_simp)⟩) hH ?_
      simp only [Act.put, List.setIfInBounds_toArray, List.set_cons_zero, List.set_cons_succ]
      refine wpAnyH_take (i := 3) (v := .agg #[.slice ag ng cg, .slice ak nk ck, .slice (some ⟨be, oe, none⟩) ne ce, .slice ac nc cc]) rfl (by kernel_rfl) (by kernel_rfl) (by kernel_rfl) (fun _ _ _ h => h) (Or.inl ⟨by kernel_rfl, fun w' hw' => (by obtain ⟨t0, t1, t2, t3, t4, t5, t6, t7, t8, t9, t10⟩ := hw'; go_simp)⟩) hH ?_
      simp only [Act.put, List.setIfInBounds_toArray, List.set_cons_zero, List.set_cons_succ]
      refine wpAnyH_take (i := 4) (v := .pointer (some ⟨w.heap.size + 1, 0, none⟩)) rfl (by kernel_rfl) (by kernel_rfl) (by kernel_rfl) (fun _ _ _ h => h) (Or.inl ⟨by kernel_rfl, fun w' hw' => (by obtain ⟨t0, t1, t2, t3, t4, t5, t6, t7, t8, t9, t10⟩ := hw'; go_simp)⟩) hH ?_
      simp only [Act.put, List.setIfInBounds_toArray, List.set_cons_zero, List.set_cons_succ]
      refine wpAnyH_take (i := 5) (v := .string xc) rfl (by kernel_rfl) (by kernel_rfl) (by kernel_rfl) (fun _ _ _ h => h) (Or.inl ⟨by kernel_rfl, fun w' hw' => (by obtain ⟨t0, t1, t2, t3, t4, t5, t6, t7, t8, t9, t10⟩ := hw'; go_simp)⟩) hH ?_
      simp only [Act.put, List.setIfInBounds_toArray, List.set_cons_zero, List.set_cons_succ]
      refine wpAnyH_take (i := 7) (v := .pointer (some ⟨w.heap.size + 1, 1, none⟩)) rfl (by kernel_rfl) (by kernel_rfl) (by kernel_rfl) (fun _ _ _ h => h) (Or.inl ⟨by kernel_rfl, fun w' hw' => (by obtain ⟨t0, t1, t2, t3, t4, t5, t6, t7, t8, t9, t10⟩ := hw'; go_simp)⟩) hH ?_
      simp only [Act.put, List.setIfInBounds_toArray, List.set_cons_zero, List.set_cons_succ]
      refine wpAnyH_take (i := 8) (v := .int .i64 (d : Int)) rfl (by kernel_rfl) (by kernel_rfl) (by kernel_rfl) (fun _ _ _ h => h) (Or.inl ⟨by kernel_rfl, fun w' hw' => (by obtain ⟨t0, t1, t2, t3, t4, t5, t6, t7, t8, t9, t10⟩ := hw'; go_simp)⟩) hH ?_
      simp only [Act.put, List.setIfInBounds_toArray, List.set_cons_zero, List.set_cons_succ]
      refine wpAnyH_ready (rs := [6, 14]) (by kernel_rfl) (by simp) ?_
      refine AllReadyH.cons rfl (fun K hK => ?_) (AllReadyH.cons rfl (fun K hK => ?_) AllReadyH.nil)
      ·
        go_simp
        refine (HCH.out w1.drew ?tab).mono ?_
        case tab => exact HOK1.out.keep (show Below w1.heap.size w1 _ from (by repeat (first | with_reducible exact Below.refl _ _ | (with_reducible refine Below.setCell ?_ (by first | exact Nat.le_refl _ | omega | (simp; done) | (simp; omega)) _) | (with_reducible refine Below.alloc ?_ (by first | exact Nat.le_refl _ | omega | (simp; done) | (simp; omega)) _) | with_reducible refine Below.drew ?_ | with_reducible refine bel_drewN ?_ _ | (with_reducible refine bel_by (by with_reducible assumption) (by first | exact Nat.le_refl _ | omega | (simp; done) | (simp; omega)) ?_))))
        rintro e w4 ⟨v4, rfl, ho4, hb4⟩
        obtain ⟨g4, cv4, rfl, hq4, hg4, hg5⟩ := own_strs ho4 rfl hd
        rw [HCX.out] at hq4
        have hBB4 : Below w1.heap.size w1 w4 := bel_by hb4 (by first | exact Nat.le_refl _ | (simp; done) | (simp; omega)) (show Below w1.heap.size w1 _ from (by repeat (first | with_reducible exact Below.refl _ _ | (with_reducible refine Below.setCell ?_ (by first | exact Nat.le_refl _ | omega | (simp; done) | (simp; omega)) _) | (with_reducible refine Below.alloc ?_ (by first | exact Nat.le_refl _ | omega | (simp; done) | (simp; omega)) _) | with_reducible refine Below.drew ?_ | with_reducible refine bel_drewN ?_ _ | (with_reducible refine bel_by (by with_reducible assumption) (by first | exact Nat.le_refl _ | omega | (simp; done) | (simp; omega)) ?_))))
        have hs4 := hBB4.size
        clear hb4 ho4
        try simp only []
        refine hK.out _ _ (HSS.out _ hBB4) (fun hH => ?_)
        clear hK K
        try simp only [Act.put, List.setIfInBounds_toArray, List.set_cons_zero, List.set_cons_succ]
        have HS2 := Lib.hid (show ∀ w', Below w4.heap.size w4 w' → (fun w' => w'.cell? ⟨w.heap.size, 0, none⟩ = some (.slice ag ng cg) ∧ w'.cell? ⟨w.heap.size, 1, none⟩ = some (.slice ak nk ck) ∧ w'.cell? ⟨w.heap.size, 2, none⟩ = some (.slice (some ⟨be, oe, none⟩) ne ce) ∧ w'.cell? ⟨w.heap.size, 3, none⟩ = some (.slice ac nc cc) ∧ w'.cell? ⟨w.heap.size + 1, 0, none⟩ = some (.string xc) ∧ w'.cell? ⟨w.heap.size + 1, 1, none⟩ = some (.int .i64 (d : Int)) ∧ w'.cell? ⟨be, oe + k * 5, none⟩ = some (.string yc) ∧ w'.cell? ⟨be, oe + k * 5 + 1, none⟩ = some (.string yg) ∧ w'.cell? ⟨be, oe + k * 5 + 2, none⟩ = some (.int .i64 yn) ∧ w'.cell? ⟨be, oe + k * 5 + 3, none⟩ = some (.string ys) ∧ w'.cell? ⟨be, oe + k * 5 + 4, none⟩ = some (.string yl) ∧ w'.cell? ⟨g4, d, none⟩ = some (.string yc)) w' from fun w' hB => by
          obtain ⟨t0, t1, t2, t3, t4, t5, t6, t7, t8, t9, t10⟩ := HSS.out w' (hBB4.trans (hB.mono hs4))
          exact ⟨t0, t1, t2, t3, t4, t5, t6, t7, t8, t9, t10, (hB.cell (p := ⟨g4, d, none⟩) hg4).trans hq4⟩)
        refine wpAnyH_mono (S' := (fun w' => w'.cell? ⟨w.heap.size, 0, none⟩ = some (.slice ag ng cg) ∧ w'.cell? ⟨w.heap.size, 1, none⟩ = some (.slice ak nk ck) ∧ w'.cell? ⟨w.heap.size, 2, none⟩ = some (.slice (some ⟨be, oe, none⟩) ne ce) ∧ w'.cell? ⟨w.heap.size, 3, none⟩ = some (.slice ac nc cc) ∧ w'.cell? ⟨w.heap.size + 1, 0, none⟩ = some (.string xc) ∧ w'.cell? ⟨w.heap.size + 1, 1, none⟩ = some (.int .i64 (d : Int)) ∧ w'.cell? ⟨be, oe + k * 5, none⟩ = some (.string yc) ∧ w'.cell? ⟨be, oe + k * 5 + 1, none⟩ = some (.string yg) ∧ w'.cell? ⟨be, oe + k * 5 + 2, none⟩ = some (.int .i64 yn) ∧ w'.cell? ⟨be, oe + k * 5 + 3, none⟩ = some (.string ys) ∧ w'.cell? ⟨be, oe + k * 5 + 4, none⟩ = some (.string yl) ∧ w'.cell? ⟨g4, d, none⟩ = some (.string yc))) (fun w' hw' => by obtain ⟨t0, t1, t2, t3, t4, t5, t6, t7, t8, t9, t10, t11⟩ := hw'; exact ⟨t0, t1, t2, t3, t4, t5, t6, t7, t8, t9, t10⟩) _ _ _ _ ?_
        replace hH := HS2.out w4 (Below.refl _ _)
        simp only at hH
        refine wpAnyH_take (i := 9) (v := .pointer (some ⟨g4, d, none⟩)) rfl (by kernel_rfl) (by kernel_rfl) (by kernel_rfl) (fun _ _ _ h => h) (Or.inl ⟨by kernel_rfl, fun w' hw' => (by obtain ⟨t0, t1, t2, t3, t4, t5, t6, t7, t8, t9, t10, t11⟩ := hw'; go_simp)⟩) hH ?_
        simp only [Act.put, List.setIfInBounds_toArray, List.set_cons_zero, List.set_cons_succ]
        refine wpAnyH_take (i := 10) (v := .string yc) rfl (by kernel_rfl) (by kernel_rfl) (by kernel_rfl) (fun _ _ _ h => h) (Or.inl ⟨by kernel_rfl, fun w' hw' => (by obtain ⟨t0, t1, t2, t3, t4, t5, t6, t7, t8, t9, t10, t11⟩ := hw'; go_simp)⟩) hH ?_
        simp only [Act.put, List.setIfInBounds_toArray, List.set_cons_zero, List.set_cons_succ]
        refine wpAnyH_ready (rs := [11, 14]) (by kernel_rfl) (by simp) ?_
        refine AllReadyH.cons rfl (fun K hK => ?_) (AllReadyH.cons rfl (fun K hK => ?_) AllReadyH.nil)
        ·
          go_simp
          refine (HELX.out w4 ?tab).mono ?_
          case tab => exact HOK1.out.keep (hBB4.trans ((show Below w4.heap.size w4 _ from (by repeat (first | with_reducible exact Below.refl _ _ | (with_reducible refine Below.setCell ?_ (by first | exact Nat.le_refl _ | omega | (simp; done) | (simp; omega)) _) | (with_reducible refine Below.alloc ?_ (by first | exact Nat.le_refl _ | omega | (simp; done) | (simp; omega)) _) | with_reducible refine Below.drew ?_ | with_reducible refine bel_drewN ?_ _ | (with_reducible refine bel_by (by with_reducible assumption) (by first | exact Nat.le_refl _ | omega | (simp; done) | (simp; omega)) ?_)))).mono hs4))
          rintro e w5 ⟨rfl, hb5⟩
          have hBB5 : Below w4.heap.size w4 w5 := bel_by hb5 (by first | exact Nat.le_refl _ | (simp; done) | (simp; omega)) (show Below w4.heap.size w4 _ from (by repeat (first | with_reducible exact Below.refl _ _ | (with_reducible refine Below.setCell ?_ (by first | exact Nat.le_refl _ | omega | (simp; done) | (simp; omega)) _) | (with_reducible refine Below.alloc ?_ (by first | exact Nat.le_refl _ | omega | (simp; done) | (simp; omega)) _) | with_reducible refine Below.drew ?_ | with_reducible refine bel_drewN ?_ _ | (with_reducible refine bel_by (by with_reducible assumption) (by first | exact Nat.le_refl _ | omega | (simp; done) | (simp; omega)) ?_))))
          have hs5 := hBB5.size
          clear hb5
          try simp only []
          refine hK.out _ _ (HS2.out _ hBB5) (fun hH => ?_)
          clear hK K
          try simp only [Act.put, List.setIfInBounds_toArray, List.set_cons_zero, List.set_cons_succ]
          refine wpAnyH_take (i := 12) (v := .pointer (some ⟨be, oe + k * 5, none⟩)) rfl (by kernel_rfl) (by kernel_rfl) (by kernel_rfl) (fun _ _ _ h => h) (Or.inl ⟨by kernel_rfl, fun w' hw' => (by obtain ⟨t0, t1, t2, t3, t4, t5, t6, t7, t8, t9, t10, t11⟩ := hw'; go_simp)⟩) hH ?_
          simp only [Act.put, List.setIfInBounds_toArray, List.set_cons_zero, List.set_cons_succ]
          refine wpAnyH_take (i := 13) (v := .agg #[.string yc, .string yg, .int .i64 yn, .string ys, .string yl]) rfl (by kernel_rfl) (by kernel_rfl) (by kernel_rfl) (fun _ _ _ h => h) (Or.inl ⟨by kernel_rfl, fun w' hw' => (by obtain ⟨t0, t1, t2, t3, t4, t5, t6, t7, t8, t9, t10, t11⟩ := hw'; go_simp)⟩) hH ?_
          simp only [Act.put, List.setIfInBounds_toArray, List.set_cons_zero, List.set_cons_succ]
          refine wpAnyH_ready (rs := [14]) (by kernel_rfl) (by simp) ?_
          refine AllReadyH.cons rfl (fun K hK => ?_) AllReadyH.nil
          go_simp
          refine hK.out _ _ (HS2.out _ (show Below w4.heap.size w4 _ from (by repeat (first | with_reducible exact Below.refl _ _ | (with_reducible refine Below.setCell ?_ (by first | exact Nat.le_refl _ | omega | (simp; done) | (simp; omega)) _) | (with_reducible refine Below.alloc ?_ (by first | exact Nat.le_refl _ | omega | (simp; done) | (simp; omega)) _) | with_reducible refine Below.drew ?_ | with_reducible refine bel_drewN ?_ _ | (with_reducible refine bel_by (by with_reducible assumption) (by first | exact Nat.le_refl _ | omega | (simp; done) | (simp; omega)) ?_))))) (fun hH => ?_)
          clear hK K
          try simp only [Act.put, List.setIfInBounds_toArray, List.set_cons_zero, List.set_cons_succ]
          refine wpAnyH_ready (rs := [15]) (by kernel_rfl) (by simp) ?_
          refine AllReadyH.cons rfl (fun K hK => ?_) AllReadyH.nil
          go_simp
          refine hK.out _ _ (HS2.out _ (show Below w4.heap.size w4 _ from (by repeat (first | with_reducible exact Below.refl _ _ | (with_reducible refine Below.setCell ?_ (by first | exact Nat.le_refl _ | omega | (simp; done) | (simp; omega)) _) | (with_reducible refine Below.alloc ?_ (by first | exact Nat.le_refl _ | omega | (simp; done) | (simp; omega)) _) | with_reducible refine Below.drew ?_ | with_reducible refine bel_drewN ?_ _ | (with_reducible refine bel_by (by with_reducible assumption) (by first | exact Nat.le_refl _ | omega | (simp; done) | (simp; omega)) ?_))))) (fun hH => ?_)
          clear hK K
          try simp only [Act.put, List.setIfInBounds_toArray, List.set_cons_zero, List.set_cons_succ]
          refine wpAnyH_done (by kernel_rfl) ?_ _
          go_wp2_with fail
          go_meet
          refine ⟨_, rfl, Lib.hid (hBB4.trans ((show Below w4.heap.size w4 _ from (by repeat (first | with_reducible exact Below.refl _ _ | (with_reducible refine Below.setCell ?_ (by first | exact Nat.le_refl _ | omega | (simp; done) | (simp; omega)) _) | (with_reducible refine Below.alloc ?_ (by first | exact Nat.le_refl _ | omega | (simp; done) | (simp; omega)) _) | with_reducible refine Below.drew ?_ | with_reducible refine bel_drewN ?_ _ | (with_reducible refine bel_by (by with_reducible assumption) (by first | exact Nat.le_refl _ | omega | (simp; done) | (simp; omega)) ?_)))).mono hs4)), ?_⟩
          exact Lib.hid (el_new _ ⟨yc, yg, yn, ys, yl⟩ _)
        ·
          go_simp
          refine hK.out _ _ (HS2.out _ (show Below w4.heap.size w4 _ from (by repeat (first | with_reducible exact Below.refl _ _ | (with_reducible refine Below.setCell ?_ (by first | exact Nat.le_refl _ | omega | (simp; done) | (simp; omega)) _) | (with_reducible refine Below.alloc ?_ (by first | exact Nat.le_refl _ | omega | (simp; done) | (simp; omega)) _) | with_reducible refine Below.drew ?_ | with_reducible refine bel_drewN ?_ _ | (with_reducible refine bel_by (by with_reducible assumption) (by first | exact Nat.le_refl _ | omega | (simp; done) | (simp; omega)) ?_))))) (fun hH => ?_)
          clear hK K
          try simp only [Act.put, List.setIfInBounds_toArray, List.set_cons_zero, List.set_cons_succ]
          refine wpAnyH_ready (rs := [11]) (by kernel_rfl) (by simp) ?_
          refine AllReadyH.cons rfl (fun K hK => ?_) AllReadyH.nil
          go_simp
          refine (HELX.out (w4.alloc (.cells #[.string ⟨#[]⟩, .string ⟨#[]⟩, .int .i64 0, .string ⟨#[]⟩, .string ⟨#[]⟩] 66)) ?tab).mono ?_
          case tab => exact HOK1.out.keep (hBB4.trans ((show Below w4.heap.size w4 _ from (by repeat (first | with_reducible exact Below.refl _ _ | (with_reducible refine Below.setCell ?_ (by first | exact Nat.le_refl _ | omega | (simp; done) | (simp; omega)) _) | (with_reducible refine Below.alloc ?_ (by first | exact Nat.le_refl _ | omega | (simp; done) | (simp; omega)) _) | with_reducible refine Below.drew ?_ | with_reducible refine bel_drewN ?_ _ | (with_reducible refine bel_by (by with_reducible assumption) (by first | exact Nat.le_refl _ | omega | (simp; done) | (simp; omega)) ?_)))).mono hs4))
          rintro e w5 ⟨rfl, hb5⟩
          have hBB5 : Below w4.heap.size w4 w5 := bel_by hb5 (by first | exact Nat.le_refl _ | (simp; done) | (simp; omega)) (show Below w4.heap.size w4 _ from (by repeat (first | with_reducible exact Below.refl _ _ | (with_reducible refine Below.setCell ?_ (by first | exact Nat.le_refl _ | omega | (simp; done) | (simp; omega)) _) | (with_reducible refine Below.alloc ?_ (by first | exact Nat.le_refl _ | omega | (simp; done) | (simp; omega)) _) | with_reducible refine Below.drew ?_ | with_reducible refine bel_drewN ?_ _ | (with_reducible refine bel_by (by with_reducible assumption) (by first | exact Nat.le_refl _ | omega | (simp; done) | (simp; omega)) ?_))))
          have hs5 := hBB5.size
          have hz5 : ElAt w5 w4.heap.size El.zero := (el_new w4 El.zero 66).keep hb5
          clear hb5
          try simp only []
          refine hK.out _ _ (HS2.out _ hBB5) (fun hH => ?_)
          clear hK K
          try simp only [Act.put, List.setIfInBounds_toArray, List.set_cons_zero, List.set_cons_succ]
          refine wpAnyH_take (i := 12) (v := .pointer (some ⟨be, oe + k * 5, none⟩)) rfl (by kernel_rfl) (by kernel_rfl) (by kernel_rfl) (fun _ _ _ h => h) (Or.inl ⟨by kernel_rfl, fun w' hw' => (by obtain ⟨t0, t1, t2, t3, t4, t5, t6, t7, t8, t9, t10, t11⟩ := hw'; go_simp)⟩) hH ?_
          simp only [Act.put, List.setIfInBounds_toArray, List.set_cons_zero, List.set_cons_succ]
          refine wpAnyH_take (i := 13) (v := .agg #[.string yc, .string yg, .int .i64 yn, .string ys, .string yl]) rfl (by kernel_rfl) (by kernel_rfl) (by kernel_rfl) (fun _ _ _ h => h) (Or.inl ⟨by kernel_rfl, fun w' hw' => (by obtain ⟨t0, t1, t2, t3, t4, t5, t6, t7, t8, t9, t10, t11⟩ := hw'; go_simp)⟩) hH ?_
          simp only [Act.put, List.setIfInBounds_toArray, List.set_cons_zero, List.set_cons_succ]
          refine wpAnyH_ready (rs := [15]) (by kernel_rfl) (by simp) ?_
          refine AllReadyH.cons rfl (fun K hK => ?_) AllReadyH.nil
          have HZ5 := Lib.hid hz5
          obtain ⟨f0, f1, f2, f3, f4, ff, fl⟩ := hz5
          simp only [El.zero] at f0 f1 f2 f3 f4
          go_simp
          refine hK.out _ _ (HS2.out _ (show Below w4.heap.size w4 _ from (by repeat (first | with_reducible exact Below.refl _ _ | (with_reducible refine Below.setCell ?_ (by first | exact Nat.le_refl _ | omega | (simp; done) | (simp; omega)) _) | (with_reducible refine Below.alloc ?_ (by first | exact Nat.le_refl _ | omega | (simp; done) | (simp; omega)) _) | with_reducible refine Below.drew ?_ | with_reducible refine bel_drewN ?_ _ | (with_reducible refine bel_by (by with_reducible assumption) (by first | exact Nat.le_refl _ | omega | (simp; done) | (simp; omega)) ?_))))) (fun hH => ?_)
          clear hK K
          try simp only [Act.put, List.setIfInBounds_toArray, List.set_cons_zero, List.set_cons_succ]
          refine wpAnyH_done (by kernel_rfl) ?_ _
          go_wp2_with fail
          go_meet
          refine ⟨_, rfl, Lib.hid (hBB4.trans ((show Below w4.heap.size w4 _ from (by repeat (first | with_reducible exact Below.refl _ _ | (with_reducible refine Below.setCell ?_ (by first | exact Nat.le_refl _ | omega | (simp; done) | (simp; omega)) _) | (with_reducible refine Below.alloc ?_ (by first | exact Nat.le_refl _ | omega | (simp; done) | (simp; omega)) _) | with_reducible refine Below.drew ?_ | with_reducible refine bel_drewN ?_ _ | (with_reducible refine bel_by (by with_reducible assumption) (by first | exact Nat.le_refl _ | omega | (simp; done) | (simp; omega)) ?_)))).mono hs4)), ?_⟩
          exact Lib.hid (el_set HZ5.out ⟨yc, yg, yn, ys, yl⟩)
      ·
        go_simp
        refine hK.out _ _ (HSS.out _ (show Below w1.heap.size w1 _ from (by repeat (first | with_reducible exact Below.refl _ _ | (with_reducible refine Below.setCell ?_ (by first | exact Nat.le_refl _ | omega | (simp; done) | (simp; omega)) _) | (with_reducible refine Below.alloc ?_ (by first | exact Nat.le_refl _ | omega | (simp; done) | (simp; omega)) _) | with_reducible refine Below.drew ?_ | with_reducible refine bel_drewN ?_ _ | (with_reducible refine bel_by (by with_reducible assumption) (by first | exact Nat.le_refl _ | omega | (simp; done) | (simp; omega)) ?_))))) (fun hH => ?_)
        clear hK K
        try simp only [Act.put, List.setIfInBounds_toArray, List.set_cons_zero, List.set_cons_succ]
        refine wpAnyH_ready (rs := [6]) (by kernel_rfl) (by simp) ?_
        refine AllReadyH.cons rfl (fun K hK => ?_) AllReadyH.nil
        go_simp
        refine (HCH.out (w1.drew.alloc (.cells #[.string ⟨#[]⟩, .string ⟨#[]⟩, .int .i64 0, .string ⟨#[]⟩, .string ⟨#[]⟩] 66)) ?tab).mono ?_
        case tab => exact HOK1.out.keep (show Below w1.heap.size w1 _ from (by repeat (first | with_reducible exact Below.refl _ _ | (with_reducible refine Below.setCell ?_ (by first | exact Nat.le_refl _ | omega | (simp; done) | (simp; omega)) _) | (with_reducible refine Below.alloc ?_ (by first | exact Nat.le_refl _ | omega | (simp; done) | (simp; omega)) _) | with_reducible refine Below.drew ?_ | with_reducible refine bel_drewN ?_ _ | (with_reducible refine bel_by (by with_reducible assumption) (by first | exact Nat.le_refl _ | omega | (simp; done) | (simp; omega)) ?_))))
        rintro e w4 ⟨v4, rfl, ho4, hb4⟩
        obtain ⟨g4, cv4, rfl, hq4, hg4, hg5⟩ := own_strs ho4 rfl hd
        rw [HCX.out] at hq4
        have hBB4 : Below w1.heap.size w1 w4 := bel_by hb4 (by first | exact Nat.le_refl _ | (simp; done) | (simp; omega)) (show Below w1.heap.size w1 _ from (by repeat (first | with_reducible exact Below.refl _ _ | (with_reducible refine Below.setCell ?_ (by first | exact Nat.le_refl _ | omega | (simp; done) | (simp; omega)) _) | (with_reducible refine Below.alloc ?_ (by first | exact Nat.le_refl _ | omega | (simp; done) | (simp; omega)) _) | with_reducible refine Below.drew ?_ | with_reducible refine bel_drewN ?_ _ | (with_reducible refine bel_by (by with_reducible assumption) (by first | exact Nat.le_refl _ | omega | (simp; done) | (simp; omega)) ?_))))
        have hs4 := hBB4.size
        rw [World.size_alloc] at hg5
        have hg6 : w1.heap.size + 1 ≤ g4 := hg5
        have hz4 : ElAt w4 w1.heap.size El.zero := (el_new w1.drew El.zero 66).keep hb4
        clear hb4 ho4
        try simp only []
        refine hK.out _ _ (HSS.out _ hBB4) (fun hH => ?_)
        clear hK K
        try simp only [Act.put, List.setIfInBounds_toArray, List.set_cons_zero, List.set_cons_succ]
        have HS2 := Lib.hid (show ∀ w', Below w4.heap.size w4 w' → (fun w' => w'.cell? ⟨w.heap.size, 0, none⟩ = some (.slice ag ng cg) ∧ w'.cell? ⟨w.heap.size, 1, none⟩ = some (.slice ak nk ck) ∧ w'.cell? ⟨w.heap.size, 2, none⟩ = some (.slice (some ⟨be, oe, none⟩) ne ce) ∧ w'.cell? ⟨w.heap.size, 3, none⟩ = some (.slice ac nc cc) ∧ w'.cell? ⟨w.heap.size + 1, 0, none⟩ = some (.string xc) ∧ w'.cell? ⟨w.heap.size + 1, 1, none⟩ = some (.int .i64 (d : Int)) ∧ w'.cell? ⟨be, oe + k * 5, none⟩ = some (.string yc) ∧ w'.cell? ⟨be, oe + k * 5 + 1, none⟩ = some (.string yg) ∧ w'.cell? ⟨be, oe + k * 5 + 2, none⟩ = some (.int .i64 yn) ∧ w'.cell? ⟨be, oe + k * 5 + 3, none⟩ = some (.string ys) ∧ w'.cell? ⟨be, oe + k * 5 + 4, none⟩ = some (.string yl) ∧ w'.cell? ⟨g4, d, none⟩ = some (.string yc)) w' from fun w' hB => by
          obtain ⟨t0, t1, t2, t3, t4, t5, t6, t7, t8, t9, t10⟩ := HSS.out w' (hBB4.trans (hB.mono hs4))
          exact ⟨t0, t1, t2, t3, t4, t5, t6, t7, t8, t9, t10, (hB.cell (p := ⟨g4, d, none⟩) hg4).trans hq4⟩)
        refine wpAnyH_mono (S' := (fun w' => w'.cell? ⟨w.heap.size, 0, none⟩ = some (.slice ag ng cg) ∧ w'.cell? ⟨w.heap.size, 1, none⟩ = some (.slice ak nk ck) ∧ w'.cell? ⟨w.heap.size, 2, none⟩ = some (.slice (some ⟨be, oe, none⟩) ne ce) ∧ w'.cell? ⟨w.heap.size, 3, none⟩ = some (.slice ac nc cc) ∧ w'.cell? ⟨w.heap.size + 1, 0, none⟩ = some (.string xc) ∧ w'.cell? ⟨w.heap.size + 1, 1, none⟩ = some (.int .i64 (d : Int)) ∧ w'.cell? ⟨be, oe + k * 5, none⟩ = some (.string yc) ∧ w'.cell? ⟨be, oe + k * 5 + 1, none⟩ = some (.string yg) ∧ w'.cell? ⟨be, oe + k * 5 + 2, none⟩ = some (.int .i64 yn) ∧ w'.cell? ⟨be, oe + k * 5 + 3, none⟩ = some (.string ys) ∧ w'.cell? ⟨be, oe + k * 5 + 4, none⟩ = some (.string yl) ∧ w'.cell? ⟨g4, d, none⟩ = some (.string yc))) (fun w' hw' => by obtain ⟨t0, t1, t2, t3, t4, t5, t6, t7, t8, t9, t10, t11⟩ := hw'; exact ⟨t0, t1, t2, t3, t4, t5, t6, t7, t8, t9, t10⟩) _ _ _ _ ?_
        replace hH := HS2.out w4 (Below.refl _ _)
        simp only at hH
        refine wpAnyH_take (i := 9) (v := .pointer (some ⟨g4, d, none⟩)) rfl (by kernel_rfl) (by kernel_rfl) (by kernel_rfl) (fun _ _ _ h => h) (Or.inl ⟨by kernel_rfl, fun w' hw' => (by obtain ⟨t0, t1, t2, t3, t4, t5, t6, t7, t8, t9, t10, t11⟩ := hw'; go_simp)⟩) hH ?_
        simp only [Act.put, List.setIfInBounds_toArray, List.set_cons_zero, List.set_cons_succ]
        refine wpAnyH_take (i := 10) (v := .string yc) rfl (by kernel_rfl) (by kernel_rfl) (by kernel_rfl) (fun _ _ _ h => h) (Or.inl ⟨by kernel_rfl, fun w' hw' => (by obtain ⟨t0, t1, t2, t3, t4, t5, t6, t7, t8, t9, t10, t11⟩ := hw'; go_simp)⟩) hH ?_
        simp only [Act.put, List.setIfInBounds_toArray, List.set_cons_zero, List.set_cons_succ]
        refine wpAnyH_ready (rs := [11]) (by kernel_rfl) (by simp) ?_
        refine AllReadyH.cons rfl (fun K hK => ?_) AllReadyH.nil
        go_simp
        refine (HELX.out w4 ?tab).mono ?_
        case tab => exact HOK1.out.keep (hBB4.trans ((show Below w4.heap.size w4 _ from (by repeat (first | with_reducible exact Below.refl _ _ | (with_reducible refine Below.setCell ?_ (by first | exact Nat.le_refl _ | omega | (simp; done) | (simp; omega)) _) | (with_reducible refine Below.alloc ?_ (by first | exact Nat.le_refl _ | omega | (simp; done) | (simp; omega)) _) | with_reducible refine Below.drew ?_ | with_reducible refine bel_drewN ?_ _ | (with_reducible refine bel_by (by with_reducible assumption) (by first | exact Nat.le_refl _ | omega | (simp; done) | (simp; omega)) ?_)))).mono hs4))
        rintro e w5 ⟨rfl, hb5⟩
        have hBB5 : Below w4.heap.size w4 w5 := bel_by hb5 (by first | exact Nat.le_refl _ | (simp; done) | (simp; omega)) (show Below w4.heap.size w4 _ from (by repeat (first | with_reducible exact Below.refl _ _ | (with_reducible refine Below.setCell ?_ (by first | exact Nat.le_refl _ | omega | (simp; done) | (simp; omega)) _) | (with_reducible refine Below.alloc ?_ (by first | exact Nat.le_refl _ | omega | (simp; done) | (simp; omega)) _) | with_reducible refine Below.drew ?_ | with_reducible refine bel_drewN ?_ _ | (with_reducible refine bel_by (by with_reducible assumption) (by first | exact Nat.le_refl _ | omega | (simp; done) | (simp; omega)) ?_))))
        have hs5 := hBB5.size
        have hz5 := hz4.keep hb5
        clear hb5
        try simp only []
        refine hK.out _ _ (HS2.out _ hBB5) (fun hH => ?_)
        clear hK K
        try simp only [Act.put, List.setIfInBounds_toArray, List.set_cons_zero, List.set_cons_succ]
        refine wpAnyH_take (i := 12) (v := .pointer (some ⟨be, oe + k * 5, none⟩)) rfl (by kernel_rfl) (by kernel_rfl) (by kernel_rfl) (fun _ _ _ h => h) (Or.inl ⟨by kernel_rfl, fun w' hw' => (by obtain ⟨t0, t1, t2, t3, t4, t5, t6, t7, t8, t9, t10, t11⟩ := hw'; go_simp)⟩) hH ?_
        simp only [Act.put, List.setIfInBounds_toArray, List.set_cons_zero, List.set_cons_succ]
        refine wpAnyH_take (i := 13) (v := .agg #[.string yc, .string yg, .int .i64 yn, .string ys, .string yl]) rfl (by kernel_rfl) (by kernel_rfl) (by kernel_rfl) (fun _ _ _ h => h) (Or.inl ⟨by kernel_rfl, fun w' hw' => (by obtain ⟨t0, t1, t2, t3, t4, t5, t6, t7, t8, t9, t10, t11⟩ := hw'; go_simp)⟩) hH ?_
        simp only [Act.put, List.setIfInBounds_toArray, List.set_cons_zero, List.set_cons_succ]
        refine wpAnyH_ready (rs := [15]) (by kernel_rfl) (by simp) ?_
        refine AllReadyH.cons rfl (fun K hK => ?_) AllReadyH.nil
        have HZ5 := Lib.hid hz5
        obtain ⟨f0, f1, f2, f3, f4, ff, fl⟩ := hz5
        simp only [El.zero] at f0 f1 f2 f3 f4
        go_simp
        have hBB15 : Below w1.heap.size w1 w5 := hBB4.trans (hBB5.mono hs4)
        have hq5 := (hBB5.cell (p := ⟨g4, d, none⟩) hg4).trans hq4
        have hgn : ∀ t : Nat, (⟨w1.heap.size, t, none⟩ : Addr).block ≠ (⟨g4, d, none⟩ : Addr).block := fun t e => by have e2 : w1.heap.size = g4 := e; omega
        refine hK.out _ _ (by obtain ⟨t0, t1, t2, t3, t4, t5, t6, t7, t8, t9, t10⟩ := HSS.out _ (show Below w1.heap.size w1 (((((w5.setCell ⟨w1.heap.size, 0, none⟩ (.string yc)).setCell ⟨w1.heap.size, 1, none⟩ (.string yg)).setCell ⟨w1.heap.size, 2, none⟩ (.int .i64 yn)).setCell ⟨w1.heap.size, 3, none⟩ (.string ys)).setCell ⟨w1.heap.size, 4, none⟩ (.string yl)) from (((((hBB15.setCell (Nat.le_refl _) _).setCell (Nat.le_refl _) _).setCell (Nat.le_refl _) _).setCell (Nat.le_refl _) _).setCell (Nat.le_refl _) _)); exact ⟨t0, t1, t2, t3, t4, t5, t6, t7, t8, t9, t10, by rw [World.cell?_setCell_far _ _ _ _ (hgn 4), World.cell?_setCell_far _ _ _ _ (hgn 3), World.cell?_setCell_far _ _ _ _ (hgn 2), World.cell?_setCell_far _ _ _ _ (hgn 1), World.cell?_setCell_far _ _ _ _ (hgn 0)]; exact hq5⟩) (fun hH => ?_)
        clear hK K
        try simp only [Act.put, List.setIfInBounds_toArray, List.set_cons_zero, List.set_cons_succ]
        refine wpAnyH_done (by kernel_rfl) ?_ _
        go_wp2_with fail
        go_meet
        refine ⟨_, rfl, Lib.hid (show Below w1.heap.size w1 (((((w5.setCell ⟨w1.heap.size, 0, none⟩ (.string yc)).setCell ⟨w1.heap.size, 1, none⟩ (.string yg)).setCell ⟨w1.heap.size, 2, none⟩ (.int .i64 yn)).setCell ⟨w1.heap.size, 3, none⟩ (.string ys)).setCell ⟨w1.heap.size, 4, none⟩ (.string yl)) from (((((hBB15.setCell (Nat.le_refl _) _).setCell (Nat.le_refl _) _).setCell (Nat.le_refl _) _).setCell (Nat.le_refl _) _).setCell (Nat.le_refl _) _)), ?_⟩
        exact Lib.hid (el_set HZ5.out ⟨yc, yg, yn, ys, yl⟩)
    case rest =>
      obtain ⟨g, rfl, HBC, HG⟩ := hcut
      generalize wc = w9 at *
      have HB9 := Lib.hid (HB1.out.trans (HBC.out.mono HB1.out.size))
      have HZ9 := Lib.hid (HZ1.out.keep HBC.out)
      have HI9 := Lib.hid (HI1.out.keep HBC.out)
      clear HBC
      obtain ⟨i0, i1, i2, i3, i4, iff, il⟩ := HI9.out
      obtain ⟨u0, u1, u2, u3, u4, u5, u6, uf, ul⟩ := HZ9.out
      obtain ⟨v0, v1, v2, v3, v4, vf, vl⟩ := HG.out
      simp only at i0 i1 i2 i3 i4 v0 v1 v2 v3 v4 u0 u1 u2 u3 u4 u5 u6
      go_wp2_with fail
      change bodyPost _ _ _ _ _ (((((((w9.setCell ⟨w.heap.size + 1 + 1, 0, none⟩ (.bool true)).setCell ⟨w.heap.size + 1 + 1, 1, none⟩ (.string yc)).setCell ⟨w.heap.size + 1 + 1, 2, none⟩ (.string yg)).setCell ⟨w.heap.size + 1 + 1, 3, none⟩ (.string ys)).setCell ⟨w.heap.size + 1 + 1, 4, none⟩ (.int .i64 yn)).setCell ⟨w.heap.size + 1 + 1, 5, none⟩ (.bool xr)).setCell ⟨w.heap.size + 1 + 1, 6, none⟩ (.bool xj))
      obtain ⟨HF, HB5⟩ := st_rg0 HB9.out HZ9.out (show w.heap.size ≤ w.heap.size + 1 + 1 by omega) ⟨true, yc, yg, ys, yn, xr, xj⟩
      simp only at HF HB5
      generalize (((((((w9.setCell ⟨w.heap.size + 1 + 1, 0, none⟩ (.bool true)).setCell ⟨w.heap.size + 1 + 1, 1, none⟩ (.string yc)).setCell ⟨w.heap.size + 1 + 1, 2, none⟩ (.string yg)).setCell ⟨w.heap.size + 1 + 1, 3, none⟩ (.string ys)).setCell ⟨w.heap.size + 1 + 1, 4, none⟩ (.int .i64 yn)).setCell ⟨w.heap.size + 1 + 1, 5, none⟩ (.bool xr)).setCell ⟨w.heap.size + 1 + 1, 6, none⟩ (.bool xj)) = W5 at HF HB5 ⊢
      obtain ⟨f0, f1, f2, f3, f4, f5, f6, ff, fl⟩ := HF
      simp only at f0 f1 f2 f3 f4 f5 f6
      refine bodyPost_ret (v := .agg #[.bool true, .string yc, .string yg, .string ys, .int .i64 yn, .bool xr, .bool xj]) (by simp [results, Try.results14, go_sem, f0, f1, f2, f3, f4, f5, f6]) rfl ?_
      exact ⟨by rw [← HP.out]; rfl, HB5⟩
  · have hp := HP.out
    rw [if_neg h0] at hp
    have HQ := Lib.hid hp
    clear hp
    have k0 : (r == 0) = false := by simpa using h0
    have k1 : (r != 0) = true := by simpa using h0
    clear h0
    obtain ⟨i0, i1, i2, i3, i4, iff, il⟩ := HI1.out
    obtain ⟨u0, u1, u2, u3, u4, u5, u6, uf, ul⟩ := HZ1.out
    simp only at i0 i1 i2 i3 i4 u0 u1 u2 u3 u4 u5 u6
    go_wp2_with fail
    change bodyPost _ _ _ _ _ (((((((w1.setCell ⟨w.heap.size + 1 + 1, 0, none⟩ (.bool false)).setCell ⟨w.heap.size + 1 + 1, 1, none⟩ (.string ⟨#[]⟩)).setCell ⟨w.heap.size + 1 + 1, 2, none⟩ (.string ⟨#[]⟩)).setCell ⟨w.heap.size + 1 + 1, 3, none⟩ (.string ⟨#[]⟩)).setCell ⟨w.heap.size + 1 + 1, 4, none⟩ (.int .i64 0)).setCell ⟨w.heap.size + 1 + 1, 5, none⟩ (.bool false)).setCell ⟨w.heap.size + 1 + 1, 6, none⟩ (.bool xj))
    obtain ⟨HF, HB5⟩ := st_rg0 HB1.out HZ1.out (show w.heap.size ≤ w.heap.size + 1 + 1 by omega) ⟨false, ⟨#[]⟩, ⟨#[]⟩, ⟨#[]⟩, 0, false, xj⟩
    simp only at HF HB5
    generalize (((((((w1.setCell ⟨w.heap.size + 1 + 1, 0, none⟩ (.bool false)).setCell ⟨w.heap.size + 1 + 1, 1, none⟩ (.string ⟨#[]⟩)).setCell ⟨w.heap.size + 1 + 1, 2, none⟩ (.string ⟨#[]⟩)).setCell ⟨w.heap.size + 1 + 1, 3, none⟩ (.string ⟨#[]⟩)).setCell ⟨w.heap.size + 1 + 1, 4, none⟩ (.int .i64 0)).setCell ⟨w.heap.size + 1 + 1, 5, none⟩ (.bool false)).setCell ⟨w.heap.size + 1 + 1, 6, none⟩ (.bool xj)) = W5 at HF HB5 ⊢
    obtain ⟨f0, f1, f2, f3, f4, f5, f6, ff, fl⟩ := HF
    simp only at f0 f1 f2 f3 f4 f5 f6
    refine bodyPost_ret (v := .agg #[.bool false, .string ⟨#[]⟩, .string ⟨#[]⟩, .string ⟨#[]⟩, .int .i64 0, .bool false, .bool xj]) (by simp [results, Try.results14, go_sem, f0, f1, f2, f3, f4, f5, f6]) rfl ?_
    exact ⟨by rw [← HQ.out]; rfl, HB5⟩
end Go.Proofs.Ytlleebgkglbelaa
