/- The law of RecognizeLoses. -/
import Derived.Test.YtlleebgkglbelaaAwk
import Derived.Test.YtlleebgkglbelaaPlv
import Derived.Test.YtlleebgkglbelaaRfl
import Derived.Test.YtlleebgkglbelaaChx
import Derived.BigQuiet
import Derived.Deep.RegionHeld3
set_option linter.unusedSimpArgs false
set_option linter.unusedVariables false
namespace Go.Proofs.Ytlleebgkglbelaa
open Go.RowKit

theorem lost_pos {E : List El} (h : FitE E) (hv : ValE E) : ∀ (L : List It), (∀ x ∈ L, 0 ≤ x.d) → 0 ≤ lostS E L
  | [], _ => Int.le_refl _
  | x :: t, hd => by
    have h1 := (loses_item h hv x (hd x (List.mem_cons_self ..))).1
    have h2 := lost_pos h hv t (fun y hy => hd y (List.mem_cons_of_mem _ hy))
    rw [lostS]
    omega
/-- an item in a block, at a place -/
structure It9 (w : World) (b o : Nat) (x : It) : Prop where
  c0 : w.cell? ⟨b, o, none⟩ = some (.string x.c)
  c1 : w.cell? ⟨b, o + 1, none⟩ = some (.int .i64 x.d)
  c2 : w.cell? ⟨b, o + 2, none⟩ = some (.bool x.r)
  c3 : w.cell? ⟨b, o + 3, none⟩ = some (.bool x.v)
  c4 : w.cell? ⟨b, o + 4, none⟩ = some (.bool x.j)
  lt : b < w.heap.size
theorem It9.keep {w w' : World} {b o : Nat} {x : It} (h : It9 w b o x) (hb : Below w.heap.size w w') : It9 w' b o x :=
  ⟨(hb.cell (p := ⟨b, o, none⟩) h.lt).trans h.c0, (hb.cell (p := ⟨b, o + 1, none⟩) h.lt).trans h.c1, (hb.cell (p := ⟨b, o + 2, none⟩) h.lt).trans h.c2, (hb.cell (p := ⟨b, o + 3, none⟩) h.lt).trans h.c3, (hb.cell (p := ⟨b, o + 4, none⟩) h.lt).trans h.c4, Nat.lt_of_lt_of_le h.lt hb.size⟩
theorem rg_far {W : World} {b g : Nat} {x : Rg} (h : RgAt W b x) (hne : g ≠ b) (v0 v1 v2 v3 v4 v5 v6 : Value) : RgAt (((((((W.setCell ⟨g, 0, none⟩ v0).setCell ⟨g, 1, none⟩ v1).setCell ⟨g, 2, none⟩ v2).setCell ⟨g, 3, none⟩ v3).setCell ⟨g, 4, none⟩ v4).setCell ⟨g, 5, none⟩ v5).setCell ⟨g, 6, none⟩ v6) b x := by
  have hf : ∀ (W : World) (j t : Nat) (v : Value), (W.setCell ⟨g, j, none⟩ v).cell? ⟨b, t, none⟩ = W.cell? ⟨b, t, none⟩ := fun W j t v => World.cell?_setCell_far _ _ _ _ hne
  refine ⟨?_, ?_, ?_, ?_, ?_, ?_, ?_, fun k => ?_, ?_⟩
  · rw [hf, hf, hf, hf, hf, hf, hf]; exact h.c0
  · rw [hf, hf, hf, hf, hf, hf, hf]; exact h.c1
  · rw [hf, hf, hf, hf, hf, hf, hf]; exact h.c2
  · rw [hf, hf, hf, hf, hf, hf, hf]; exact h.c3
  · rw [hf, hf, hf, hf, hf, hf, hf]; exact h.c4
  · rw [hf, hf, hf, hf, hf, hf, hf]; exact h.c5
  · rw [hf, hf, hf, hf, hf, hf, hf]; exact h.c6
  · simp only [World.frozen?_setCell]; exact h.f k
  · simp; exact h.lt
set_option maxHeartbeats 8000000 in
set_option maxRecDepth 100000 in
theorem law_loses (w : World) {c : Ct} (h : CtOk w c) {a : Option Addr} {b off len cap : Nat} {L : List It} (hL : SlX w a b off len cap L) :
    Calls Try.prog 7 #[c.val, .slice a len cap] w fun e w' => e = .returned (.bool true) ∧ Below w.heap.size w w' := by
  have HOK := Lib.hid h
  have HS := Lib.hid hL
  have hl0 := hL.hl
  have HA := Lib.hid (fun W => awake_any W)
  have HFI := Lib.hid (fun W (hc : CtOk W c) (hW : SlX W a b off len cap L) => fits_any hc hW 30)
  have HCK := Lib.hid (fun W (hW : SlX W a b off len cap L) (hf : fitC L) => check_any hW hf)
  have HIT := Lib.hid (fun W (x : It) (hW : CtOk W c) (hE : FitE c.E) (hx : x.c.size ≤ maxLen) => item_any hW (by have := hE.len; omega) x hx)
  have HFU := Lib.hid (fun W (x : It) (hW : CtOk W c) (hE : FitE c.E) (hx : x.c.size ≤ maxLen) => full_any hW (by have := hE.len; omega) x hx)
  have HRE := Lib.hid (fun W (x : It) (hW : CtOk W c) (hE : FitE c.E) (hx : x.c.size ≤ maxLen) => reason_any hW (by have := hE.len; omega) x hx)
  have HLO := Lib.hid (fun W (hc : CtOk W c) (hW : SlX W a b off len cap L) (hE : FitE c.E) (hf : fitC L) (hm : len ≤ 1000) => lost_any hc (by have := hE.len; omega) (wit_val2 hE.wit) hW hf hm)
  have HN := Lib.hid (ct_new w c 27)
  have HB0 := Lib.hid (show Below w.heap.size w (w.alloc (.cells #[.slice c.ag c.ng c.cg, .slice c.ak c.nk c.ck, .slice c.ae c.ne c.ce, .slice c.ac c.nc c.cc] 27)) from (by repeat (first | with_reducible exact Below.refl _ _ | (with_reducible refine Below.setCell ?_ (by first | exact Nat.le_refl _ | omega | (simp; done) | (simp; omega)) _) | (with_reducible refine Below.alloc ?_ (by first | exact Nat.le_refl _ | omega | (simp; done) | (simp; omega)) _) | with_reducible refine Below.drew ?_ | with_reducible refine bel_drewN ?_ _ | (with_reducible refine bel_by (by with_reducible assumption) (by first | exact Nat.le_refl _ | omega | (simp; done) | (simp; omega)) ?_))))
  unfold RgPost at HIT HFU
  obtain ⟨r, hr⟩ : ∃ r, chkL L = r := ⟨_, rfl⟩
  have HR := Lib.hid hr
  rw [hr] at HCK HLO
  clear h hL hr
  unfold Ct.val at *
  obtain ⟨ag, bg, og, ng, cg, ak, bk, ok, nk, ck, ae, be, oe, ne, ce, ac, bc, oc, nc, cc, G, K, E, X⟩ := c
  simp only at HN HB0 HFI HIT HFU HRE HLO ⊢
  go_enter Try.func7, Try.ntmps7
  go_wp2_with fail
  generalize (w.alloc (.cells #[.slice ag ng cg, .slice ak nk ck, .slice ae ne ce, .slice ac nc cc] 27)) = W0 at *
  refine (HA.out _).mono ?_
  rintro e w1 ⟨rfl, hb⟩
  have HB1 := Lib.hid (HB0.out.trans (hb.mono HB0.out.size))
  have HN1 := Lib.hid (HN.out.keep hb)
  clear hb HN HB0 HA
  obtain ⟨z0, z1, z2, z3, zf, zl⟩ := HN1.out
  simp only at z0 z1 z2 z3
  go_wp2_with fail
  refine (HFI.out _ (HOK.out.keep HB1.out) (HS.out.keep HB1.out)).mono ?_
  rintro e w2 ⟨f, rfl, hb, hff⟩
  have HB2 := Lib.hid (HB1.out.trans (hb.mono HB1.out.size))
  have HN2 := Lib.hid (HN1.out.keep hb)
  have HFF := Lib.hid hff
  clear hb hff z0 z1 z2 z3 zf zl HN1 HB1 HFI
  cases f with
  | false =>
    go_wp2_with fail
    go_ret
    exact ⟨rfl, HB2.out⟩
  | true =>
    obtain ⟨hE, hlen, hcs⟩ := HFF.out (by simp)
    have hf : fitC L := fun k hk => by have := hcs _ (List.getElem_mem hk); omega
    have hm : len ≤ 1000 := by omega
    have HE := Lib.hid hE
    have HF := Lib.hid hf
    have HM := Lib.hid hm
    clear hlen hcs hE hf hm HFF
    go_wp2_with fail
    refine (HCK.out _ (HS.out.keep HB2.out) HF.out).mono ?_
    rintro e w3 ⟨rfl, hb⟩
    have HB3 := Lib.hid (HB2.out.trans (hb.mono HB2.out.size))
    have HN3 := Lib.hid (HN2.out.keep hb)
    clear hb HN2 HB2 HCK
    by_cases h0 : r = 0
    · subst h0
      have HD := Lib.hid (fun x hx => (chk_d HR.out x hx).1)
      have HD9 := Lib.hid (fun x hx => (chk_d HR.out x hx).2)
      clear HR
      go_wp2_with fail
      go_loopw [5, 6] (fun s5 s6 wr => ∃ (k : Nat), k ≤ len ∧ s6 = .int .i64 (k : Int) ∧ s5 = .int .i64 (lostS E (L.take k)) ∧ Hid (Below w.heap.size w wr) ∧ Hid (CtAt wr w.heap.size ⟨ag, bg, og, ng, cg, ak, bk, ok, nk, ck, ae, be, oe, ne, ce, ac, bc, oc, nc, cc, G, K, E, X⟩)) (fun _ s6 _ => (len - (intOf s6)).toNat)
      case atStart => exact ⟨0, Nat.zero_le _, rfl, by simp [lostS], HB3, HN3⟩
      case round =>
        obtain ⟨k, hk, rfl, rfl, HB, HNr⟩ := hrel
        clear HB3 HN3
        have hlm : len ≤ 1000 := HM.out
        have hb3 := lostS_bd (wit_val2 HE.out.wit) (L.take k)
        have hln : (L.take k).length = k := by rw [List.length_take]; omega
        rw [hln] at hb3
        by_cases hlt : k < len
        · have hl : (k : Int) < (len : Int) := by omega
          have hkL : k < L.length := by omega
          have S := HS.out.keep HB.out
          obtain rfl := S.ha (by omega)
          have sb := S.hb (by omega)
          have c0 := S.c0 k hkL
          have c1 := S.c1 k hkL
          have c2 := S.c2 k hkL
          have c3 := S.c3 k hkL
          have c4 := S.c4 k hkL
          have hfx : (L[k]'hkL).c.size ≤ maxLen := HF.out k hkL
          have HX := Lib.hid (show lostS E (L.take (k + 1)) = lostS E (L.take k) + ((itemS E (bareI (L[k]'hkL))).n - (itemS E (L[k]'hkL)).n) by
            rw [List.take_succ_eq_append_getElem hkL, lostS_snoc])
          have hLI := loses_item HE.out (wit_val2 HE.out.wit) (L[k]'hkL) (HD.out _ (List.getElem_mem hkL))
          have hdd := HD.out _ (List.getElem_mem hkL)
          have hd9 : (L[k]'hkL).d ≤ 9 := HD9.out _ (List.getElem_mem hkL)
          clear S hln
          generalize L[k]'hkL = x at *
          obtain ⟨A, hA⟩ : ∃ A, lostS E (L.take k) = A := ⟨_, rfl⟩
          rw [hA] at hb3 HX ⊢
          have hvy := itemS_val (wit_val2 HE.out.wit) x
          have hvz := itemS_val (wit_val2 HE.out.wit) (bareI x)
          have hvm := itemS_val (wit_val2 HE.out.wit) ⟨x.c, x.d + 1, x.r, x.v, x.j⟩
          have HIX := Lib.hid (fun W hW => HIT.out W x hW HE.out hfx)
          have HFX := Lib.hid (fun W hW => HFU.out W x hW HE.out hfx)
          have HIM := Lib.hid (fun W hW => HIT.out W ⟨x.c, x.d + 1, x.r, x.v, x.j⟩ hW HE.out hfx)
          have HRX := Lib.hid (fun W hW => HRE.out W x hW HE.out hfx)
          obtain ⟨y, hy⟩ : ∃ y, itemS E x = y := ⟨_, rfl⟩
          obtain ⟨z, hz⟩ : ∃ z, itemS E (bareI x) = z := ⟨_, rfl⟩
          obtain ⟨u, hu⟩ : ∃ u, itemS E ⟨x.c, x.d + 1, x.r, x.v, x.j⟩ = u := ⟨_, rfl⟩
          obtain ⟨p, hp⟩ : ∃ p, (perfE E x).2 = p := ⟨_, rfl⟩
          simp only [hy] at HIX HX hvy hLI
          simp only [hz] at HFX HX hvz hLI
          simp only [hu] at HIM hvm hLI
          simp only [hp] at HRX hLI
          clear hy hz hA hfx hu hp
          obtain ⟨xc, xd, xr, xv, xj⟩ := x
          obtain ⟨yk, yc, yg, ys, yn, yr, yj⟩ := y
          obtain ⟨zk, zc, zg, zs, zn, zr, zj⟩ := z
          obtain ⟨uk, uc, ug, us, un, ur, uj⟩ := u
          simp only [It.val, Rg.val] at c0 c1 c2 c3 c4 HIX HFX HIM HRX HX hvy hvz hvm hLI hd9 hdd
          have HLI := Lib.hid hLI
          have HVY := Lib.hid hvy
          have HVZ := Lib.hid hvz
          have HB3 := Lib.hid hb3
          clear hLI hvy hvz hvm hb3
          have hszw : w.heap.size ≤ wr.heap.size := HB.out.size
          have HOKr := Lib.hid (HOK.out.keep HB.out)
          obtain ⟨z0, z1, z2, z3, zf, zl⟩ := HNr.out
          simp only at z0 z1 z2 z3
          have HSS := Lib.hid (show ∀ w', Below wr.heap.size wr w' → (w'.cell? ⟨w.heap.size, 0, none⟩ = some (.slice ag ng cg) ∧ w'.cell? ⟨w.heap.size, 1, none⟩ = some (.slice ak nk ck) ∧ w'.cell? ⟨w.heap.size, 2, none⟩ = some (.slice ae ne ce) ∧ w'.cell? ⟨w.heap.size, 3, none⟩ = some (.slice ac nc cc) ∧ w'.cell? ⟨b, off + k * 5, none⟩ = some (.string xc) ∧ w'.cell? ⟨b, off + k * 5 + 1, none⟩ = some (.int .i64 xd) ∧ w'.cell? ⟨b, off + k * 5 + 2, none⟩ = some (.bool xr) ∧ w'.cell? ⟨b, off + k * 5 + 3, none⟩ = some (.bool xv) ∧ w'.cell? ⟨b, off + k * 5 + 4, none⟩ = some (.bool xj)) from fun w' hB =>
            ⟨(hB.cell (p := ⟨w.heap.size, 0, none⟩) zl).trans z0, (hB.cell (p := ⟨w.heap.size, 1, none⟩) zl).trans z1, (hB.cell (p := ⟨w.heap.size, 2, none⟩) zl).trans z2, (hB.cell (p := ⟨w.heap.size, 3, none⟩) zl).trans z3, (hB.cell (p := ⟨b, off + k * 5, none⟩) sb).trans c0, (hB.cell (p := ⟨b, off + k * 5 + 1, none⟩) sb).trans c1, (hB.cell (p := ⟨b, off + k * 5 + 2, none⟩) sb).trans c2, (hB.cell (p := ⟨b, off + k * 5 + 3, none⟩) sb).trans c3, (hB.cell (p := ⟨b, off + k * 5 + 4, none⟩) sb).trans c4⟩)
          go_upto_region 9 with fail
          clear z0 z1 z2 z3 zf c0 c1 c2 c3 c4
          go_cut [7, 8] (fun s7 s8 wx => ∃ g12 g13 : Nat, s7 = .pointer (some ⟨g12, 0, none⟩) ∧ s8 = .pointer (some ⟨g13, 0, none⟩) ∧ Hid (Below wr.heap.size wr wx) ∧ Hid (RgAt wx g12 ⟨yk, yc, yg, ys, yn, yr, yj⟩) ∧ Hid (RgAt wx g13 ⟨zk, zc, zg, zs, zn, zr, zj⟩))
          case first =>
            refine wp_region_held_drew (S := (fun w' => w'.cell? ⟨w.heap.size, 0, none⟩ = some (.slice ag ng cg) ∧ w'.cell? ⟨w.heap.size, 1, none⟩ = some (.slice ak nk ck) ∧ w'.cell? ⟨w.heap.size, 2, none⟩ = some (.slice ae ne ce) ∧ w'.cell? ⟨w.heap.size, 3, none⟩ = some (.slice ac nc cc) ∧ w'.cell? ⟨b, off + k * 5, none⟩ = some (.string xc) ∧ w'.cell? ⟨b, off + k * 5 + 1, none⟩ = some (.int .i64 xd) ∧ w'.cell? ⟨b, off + k * 5 + 2, none⟩ = some (.bool xr) ∧ w'.cell? ⟨b, off + k * 5 + 3, none⟩ = some (.bool xv) ∧ w'.cell? ⟨b, off + k * 5 + 4, none⟩ = some (.bool xj))) (by kernel_rfl) ?_ (fun hH => ?_)
            · exact HSS.out _ (show Below wr.heap.size wr _ from (by repeat (first | with_reducible exact Below.refl _ _ | (with_reducible refine Below.setCell ?_ (by first | exact Nat.le_refl _ | omega | (simp; done) | (simp; omega)) _) | (with_reducible refine Below.alloc ?_ (by first | exact Nat.le_refl _ | omega | (simp; done) | (simp; omega)) _) | with_reducible refine Below.drew ?_ | with_reducible refine bel_drewN ?_ _ | (with_reducible refine bel_by (by with_reducible assumption) (by first | exact Nat.le_refl _ | omega | (simp; done) | (simp; omega)) ?_))))
            refine wpAnyH_take (i := 0) (v := .agg #[.slice ag ng cg, .slice ak nk ck, .slice ae ne ce, .slice ac nc cc]) rfl (by kernel_rfl) (by kernel_rfl) (by kernel_rfl) (fun _ _ _ h => h) (Or.inl ⟨by kernel_rfl, fun w' hw' => (by obtain ⟨t0, t1, t2, t3, t4, t5, t6, t7, t8⟩ := hw'; go_simp)⟩) hH ?_
            simp only [Act.put, List.setIfInBounds_toArray, List.set_cons_zero, List.set_cons_succ]
            refine wpAnyH_take (i := 1) (v := .slice (some ⟨b, off, none⟩) len cap) rfl (by kernel_rfl) (by kernel_rfl) (by kernel_rfl) (fun _ _ _ h => h) (Or.inl ⟨by kernel_rfl, fun w' hw' => (by obtain ⟨t0, t1, t2, t3, t4, t5, t6, t7, t8⟩ := hw'; go_simp)⟩) hH ?_
            simp only [Act.put, List.setIfInBounds_toArray, List.set_cons_zero, List.set_cons_succ]
            refine wpAnyH_take (i := 2) (v := .int .i64 (k : Int)) rfl (by kernel_rfl) (by kernel_rfl) (by kernel_rfl) (fun _ _ _ h => h) (Or.inl ⟨by kernel_rfl, fun w' hw' => (by obtain ⟨t0, t1, t2, t3, t4, t5, t6, t7, t8⟩ := hw'; go_simp)⟩) hH ?_
            simp only [Act.put, List.setIfInBounds_toArray, List.set_cons_zero, List.set_cons_succ]
            refine wpAnyH_take (i := 3) (v := .pointer (some ⟨b, off + k * 5, none⟩)) rfl (by kernel_rfl) (by kernel_rfl) (by kernel_rfl) (fun _ _ _ h => h) (Or.inl ⟨by kernel_rfl, fun w' hw' => (by obtain ⟨t0, t1, t2, t3, t4, t5, t6, t7, t8⟩ := hw'; go_simp)⟩) hH ?_
            simp only [Act.put, List.setIfInBounds_toArray, List.set_cons_zero, List.set_cons_succ]
            refine wpAnyH_take (i := 4) (v := .agg #[.string xc, .int .i64 xd, .bool xr, .bool xv, .bool xj]) rfl (by kernel_rfl) (by kernel_rfl) (by kernel_rfl) (fun _ _ _ h => h) (Or.inl ⟨by kernel_rfl, fun w' hw' => (by obtain ⟨t0, t1, t2, t3, t4, t5, t6, t7, t8⟩ := hw'; go_simp)⟩) hH ?_
            simp only [Act.put, List.setIfInBounds_toArray, List.set_cons_zero, List.set_cons_succ]
            refine wpAnyH_take (i := 6) (v := .agg #[.slice ag ng cg, .slice ak nk ck, .slice ae ne ce, .slice ac nc cc]) rfl (by kernel_rfl) (by kernel_rfl) (by kernel_rfl) (fun _ _ _ h => h) (Or.inl ⟨by kernel_rfl, fun w' hw' => (by obtain ⟨t0, t1, t2, t3, t4, t5, t6, t7, t8⟩ := hw'; go_simp)⟩) hH ?_
            simp only [Act.put, List.setIfInBounds_toArray, List.set_cons_zero, List.set_cons_succ]
            refine wpAnyH_take (i := 7) (v := .slice (some ⟨b, off, none⟩) len cap) rfl (by kernel_rfl) (by kernel_rfl) (by kernel_rfl) (fun _ _ _ h => h) (Or.inl ⟨by kernel_rfl, fun w' hw' => (by obtain ⟨t0, t1, t2, t3, t4, t5, t6, t7, t8⟩ := hw'; go_simp)⟩) hH ?_
            simp only [Act.put, List.setIfInBounds_toArray, List.set_cons_zero, List.set_cons_succ]
            refine wpAnyH_take (i := 8) (v := .int .i64 (k : Int)) rfl (by kernel_rfl) (by kernel_rfl) (by kernel_rfl) (fun _ _ _ h => h) (Or.inl ⟨by kernel_rfl, fun w' hw' => (by obtain ⟨t0, t1, t2, t3, t4, t5, t6, t7, t8⟩ := hw'; go_simp)⟩) hH ?_
            simp only [Act.put, List.setIfInBounds_toArray, List.set_cons_zero, List.set_cons_succ]
            refine wpAnyH_take (i := 9) (v := .pointer (some ⟨b, off + k * 5, none⟩)) rfl (by kernel_rfl) (by kernel_rfl) (by kernel_rfl) (fun _ _ _ h => h) (Or.inl ⟨by kernel_rfl, fun w' hw' => (by obtain ⟨t0, t1, t2, t3, t4, t5, t6, t7, t8⟩ := hw'; go_simp)⟩) hH ?_
            simp only [Act.put, List.setIfInBounds_toArray, List.set_cons_zero, List.set_cons_succ]
            refine wpAnyH_take (i := 10) (v := .agg #[.string xc, .int .i64 xd, .bool xr, .bool xv, .bool xj]) rfl (by kernel_rfl) (by kernel_rfl) (by kernel_rfl) (fun _ _ _ h => h) (Or.inl ⟨by kernel_rfl, fun w' hw' => (by obtain ⟨t0, t1, t2, t3, t4, t5, t6, t7, t8⟩ := hw'; go_simp)⟩) hH ?_
            simp only [Act.put, List.setIfInBounds_toArray, List.set_cons_zero, List.set_cons_succ]
            have hB0 : Below wr.heap.size wr wr.drew := (by repeat (first | with_reducible exact Below.refl _ _ | (with_reducible refine Below.setCell ?_ (by first | exact Nat.le_refl _ | omega | (simp; done) | (simp; omega)) _) | (with_reducible refine Below.alloc ?_ (by first | exact Nat.le_refl _ | omega | (simp; done) | (simp; omega)) _) | with_reducible refine Below.drew ?_ | with_reducible refine bel_drewN ?_ _ | (with_reducible refine bel_by (by with_reducible assumption) (by first | exact Nat.le_refl _ | omega | (simp; done) | (simp; omega)) ?_)))
            generalize wr.drew = v0 at *
            refine wpAnyH_ready (rs := [5, 12, 13]) (by kernel_rfl) (by simp) ?_
            refine AllReadyH.cons rfl (fun K hK => ?_) (AllReadyH.cons rfl (fun K hK => ?_) (AllReadyH.cons rfl (fun K hK => ?_) (AllReadyH.nil)))
            ·
              go_simp
              refine (HIX.out v0 (HOKr.out.keep hB0)).mono ?_
              rintro e v1 ⟨rfl, hb'⟩
              have hB1 : Below wr.heap.size wr v1 := hB0.trans (hb'.mono hB0.size)
              clear hb'
              try simp only []
              refine hK.out _ _ (HSS.out _ hB1) (fun hH => ?_)
              clear hK K
              try simp only [Act.put, List.setIfInBounds_toArray, List.set_cons_zero, List.set_cons_succ]
              refine wpAnyH_ready (rs := [11, 12, 13]) (by kernel_rfl) (by simp) ?_
              refine AllReadyH.cons rfl (fun K hK => ?_) (AllReadyH.cons rfl (fun K hK => ?_) (AllReadyH.cons rfl (fun K hK => ?_) (AllReadyH.nil)))
              ·
                go_simp
                refine (HFX.out v1 (HOKr.out.keep hB1)).mono ?_
                rintro e v2 ⟨rfl, hb'⟩
                have hB2 : Below wr.heap.size wr v2 := hB1.trans (hb'.mono hB1.size)
                clear hb'
                try simp only []
                refine hK.out _ _ (HSS.out _ hB2) (fun hH => ?_)
                clear hK K
                try simp only [Act.put, List.setIfInBounds_toArray, List.set_cons_zero, List.set_cons_succ]
                refine wpAnyH_ready (rs := [12, 13]) (by kernel_rfl) (by simp) ?_
                refine AllReadyH.cons rfl (fun K hK => ?_) (AllReadyH.cons rfl (fun K hK => ?_) (AllReadyH.nil))
                ·
                  go_simp
                  obtain ⟨g12, hg12⟩ : ∃ g, v2.heap.size = g := ⟨_, rfl⟩
                  have HG12 := Lib.hid (show RgAt (v2.alloc (.cells #[.bool false, .string ⟨#[]⟩, .string ⟨#[]⟩, .string ⟨#[]⟩, .int .i64 0, .bool false, .bool false] 35)) g12 Rg.zero from hg12 ▸ rg_new v2 Rg.zero 35)
                  have hB3 : Below wr.heap.size wr (v2.alloc (.cells #[.bool false, .string ⟨#[]⟩, .string ⟨#[]⟩, .string ⟨#[]⟩, .int .i64 0, .bool false, .bool false] 35)) := hB2.alloc hB2.size _
                  have hw12 : wr.heap.size ≤ g12 := hg12 ▸ hB2.size
                  try rw [hg12]
                  try simp only [hg12]
                  refine hK.out _ _ (HSS.out _ hB3) (fun hH => ?_)
                  clear hK K
                  try simp only [Act.put, List.setIfInBounds_toArray, List.set_cons_zero, List.set_cons_succ]
                  generalize v2.alloc (.cells #[.bool false, .string ⟨#[]⟩, .string ⟨#[]⟩, .string ⟨#[]⟩, .int .i64 0, .bool false, .bool false] 35) = v3 at *
                  refine wpAnyH_ready (rs := [13]) (by kernel_rfl) (by simp) ?_
                  refine AllReadyH.cons rfl (fun K hK => ?_) (AllReadyH.nil)
                  ·
                    go_simp
                    obtain ⟨g13, hg13⟩ : ∃ g, v3.heap.size = g := ⟨_, rfl⟩
                    have HG13 := Lib.hid (show RgAt (v3.alloc (.cells #[.bool false, .string ⟨#[]⟩, .string ⟨#[]⟩, .string ⟨#[]⟩, .int .i64 0, .bool false, .bool false] 35)) g13 Rg.zero from hg13 ▸ rg_new v3 Rg.zero 35)
                    have hB4 : Below wr.heap.size wr (v3.alloc (.cells #[.bool false, .string ⟨#[]⟩, .string ⟨#[]⟩, .string ⟨#[]⟩, .int .i64 0, .bool false, .bool false] 35)) := hB3.alloc hB3.size _
                    have hw13 : wr.heap.size ≤ g13 := hg13 ▸ hB3.size
                    have hne : g12 < g13 := hg13 ▸ HG12.out.lt
                    replace HG12 := Lib.hid (HG12.out.keep ((Below.refl _ _).alloc (Nat.le_refl _) (.cells #[.bool false, .string ⟨#[]⟩, .string ⟨#[]⟩, .string ⟨#[]⟩, .int .i64 0, .bool false, .bool false] 35)))
                    try rw [hg13]
                    try simp only [hg13]
                    refine hK.out _ _ (HSS.out _ hB4) (fun hH => ?_)
                    clear hK K
                    try simp only [Act.put, List.setIfInBounds_toArray, List.set_cons_zero, List.set_cons_succ]
                    generalize v3.alloc (.cells #[.bool false, .string ⟨#[]⟩, .string ⟨#[]⟩, .string ⟨#[]⟩, .int .i64 0, .bool false, .bool false] 35) = v4 at *
                    refine wpAnyH_ready (rs := [14]) (by kernel_rfl) (by simp) ?_
                    refine AllReadyH.cons rfl (fun K hK => ?_) (AllReadyH.nil)
                    ·
                      obtain ⟨f0, f1, f2, f3, f4, f5, f6, ff, fl⟩ := HG12.out
                      simp only [Rg.zero] at f0 f1 f2 f3 f4 f5 f6
                      go_simp
                      clear f0 f1 f2 f3 f4 f5 f6 ff fl
                      have hB5 : Below wr.heap.size wr (((((((v4.setCell ⟨g12, 0, none⟩ (.bool yk)).setCell ⟨g12, 1, none⟩ (.string yc)).setCell ⟨g12, 2, none⟩ (.string yg)).setCell ⟨g12, 3, none⟩ (.string ys)).setCell ⟨g12, 4, none⟩ (.int .i64 yn)).setCell ⟨g12, 5, none⟩ (.bool yr)).setCell ⟨g12, 6, none⟩ (.bool yj)) := ((((((hB4.setCell hw12 _).setCell hw12 _).setCell hw12 _).setCell hw12 _).setCell hw12 _).setCell hw12 _).setCell hw12 _
                      have HS12 := Lib.hid (rg_set HG12.out ⟨yk, yc, yg, ys, yn, yr, yj⟩)
                      replace HG13 := Lib.hid (rg_far HG13.out (show g12 ≠ g13 by omega) (.bool yk) (.string yc) (.string yg) (.string ys) (.int .i64 yn) (.bool yr) (.bool yj))
                      try simp only [] at HS12
                      refine hK.out _ _ (HSS.out _ hB5) (fun hH => ?_)
                      clear hK K
                      try simp only [Act.put, List.setIfInBounds_toArray, List.set_cons_zero, List.set_cons_succ]
                      generalize (((((((v4.setCell ⟨g12, 0, none⟩ (.bool yk)).setCell ⟨g12, 1, none⟩ (.string yc)).setCell ⟨g12, 2, none⟩ (.string yg)).setCell ⟨g12, 3, none⟩ (.string ys)).setCell ⟨g12, 4, none⟩ (.int .i64 yn)).setCell ⟨g12, 5, none⟩ (.bool yr)).setCell ⟨g12, 6, none⟩ (.bool yj)) = v5 at *
                      refine wpAnyH_ready (rs := [15]) (by kernel_rfl) (by simp) ?_
                      refine AllReadyH.cons rfl (fun K hK => ?_) AllReadyH.nil
                      obtain ⟨f0, f1, f2, f3, f4, f5, f6, ff, fl⟩ := HG13.out
                      simp only [Rg.zero] at f0 f1 f2 f3 f4 f5 f6
                      go_simp
                      clear f0 f1 f2 f3 f4 f5 f6 ff fl
                      have hB6 : Below wr.heap.size wr (((((((v5.setCell ⟨g13, 0, none⟩ (.bool zk)).setCell ⟨g13, 1, none⟩ (.string zc)).setCell ⟨g13, 2, none⟩ (.string zg)).setCell ⟨g13, 3, none⟩ (.string zs)).setCell ⟨g13, 4, none⟩ (.int .i64 zn)).setCell ⟨g13, 5, none⟩ (.bool zr)).setCell ⟨g13, 6, none⟩ (.bool zj)) := ((((((hB5.setCell hw13 _).setCell hw13 _).setCell hw13 _).setCell hw13 _).setCell hw13 _).setCell hw13 _).setCell hw13 _
                      have HS13 := Lib.hid (rg_set HG13.out ⟨zk, zc, zg, zs, zn, zr, zj⟩)
                      replace HS12 := Lib.hid (rg_far HS12.out (show g13 ≠ g12 by omega) (.bool zk) (.string zc) (.string zg) (.string zs) (.int .i64 zn) (.bool zr) (.bool zj))
                      try simp only [] at HS12
                      refine hK.out _ _ (HSS.out _ hB6) (fun hH => ?_)
                      clear hK K
                      try simp only [Act.put, List.setIfInBounds_toArray, List.set_cons_zero, List.set_cons_succ]
                      generalize (((((((v5.setCell ⟨g13, 0, none⟩ (.bool zk)).setCell ⟨g13, 1, none⟩ (.string zc)).setCell ⟨g13, 2, none⟩ (.string zg)).setCell ⟨g13, 3, none⟩ (.string zs)).setCell ⟨g13, 4, none⟩ (.int .i64 zn)).setCell ⟨g13, 5, none⟩ (.bool zr)).setCell ⟨g13, 6, none⟩ (.bool zj)) = v6 at *
                      refine wpAnyH_done (by kernel_rfl) ?_ _
                      go_wp2_with fail
                      go_meet
                      exact ⟨g12, g13, rfl, rfl, Lib.hid hB6, HS12, HS13⟩
                ·
                  go_simp
                  obtain ⟨g13, hg13⟩ : ∃ g, v2.heap.size = g := ⟨_, rfl⟩
                  have HG13 := Lib.hid (show RgAt (v2.alloc (.cells #[.bool false, .string ⟨#[]⟩, .string ⟨#[]⟩, .string ⟨#[]⟩, .int .i64 0, .bool false, .bool false] 35)) g13 Rg.zero from hg13 ▸ rg_new v2 Rg.zero 35)
                  have hB3 : Below wr.heap.size wr (v2.alloc (.cells #[.bool false, .string ⟨#[]⟩, .string ⟨#[]⟩, .string ⟨#[]⟩, .int .i64 0, .bool false, .bool false] 35)) := hB2.alloc hB2.size _
                  have hw13 : wr.heap.size ≤ g13 := hg13 ▸ hB2.size
                  try rw [hg13]
                  try simp only [hg13]
                  refine hK.out _ _ (HSS.out _ hB3) (fun hH => ?_)
                  clear hK K
                  try simp only [Act.put, List.setIfInBounds_toArray, List.set_cons_zero, List.set_cons_succ]
                  generalize v2.alloc (.cells #[.bool false, .string ⟨#[]⟩, .string ⟨#[]⟩, .string ⟨#[]⟩, .int .i64 0, .bool false, .bool false] 35) = v3 at *
                  refine wpAnyH_ready (rs := [12]) (by kernel_rfl) (by simp) ?_
                  refine AllReadyH.cons rfl (fun K hK => ?_) (AllReadyH.nil)
                  ·
                    go_simp
                    obtain ⟨g12, hg12⟩ : ∃ g, v3.heap.size = g := ⟨_, rfl⟩
                    have HG12 := Lib.hid (show RgAt (v3.alloc (.cells #[.bool false, .string ⟨#[]⟩, .string ⟨#[]⟩, .string ⟨#[]⟩, .int .i64 0, .bool false, .bool false] 35)) g12 Rg.zero from hg12 ▸ rg_new v3 Rg.zero 35)
                    have hB4 : Below wr.heap.size wr (v3.alloc (.cells #[.bool false, .string ⟨#[]⟩, .string ⟨#[]⟩, .string ⟨#[]⟩, .int .i64 0, .bool false, .bool false] 35)) := hB3.alloc hB3.size _
                    have hw12 : wr.heap.size ≤ g12 := hg12 ▸ hB3.size
                    have hne : g13 < g12 := hg12 ▸ HG13.out.lt
                    replace HG13 := Lib.hid (HG13.out.keep ((Below.refl _ _).alloc (Nat.le_refl _) (.cells #[.bool false, .string ⟨#[]⟩, .string ⟨#[]⟩, .string ⟨#[]⟩, .int .i64 0, .bool false, .bool false] 35)))
                    try rw [hg12]
                    try simp only [hg12]
                    refine hK.out _ _ (HSS.out _ hB4) (fun hH => ?_)
                    clear hK K
                    try simp only [Act.put, List.setIfInBounds_toArray, List.set_cons_zero, List.set_cons_succ]
                    generalize v3.alloc (.cells #[.bool false, .string ⟨#[]⟩, .string ⟨#[]⟩, .string ⟨#[]⟩, .int .i64 0, .bool false, .bool false] 35) = v4 at *
                    refine wpAnyH_ready (rs := [14]) (by kernel_rfl) (by simp) ?_
                    refine AllReadyH.cons rfl (fun K hK => ?_) (AllReadyH.nil)
                    ·
                      obtain ⟨f0, f1, f2, f3, f4, f5, f6, ff, fl⟩ := HG12.out
                      simp only [Rg.zero] at f0 f1 f2 f3 f4 f5 f6
                      go_simp
                      clear f0 f1 f2 f3 f4 f5 f6 ff fl
                      have hB5 : Below wr.heap.size wr (((((((v4.setCell ⟨g12, 0, none⟩ (.bool yk)).setCell ⟨g12, 1, none⟩ (.string yc)).setCell ⟨g12, 2, none⟩ (.string yg)).setCell ⟨g12, 3, none⟩ (.string ys)).setCell ⟨g12, 4, none⟩ (.int .i64 yn)).setCell ⟨g12, 5, none⟩ (.bool yr)).setCell ⟨g12, 6, none⟩ (.bool yj)) := ((((((hB4.setCell hw12 _).setCell hw12 _).setCell hw12 _).setCell hw12 _).setCell hw12 _).setCell hw12 _).setCell hw12 _
                      have HS12 := Lib.hid (rg_set HG12.out ⟨yk, yc, yg, ys, yn, yr, yj⟩)
                      replace HG13 := Lib.hid (rg_far HG13.out (show g12 ≠ g13 by omega) (.bool yk) (.string yc) (.string yg) (.string ys) (.int .i64 yn) (.bool yr) (.bool yj))
                      try simp only [] at HS12
                      refine hK.out _ _ (HSS.out _ hB5) (fun hH => ?_)
                      clear hK K
                      try simp only [Act.put, List.setIfInBounds_toArray, List.set_cons_zero, List.set_cons_succ]
                      generalize (((((((v4.setCell ⟨g12, 0, none⟩ (.bool yk)).setCell ⟨g12, 1, none⟩ (.string yc)).setCell ⟨g12, 2, none⟩ (.string yg)).setCell ⟨g12, 3, none⟩ (.string ys)).setCell ⟨g12, 4, none⟩ (.int .i64 yn)).setCell ⟨g12, 5, none⟩ (.bool yr)).setCell ⟨g12, 6, none⟩ (.bool yj)) = v5 at *
                      refine wpAnyH_ready (rs := [15]) (by kernel_rfl) (by simp) ?_
                      refine AllReadyH.cons rfl (fun K hK => ?_) AllReadyH.nil
                      obtain ⟨f0, f1, f2, f3, f4, f5, f6, ff, fl⟩ := HG13.out
                      simp only [Rg.zero] at f0 f1 f2 f3 f4 f5 f6
                      go_simp
                      clear f0 f1 f2 f3 f4 f5 f6 ff fl
                      have hB6 : Below wr.heap.size wr (((((((v5.setCell ⟨g13, 0, none⟩ (.bool zk)).setCell ⟨g13, 1, none⟩ (.string zc)).setCell ⟨g13, 2, none⟩ (.string zg)).setCell ⟨g13, 3, none⟩ (.string zs)).setCell ⟨g13, 4, none⟩ (.int .i64 zn)).setCell ⟨g13, 5, none⟩ (.bool zr)).setCell ⟨g13, 6, none⟩ (.bool zj)) := ((((((hB5.setCell hw13 _).setCell hw13 _).setCell hw13 _).setCell hw13 _).setCell hw13 _).setCell hw13 _).setCell hw13 _
                      have HS13 := Lib.hid (rg_set HG13.out ⟨zk, zc, zg, zs, zn, zr, zj⟩)
                      replace HS12 := Lib.hid (rg_far HS12.out (show g13 ≠ g12 by omega) (.bool zk) (.string zc) (.string zg) (.string zs) (.int .i64 zn) (.bool zr) (.bool zj))
                      try simp only [] at HS12
                      refine hK.out _ _ (HSS.out _ hB6) (fun hH => ?_)
                      clear hK K
                      try simp only [Act.put, List.setIfInBounds_toArray, List.set_cons_zero, List.set_cons_succ]
                      generalize (((((((v5.setCell ⟨g13, 0, none⟩ (.bool zk)).setCell ⟨g13, 1, none⟩ (.string zc)).setCell ⟨g13, 2, none⟩ (.string zg)).setCell ⟨g13, 3, none⟩ (.string zs)).setCell ⟨g13, 4, none⟩ (.int .i64 zn)).setCell ⟨g13, 5, none⟩ (.bool zr)).setCell ⟨g13, 6, none⟩ (.bool zj)) = v6 at *
                      refine wpAnyH_done (by kernel_rfl) ?_ _
                      go_wp2_with fail
                      go_meet
                      exact ⟨g12, g13, rfl, rfl, Lib.hid hB6, HS12, HS13⟩
              ·
                go_simp
                obtain ⟨g12, hg12⟩ : ∃ g, v1.heap.size = g := ⟨_, rfl⟩
                have HG12 := Lib.hid (show RgAt (v1.alloc (.cells #[.bool false, .string ⟨#[]⟩, .string ⟨#[]⟩, .string ⟨#[]⟩, .int .i64 0, .bool false, .bool false] 35)) g12 Rg.zero from hg12 ▸ rg_new v1 Rg.zero 35)
                have hB2 : Below wr.heap.size wr (v1.alloc (.cells #[.bool false, .string ⟨#[]⟩, .string ⟨#[]⟩, .string ⟨#[]⟩, .int .i64 0, .bool false, .bool false] 35)) := hB1.alloc hB1.size _
                have hw12 : wr.heap.size ≤ g12 := hg12 ▸ hB1.size
                try rw [hg12]
                try simp only [hg12]
                refine hK.out _ _ (HSS.out _ hB2) (fun hH => ?_)
                clear hK K
                try simp only [Act.put, List.setIfInBounds_toArray, List.set_cons_zero, List.set_cons_succ]
                generalize v1.alloc (.cells #[.bool false, .string ⟨#[]⟩, .string ⟨#[]⟩, .string ⟨#[]⟩, .int .i64 0, .bool false, .bool false] 35) = v2 at *
                refine wpAnyH_ready (rs := [11, 13]) (by kernel_rfl) (by simp) ?_
                refine AllReadyH.cons rfl (fun K hK => ?_) (AllReadyH.cons rfl (fun K hK => ?_) (AllReadyH.nil))
                ·
                  go_simp
                  refine (HFX.out v2 (HOKr.out.keep hB2)).mono ?_
                  rintro e v3 ⟨rfl, hb'⟩
                  have hB3 : Below wr.heap.size wr v3 := hB2.trans (hb'.mono hB2.size)
                  replace HG12 := Lib.hid (HG12.out.keep hb')
                  clear hb'
                  try simp only []
                  refine hK.out _ _ (HSS.out _ hB3) (fun hH => ?_)
                  clear hK K
                  try simp only [Act.put, List.setIfInBounds_toArray, List.set_cons_zero, List.set_cons_succ]
                  refine wpAnyH_ready (rs := [13]) (by kernel_rfl) (by simp) ?_
                  refine AllReadyH.cons rfl (fun K hK => ?_) (AllReadyH.nil)
                  ·
                    go_simp
                    obtain ⟨g13, hg13⟩ : ∃ g, v3.heap.size = g := ⟨_, rfl⟩
                    have HG13 := Lib.hid (show RgAt (v3.alloc (.cells #[.bool false, .string ⟨#[]⟩, .string ⟨#[]⟩, .string ⟨#[]⟩, .int .i64 0, .bool false, .bool false] 35)) g13 Rg.zero from hg13 ▸ rg_new v3 Rg.zero 35)
                    have hB4 : Below wr.heap.size wr (v3.alloc (.cells #[.bool false, .string ⟨#[]⟩, .string ⟨#[]⟩, .string ⟨#[]⟩, .int .i64 0, .bool false, .bool false] 35)) := hB3.alloc hB3.size _
                    have hw13 : wr.heap.size ≤ g13 := hg13 ▸ hB3.size
                    have hne : g12 < g13 := hg13 ▸ HG12.out.lt
                    replace HG12 := Lib.hid (HG12.out.keep ((Below.refl _ _).alloc (Nat.le_refl _) (.cells #[.bool false, .string ⟨#[]⟩, .string ⟨#[]⟩, .string ⟨#[]⟩, .int .i64 0, .bool false, .bool false] 35)))
                    try rw [hg13]
                    try simp only [hg13]
                    refine hK.out _ _ (HSS.out _ hB4) (fun hH => ?_)
                    clear hK K
                    try simp only [Act.put, List.setIfInBounds_toArray, List.set_cons_zero, List.set_cons_succ]
                    generalize v3.alloc (.cells #[.bool false, .string ⟨#[]⟩, .string ⟨#[]⟩, .string ⟨#[]⟩, .int .i64 0, .bool false, .bool false] 35) = v4 at *
                    refine wpAnyH_ready (rs := [14]) (by kernel_rfl) (by simp) ?_
                    refine AllReadyH.cons rfl (fun K hK => ?_) (AllReadyH.nil)
                    ·
                      obtain ⟨f0, f1, f2, f3, f4, f5, f6, ff, fl⟩ := HG12.out
                      simp only [Rg.zero] at f0 f1 f2 f3 f4 f5 f6
                      go_simp
                      clear f0 f1 f2 f3 f4 f5 f6 ff fl
                      have hB5 : Below wr.heap.size wr (((((((v4.setCell ⟨g12, 0, none⟩ (.bool yk)).setCell ⟨g12, 1, none⟩ (.string yc)).setCell ⟨g12, 2, none⟩ (.string yg)).setCell ⟨g12, 3, none⟩ (.string ys)).setCell ⟨g12, 4, none⟩ (.int .i64 yn)).setCell ⟨g12, 5, none⟩ (.bool yr)).setCell ⟨g12, 6, none⟩ (.bool yj)) := ((((((hB4.setCell hw12 _).setCell hw12 _).setCell hw12 _).setCell hw12 _).setCell hw12 _).setCell hw12 _).setCell hw12 _
                      have HS12 := Lib.hid (rg_set HG12.out ⟨yk, yc, yg, ys, yn, yr, yj⟩)
                      replace HG13 := Lib.hid (rg_far HG13.out (show g12 ≠ g13 by omega) (.bool yk) (.string yc) (.string yg) (.string ys) (.int .i64 yn) (.bool yr) (.bool yj))
                      try simp only [] at HS12
                      refine hK.out _ _ (HSS.out _ hB5) (fun hH => ?_)
                      clear hK K
                      try simp only [Act.put, List.setIfInBounds_toArray, List.set_cons_zero, List.set_cons_succ]
                      generalize (((((((v4.setCell ⟨g12, 0, none⟩ (.bool yk)).setCell ⟨g12, 1, none⟩ (.string yc)).setCell ⟨g12, 2, none⟩ (.string yg)).setCell ⟨g12, 3, none⟩ (.string ys)).setCell ⟨g12, 4, none⟩ (.int .i64 yn)).setCell ⟨g12, 5, none⟩ (.bool yr)).setCell ⟨g12, 6, none⟩ (.bool yj)) = v5 at *
                      refine wpAnyH_ready (rs := [15]) (by kernel_rfl) (by simp) ?_
                      refine AllReadyH.cons rfl (fun K hK => ?_) AllReadyH.nil
                      obtain ⟨f0, f1, f2, f3, f4, f5, f6, ff, fl⟩ := HG13.out
                      simp only [Rg.zero] at f0 f1 f2 f3 f4 f5 f6
                      go_simp
                      clear f0 f1 f2 f3 f4 f5 f6 ff fl
                      have hB6 : Below wr.heap.size wr (((((((v5.setCell ⟨g13, 0, none⟩ (.bool zk)).setCell ⟨g13, 1, none⟩ (.string zc)).setCell ⟨g13, 2, none⟩ (.string zg)).setCell ⟨g13, 3, none⟩ (.string zs)).setCell ⟨g13, 4, none⟩ (.int .i64 zn)).setCell ⟨g13, 5, none⟩ (.bool zr)).setCell ⟨g13, 6, none⟩ (.bool zj)) := ((((((hB5.setCell hw13 _).setCell hw13 _).setCell hw13 _).setCell hw13 _).setCell hw13 _).setCell hw13 _).setCell hw13 _
                      have HS13 := Lib.hid (rg_set HG13.out ⟨zk, zc, zg, zs, zn, zr, zj⟩)
                      replace HS12 := Lib.hid (rg_far HS12.out (show g13 ≠ g12 by omega) (.bool zk) (.string zc) (.string zg) (.string zs) (.int .i64 zn) (.bool zr) (.bool zj))
                      try simp only [] at HS12
                      refine hK.out _ _ (HSS.out _ hB6) (fun hH => ?_)
                      clear hK K
                      try simp only [Act.put, List.setIfInBounds_toArray, List.set_cons_zero, List.set_cons_succ]
                      generalize (((((((v5.setCell ⟨g13, 0, none⟩ (.bool zk)).setCell ⟨g13, 1, none⟩ (.string zc)).setCell ⟨g13, 2, none⟩ (.string zg)).setCell ⟨g13, 3, none⟩ (.string zs)).setCell ⟨g13, 4, none⟩ (.int .i64 zn)).setCell ⟨g13, 5, none⟩ (.bool zr)).setCell ⟨g13, 6, none⟩ (.bool zj)) = v6 at *
                      refine wpAnyH_done (by kernel_rfl) ?_ _
                      go_wp2_with fail
                      go_meet
                      exact ⟨g12, g13, rfl, rfl, Lib.hid hB6, HS12, HS13⟩
                ·
                  go_simp
                  obtain ⟨g13, hg13⟩ : ∃ g, v2.heap.size = g := ⟨_, rfl⟩
                  have HG13 := Lib.hid (show RgAt (v2.alloc (.cells #[.bool false, .string ⟨#[]⟩, .string ⟨#[]⟩, .string ⟨#[]⟩, .int .i64 0, .bool false, .bool false] 35)) g13 Rg.zero from hg13 ▸ rg_new v2 Rg.zero 35)
                  have hB3 : Below wr.heap.size wr (v2.alloc (.cells #[.bool false, .string ⟨#[]⟩, .string ⟨#[]⟩, .string ⟨#[]⟩, .int .i64 0, .bool false, .bool false] 35)) := hB2.alloc hB2.size _
                  have hw13 : wr.heap.size ≤ g13 := hg13 ▸ hB2.size
                  have hne : g12 < g13 := hg13 ▸ HG12.out.lt
                  replace HG12 := Lib.hid (HG12.out.keep ((Below.refl _ _).alloc (Nat.le_refl _) (.cells #[.bool false, .string ⟨#[]⟩, .string ⟨#[]⟩, .string ⟨#[]⟩, .int .i64 0, .bool false, .bool false] 35)))
                  try rw [hg13]
                  try simp only [hg13]
                  refine hK.out _ _ (HSS.out _ hB3) (fun hH => ?_)
                  clear hK K
                  try simp only [Act.put, List.setIfInBounds_toArray, List.set_cons_zero, List.set_cons_succ]
                  generalize v2.alloc (.cells #[.bool false, .string ⟨#[]⟩, .string ⟨#[]⟩, .string ⟨#[]⟩, .int .i64 0, .bool false, .bool false] 35) = v3 at *
                  refine wpAnyH_ready (rs := [11]) (by kernel_rfl) (by simp) ?_
                  refine AllReadyH.cons rfl (fun K hK => ?_) (AllReadyH.nil)
                  ·
                    go_simp
                    refine (HFX.out v3 (HOKr.out.keep hB3)).mono ?_
                    rintro e v4 ⟨rfl, hb'⟩
                    have hB4 : Below wr.heap.size wr v4 := hB3.trans (hb'.mono hB3.size)
                    replace HG12 := Lib.hid (HG12.out.keep hb')
                    replace HG13 := Lib.hid (HG13.out.keep hb')
                    clear hb'
                    try simp only []
                    refine hK.out _ _ (HSS.out _ hB4) (fun hH => ?_)
                    clear hK K
                    try simp only [Act.put, List.setIfInBounds_toArray, List.set_cons_zero, List.set_cons_succ]
                    refine wpAnyH_ready (rs := [14]) (by kernel_rfl) (by simp) ?_
                    refine AllReadyH.cons rfl (fun K hK => ?_) (AllReadyH.nil)
                    ·
                      obtain ⟨f0, f1, f2, f3, f4, f5, f6, ff, fl⟩ := HG12.out
                      simp only [Rg.zero] at f0 f1 f2 f3 f4 f5 f6
                      go_simp
                      clear f0 f1 f2 f3 f4 f5 f6 ff fl
                      have hB5 : Below wr.heap.size wr (((((((v4.setCell ⟨g12, 0, none⟩ (.bool yk)).setCell ⟨g12, 1, none⟩ (.string yc)).setCell ⟨g12, 2, none⟩ (.string yg)).setCell ⟨g12, 3, none⟩ (.string ys)).setCell ⟨g12, 4, none⟩ (.int .i64 yn)).setCell ⟨g12, 5, none⟩ (.bool yr)).setCell ⟨g12, 6, none⟩ (.bool yj)) := ((((((hB4.setCell hw12 _).setCell hw12 _).setCell hw12 _).setCell hw12 _).setCell hw12 _).setCell hw12 _).setCell hw12 _
                      have HS12 := Lib.hid (rg_set HG12.out ⟨yk, yc, yg, ys, yn, yr, yj⟩)
                      replace HG13 := Lib.hid (rg_far HG13.out (show g12 ≠ g13 by omega) (.bool yk) (.string yc) (.string yg) (.string ys) (.int .i64 yn) (.bool yr) (.bool yj))
                      try simp only [] at HS12
                      refine hK.out _ _ (HSS.out _ hB5) (fun hH => ?_)
                      clear hK K
                      try simp only [Act.put, List.setIfInBounds_toArray, List.set_cons_zero, List.set_cons_succ]
                      generalize (((((((v4.setCell ⟨g12, 0, none⟩ (.bool yk)).setCell ⟨g12, 1, none⟩ (.string yc)).setCell ⟨g12, 2, none⟩ (.string yg)).setCell ⟨g12, 3, none⟩ (.string ys)).setCell ⟨g12, 4, none⟩ (.int .i64 yn)).setCell ⟨g12, 5, none⟩ (.bool yr)).setCell ⟨g12, 6, none⟩ (.bool yj)) = v5 at *
                      refine wpAnyH_ready (rs := [15]) (by kernel_rfl) (by simp) ?_
                      refine AllReadyH.cons rfl (fun K hK => ?_) AllReadyH.nil
                      obtain ⟨f0, f1, f2, f3, f4, f5, f6, ff, fl⟩ := HG13.out
                      simp only [Rg.zero] at f0 f1 f2 f3 f4 f5 f6
                      go_simp
                      clear f0 f1 f2 f3 f4 f5 f6 ff fl
                      have hB6 : Below wr.heap.size wr (((((((v5.setCell ⟨g13, 0, none⟩ (.bool zk)).setCell ⟨g13, 1, none⟩ (.string zc)).setCell ⟨g13, 2, none⟩ (.string zg)).setCell ⟨g13, 3, none⟩ (.string zs)).setCell ⟨g13, 4, none⟩ (.int .i64 zn)).setCell ⟨g13, 5, none⟩ (.bool zr)).setCell ⟨g13, 6, none⟩ (.bool zj)) := ((((((hB5.setCell hw13 _).setCell hw13 _).setCell hw13 _).setCell hw13 _).setCell hw13 _).setCell hw13 _).setCell hw13 _
                      have HS13 := Lib.hid (rg_set HG13.out ⟨zk, zc, zg, zs, zn, zr, zj⟩)
                      replace HS12 := Lib.hid (rg_far HS12.out (show g13 ≠ g12 by omega) (.bool zk) (.string zc) (.string zg) (.string zs) (.int .i64 zn) (.bool zr) (.bool zj))
                      try simp only [] at HS12
                      refine hK.out _ _ (HSS.out _ hB6) (fun hH => ?_)
                      clear hK K
                      try simp only [Act.put, List.setIfInBounds_toArray, List.set_cons_zero, List.set_cons_succ]
                      generalize (((((((v5.setCell ⟨g13, 0, none⟩ (.bool zk)).setCell ⟨g13, 1, none⟩ (.string zc)).setCell ⟨g13, 2, none⟩ (.string zg)).setCell ⟨g13, 3, none⟩ (.string zs)).setCell ⟨g13, 4, none⟩ (.int .i64 zn)).setCell ⟨g13, 5, none⟩ (.bool zr)).setCell ⟨g13, 6, none⟩ (.bool zj)) = v6 at *
                      refine wpAnyH_done (by kernel_rfl) ?_ _
                      go_wp2_with fail
                      go_meet
                      exact ⟨g12, g13, rfl, rfl, Lib.hid hB6, HS12, HS13⟩
              ·
                go_simp
                obtain ⟨g13, hg13⟩ : ∃ g, v1.heap.size = g := ⟨_, rfl⟩
                have HG13 := Lib.hid (show RgAt (v1.alloc (.cells #[.bool false, .string ⟨#[]⟩, .string ⟨#[]⟩, .string ⟨#[]⟩, .int .i64 0, .bool false, .bool false] 35)) g13 Rg.zero from hg13 ▸ rg_new v1 Rg.zero 35)
                have hB2 : Below wr.heap.size wr (v1.alloc (.cells #[.bool false, .string ⟨#[]⟩, .string ⟨#[]⟩, .string ⟨#[]⟩, .int .i64 0, .bool false, .bool false] 35)) := hB1.alloc hB1.size _
                have hw13 : wr.heap.size ≤ g13 := hg13 ▸ hB1.size
                try rw [hg13]
                try simp only [hg13]
                refine hK.out _ _ (HSS.out _ hB2) (fun hH => ?_)
                clear hK K
                try simp only [Act.put, List.setIfInBounds_toArray, List.set_cons_zero, List.set_cons_succ]
                generalize v1.alloc (.cells #[.bool false, .string ⟨#[]⟩, .string ⟨#[]⟩, .string ⟨#[]⟩, .int .i64 0, .bool false, .bool false] 35) = v2 at *
                refine wpAnyH_ready (rs := [11, 12]) (by kernel_rfl) (by simp) ?_
                refine AllReadyH.cons rfl (fun K hK => ?_) (AllReadyH.cons rfl (fun K hK => ?_) (AllReadyH.nil))
                ·
                  go_simp
                  refine (HFX.out v2 (HOKr.out.keep hB2)).mono ?_
                  rintro e v3 ⟨rfl, hb'⟩
                  have hB3 : Below wr.heap.size wr v3 := hB2.trans (hb'.mono hB2.size)
                  replace HG13 := Lib.hid (HG13.out.keep hb')
                  clear hb'
                  try simp only []
                  refine hK.out _ _ (HSS.out _ hB3) (fun hH => ?_)
                  clear hK K
                  try simp only [Act.put, List.setIfInBounds_toArray, List.set_cons_zero, List.set_cons_succ]
                  refine wpAnyH_ready (rs := [12]) (by kernel_rfl) (by simp) ?_
                  refine AllReadyH.cons rfl (fun K hK => ?_) (AllReadyH.nil)
                  ·
                    go_simp
                    obtain ⟨g12, hg12⟩ : ∃ g, v3.heap.size = g := ⟨_, rfl⟩
                    have HG12 := Lib.hid (show RgAt (v3.alloc (.cells #[.bool false, .string ⟨#[]⟩, .string ⟨#[]⟩, .string ⟨#[]⟩, .int .i64 0, .bool false, .bool false] 35)) g12 Rg.zero from hg12 ▸ rg_new v3 Rg.zero 35)
                    have hB4 : Below wr.heap.size wr (v3.alloc (.cells #[.bool false, .string ⟨#[]⟩, .string ⟨#[]⟩, .string ⟨#[]⟩, .int .i64 0, .bool false, .bool false] 35)) := hB3.alloc hB3.size _
                    have hw12 : wr.heap.size ≤ g12 := hg12 ▸ hB3.size
                    have hne : g13 < g12 := hg12 ▸ HG13.out.lt
                    replace HG13 := Lib.hid (HG13.out.keep ((Below.refl _ _).alloc (Nat.le_refl _) (.cells #[.bool false, .string ⟨#[]⟩, .string ⟨#[]⟩, .string ⟨#[]⟩, .int .i64 0, .bool false, .bool false] 35)))
                    try rw [hg12]
                    try simp only [hg12]
                    refine hK.out _ _ (HSS.out _ hB4) (fun hH => ?_)
                    clear hK K
                    try simp only [Act.put, List.setIfInBounds_toArray, List.set_cons_zero, List.set_cons_succ]
                    generalize v3.alloc (.cells #[.bool false, .string ⟨#[]⟩, .string ⟨#[]⟩, .string ⟨#[]⟩, .int .i64 0, .bool false, .bool false] 35) = v4 at *
                    refine wpAnyH_ready (rs := [14]) (by kernel_rfl) (by simp) ?_
                    refine AllReadyH.cons rfl (fun K hK => ?_) (AllReadyH.nil)
                    ·
                      obtain ⟨f0, f1, f2, f3, f4, f5, f6, ff, fl⟩ := HG12.out
                      simp only [Rg.zero] at f0 f1 f2 f3 f4 f5 f6
                      go_simp
                      clear f0 f1 f2 f3 f4 f5 f6 ff fl
                      have hB5 : Below wr.heap.size wr (((((((v4.setCell ⟨g12, 0, none⟩ (.bool yk)).setCell ⟨g12, 1, none⟩ (.string yc)).setCell ⟨g12, 2, none⟩ (.string yg)).setCell ⟨g12, 3, none⟩ (.string ys)).setCell ⟨g12, 4, none⟩ (.int .i64 yn)).setCell ⟨g12, 5, none⟩ (.bool yr)).setCell ⟨g12, 6, none⟩ (.bool yj)) := ((((((hB4.setCell hw12 _).setCell hw12 _).setCell hw12 _).setCell hw12 _).setCell hw12 _).setCell hw12 _).setCell hw12 _
                      have HS12 := Lib.hid (rg_set HG12.out ⟨yk, yc, yg, ys, yn, yr, yj⟩)
                      replace HG13 := Lib.hid (rg_far HG13.out (show g12 ≠ g13 by omega) (.bool yk) (.string yc) (.string yg) (.string ys) (.int .i64 yn) (.bool yr) (.bool yj))
                      try simp only [] at HS12
                      refine hK.out _ _ (HSS.out _ hB5) (fun hH => ?_)
                      clear hK K
                      try simp only [Act.put, List.setIfInBounds_toArray, List.set_cons_zero, List.set_cons_succ]
                      generalize (((((((v4.setCell ⟨g12, 0, none⟩ (.bool yk)).setCell ⟨g12, 1, none⟩ (.string yc)).setCell ⟨g12, 2, none⟩ (.string yg)).setCell ⟨g12, 3, none⟩ (.string ys)).setCell ⟨g12, 4, none⟩ (.int .i64 yn)).setCell ⟨g12, 5, none⟩ (.bool yr)).setCell ⟨g12, 6, none⟩ (.bool yj)) = v5 at *
                      refine wpAnyH_ready (rs := [15]) (by kernel_rfl) (by simp) ?_
                      refine AllReadyH.cons rfl (fun K hK => ?_) AllReadyH.nil
                      obtain ⟨f0, f1, f2, f3, f4, f5, f6, ff, fl⟩ := HG13.out
                      simp only [Rg.zero] at f0 f1 f2 f3 f4 f5 f6
                      go_simp
                      clear f0 f1 f2 f3 f4 f5 f6 ff fl
                      have hB6 : Below wr.heap.size wr (((((((v5.setCell ⟨g13, 0, none⟩ (.bool zk)).setCell ⟨g13, 1, none⟩ (.string zc)).setCell ⟨g13, 2, none⟩ (.string zg)).setCell ⟨g13, 3, none⟩ (.string zs)).setCell ⟨g13, 4, none⟩ (.int .i64 zn)).setCell ⟨g13, 5, none⟩ (.bool zr)).setCell ⟨g13, 6, none⟩ (.bool zj)) := ((((((hB5.setCell hw13 _).setCell hw13 _).setCell hw13 _).setCell hw13 _).setCell hw13 _).setCell hw13 _).setCell hw13 _
                      have HS13 := Lib.hid (rg_set HG13.out ⟨zk, zc, zg, zs, zn, zr, zj⟩)
                      replace HS12 := Lib.hid (rg_far HS12.out (show g13 ≠ g12 by omega) (.bool zk) (.string zc) (.string zg) (.string zs) (.int .i64 zn) (.bool zr) (.bool zj))
                      try simp only [] at HS12
                      refine hK.out _ _ (HSS.out _ hB6) (fun hH => ?_)
                      clear hK K
                      try simp only [Act.put, List.setIfInBounds_toArray, List.set_cons_zero, List.set_cons_succ]
                      generalize (((((((v5.setCell ⟨g13, 0, none⟩ (.bool zk)).setCell ⟨g13, 1, none⟩ (.string zc)).setCell ⟨g13, 2, none⟩ (.string zg)).setCell ⟨g13, 3, none⟩ (.string zs)).setCell ⟨g13, 4, none⟩ (.int .i64 zn)).setCell ⟨g13, 5, none⟩ (.bool zr)).setCell ⟨g13, 6, none⟩ (.bool zj)) = v6 at *
                      refine wpAnyH_done (by kernel_rfl) ?_ _
                      go_wp2_with fail
                      go_meet
                      exact ⟨g12, g13, rfl, rfl, Lib.hid hB6, HS12, HS13⟩
                ·
                  go_simp
                  obtain ⟨g12, hg12⟩ : ∃ g, v2.heap.size = g := ⟨_, rfl⟩
                  have HG12 := Lib.hid (show RgAt (v2.alloc (.cells #[.bool false, .string ⟨#[]⟩, .string ⟨#[]⟩, .string ⟨#[]⟩, .int .i64 0, .bool false, .bool false] 35)) g12 Rg.zero from hg12 ▸ rg_new v2 Rg.zero 35)
                  have hB3 : Below wr.heap.size wr (v2.alloc (.cells #[.bool false, .string ⟨#[]⟩, .string ⟨#[]⟩, .string ⟨#[]⟩, .int .i64 0, .bool false, .bool false] 35)) := hB2.alloc hB2.size _
                  have hw12 : wr.heap.size ≤ g12 := hg12 ▸ hB2.size
                  have hne : g13 < g12 := hg12 ▸ HG13.out.lt
                  replace HG13 := Lib.hid (HG13.out.keep ((Below.refl _ _).alloc (Nat.le_refl _) (.cells #[.bool false, .string ⟨#[]⟩, .string ⟨#[]⟩, .string ⟨#[]⟩, .int .i64 0, .bool false, .bool false] 35)))
                  try rw [hg12]
                  try simp only [hg12]
                  refine hK.out _ _ (HSS.out _ hB3) (fun hH => ?_)
                  clear hK K
                  try simp only [Act.put, List.setIfInBounds_toArray, List.set_cons_zero, List.set_cons_succ]
                  generalize v2.alloc (.cells #[.bool false, .string ⟨#[]⟩, .string ⟨#[]⟩, .string ⟨#[]⟩, .int .i64 0, .bool false, .bool false] 35) = v3 at *
                  refine wpAnyH_ready (rs := [11]) (by kernel_rfl) (by simp) ?_
                  refine AllReadyH.cons rfl (fun K hK => ?_) (AllReadyH.nil)
                  ·
                    go_simp
                    refine (HFX.out v3 (HOKr.out.keep hB3)).mono ?_
                    rintro e v4 ⟨rfl, hb'⟩
                    have hB4 : Below wr.heap.size wr v4 := hB3.trans (hb'.mono hB3.size)
                    replace HG13 := Lib.hid (HG13.out.keep hb')
                    replace HG12 := Lib.hid (HG12.out.keep hb')
                    clear hb'
                    try simp only []
                    refine hK.out _ _ (HSS.out _ hB4) (fun hH => ?_)
                    clear hK K
                    try simp only [Act.put, List.setIfInBounds_toArray, List.set_cons_zero, List.set_cons_succ]
                    refine wpAnyH_ready (rs := [14]) (by kernel_rfl) (by simp) ?_
                    refine AllReadyH.cons rfl (fun K hK => ?_) (AllReadyH.nil)
                    ·
                      obtain ⟨f0, f1, f2, f3, f4, f5, f6, ff, fl⟩ := HG12.out
                      simp only [Rg.zero] at f0 f1 f2 f3 f4 f5 f6
                      go_simp
                      clear f0 f1 f2 f3 f4 f5 f6 ff fl
                      have hB5 : Below wr.heap.size wr (((((((v4.setCell ⟨g12, 0, none⟩ (.bool yk)).setCell ⟨g12, 1, none⟩ (.string yc)).setCell ⟨g12, 2, none⟩ (.string yg)).setCell ⟨g12, 3, none⟩ (.string ys)).setCell ⟨g12, 4, none⟩ (.int .i64 yn)).setCell ⟨g12, 5, none⟩ (.bool yr)).setCell ⟨g12, 6, none⟩ (.bool yj)) := ((((((hB4.setCell hw12 _).setCell hw12 _).setCell hw12 _).setCell hw12 _).setCell hw12 _).setCell hw12 _).setCell hw12 _
                      have HS12 := Lib.hid (rg_set HG12.out ⟨yk, yc, yg, ys, yn, yr, yj⟩)
                      replace HG13 := Lib.hid (rg_far HG13.out (show g12 ≠ g13 by omega) (.bool yk) (.string yc) (.string yg) (.string ys) (.int .i64 yn) (.bool yr) (.bool yj))
                      try simp only [] at HS12
                      refine hK.out _ _ (HSS.out _ hB5) (fun hH => ?_)
                      clear hK K
                      try simp only [Act.put, List.setIfInBounds_toArray, List.set_cons_zero, List.set_cons_succ]
                      generalize (((((((v4.setCell ⟨g12, 0, none⟩ (.bool yk)).setCell ⟨g12, 1, none⟩ (.string yc)).setCell ⟨g12, 2, none⟩ (.string yg)).setCell ⟨g12, 3, none⟩ (.string ys)).setCell ⟨g12, 4, none⟩ (.int .i64 yn)).setCell ⟨g12, 5, none⟩ (.bool yr)).setCell ⟨g12, 6, none⟩ (.bool yj)) = v5 at *
                      refine wpAnyH_ready (rs := [15]) (by kernel_rfl) (by simp) ?_
                      refine AllReadyH.cons rfl (fun K hK => ?_) AllReadyH.nil
                      obtain ⟨f0, f1, f2, f3, f4, f5, f6, ff, fl⟩ := HG13.out
                      simp only [Rg.zero] at f0 f1 f2 f3 f4 f5 f6
                      go_simp
                      clear f0 f1 f2 f3 f4 f5 f6 ff fl
                      have hB6 : Below wr.heap.size wr (((((((v5.setCell ⟨g13, 0, none⟩ (.bool zk)).setCell ⟨g13, 1, none⟩ (.string zc)).setCell ⟨g13, 2, none⟩ (.string zg)).setCell ⟨g13, 3, none⟩ (.string zs)).setCell ⟨g13, 4, none⟩ (.int .i64 zn)).setCell ⟨g13, 5, none⟩ (.bool zr)).setCell ⟨g13, 6, none⟩ (.bool zj)) := ((((((hB5.setCell hw13 _).setCell hw13 _).setCell hw13 _).setCell hw13 _).setCell hw13 _).setCell hw13 _).setCell hw13 _
                      have HS13 := Lib.hid (rg_set HG13.out ⟨zk, zc, zg, zs, zn, zr, zj⟩)
                      replace HS12 := Lib.hid (rg_far HS12.out (show g13 ≠ g12 by omega) (.bool zk) (.string zc) (.string zg) (.string zs) (.int .i64 zn) (.bool zr) (.bool zj))
                      try simp only [] at HS12
                      refine hK.out _ _ (HSS.out _ hB6) (fun hH => ?_)
                      clear hK K
                      try simp only [Act.put, List.setIfInBounds_toArray, List.set_cons_zero, List.set_cons_succ]
                      generalize (((((((v5.setCell ⟨g13, 0, none⟩ (.bool zk)).setCell ⟨g13, 1, none⟩ (.string zc)).setCell ⟨g13, 2, none⟩ (.string zg)).setCell ⟨g13, 3, none⟩ (.string zs)).setCell ⟨g13, 4, none⟩ (.int .i64 zn)).setCell ⟨g13, 5, none⟩ (.bool zr)).setCell ⟨g13, 6, none⟩ (.bool zj)) = v6 at *
                      refine wpAnyH_done (by kernel_rfl) ?_ _
                      go_wp2_with fail
                      go_meet
                      exact ⟨g12, g13, rfl, rfl, Lib.hid hB6, HS12, HS13⟩
            ·
              go_simp
              obtain ⟨g12, hg12⟩ : ∃ g, v0.heap.size = g := ⟨_, rfl⟩
              have HG12 := Lib.hid (show RgAt (v0.alloc (.cells #[.bool false, .string ⟨#[]⟩, .string ⟨#[]⟩, .string ⟨#[]⟩, .int .i64 0, .bool false, .bool false] 35)) g12 Rg.zero from hg12 ▸ rg_new v0 Rg.zero 35)
              have hB1 : Below wr.heap.size wr (v0.alloc (.cells #[.bool false, .string ⟨#[]⟩, .string ⟨#[]⟩, .string ⟨#[]⟩, .int .i64 0, .bool false, .bool false] 35)) := hB0.alloc hB0.size _
              have hw12 : wr.heap.size ≤ g12 := hg12 ▸ hB0.size
              try rw [hg12]
              try simp only [hg12]
              refine hK.out _ _ (HSS.out _ hB1) (fun hH => ?_)
              clear hK K
              try simp only [Act.put, List.setIfInBounds_toArray, List.set_cons_zero, List.set_cons_succ]
              generalize v0.alloc (.cells #[.bool false, .string ⟨#[]⟩, .string ⟨#[]⟩, .string ⟨#[]⟩, .int .i64 0, .bool false, .bool false] 35) = v1 at *
              refine wpAnyH_ready (rs := [5, 13]) (by kernel_rfl) (by simp) ?_
              refine AllReadyH.cons rfl (fun K hK => ?_) (AllReadyH.cons rfl (fun K hK => ?_) (AllReadyH.nil))
              ·
                go_simp
                refine (HIX.out v1 (HOKr.out.keep hB1)).mono ?_
                rintro e v2 ⟨rfl, hb'⟩
                have hB2 : Below wr.heap.size wr v2 := hB1.trans (hb'.mono hB1.size)
                replace HG12 := Lib.hid (HG12.out.keep hb')
                clear hb'
                try simp only []
                refine hK.out _ _ (HSS.out _ hB2) (fun hH => ?_)
                clear hK K
                try simp only [Act.put, List.setIfInBounds_toArray, List.set_cons_zero, List.set_cons_succ]
                refine wpAnyH_ready (rs := [11, 13]) (by kernel_rfl) (by simp) ?_
                refine AllReadyH.cons rfl (fun K hK => ?_) (AllReadyH.cons rfl (fun K hK => ?_) (AllReadyH.nil))
                ·
                  go_simp
                  refine (HFX.out v2 (HOKr.out.keep hB2)).mono ?_
                  rintro e v3 ⟨rfl, hb'⟩
                  have hB3 : Below wr.heap.size wr v3 := hB2.trans (hb'.mono hB2.size)
                  replace HG12 := Lib.hid (HG12.out.keep hb')
                  clear hb'
                  try simp only []
                  refine hK.out _ _ (HSS.out _ hB3) (fun hH => ?_)
                  clear hK K
                  try simp only [Act.put, List.setIfInBounds_toArray, List.set_cons_zero, List.set_cons_succ]
                  refine wpAnyH_ready (rs := [13]) (by kernel_rfl) (by simp) ?_
                  refine AllReadyH.cons rfl (fun K hK => ?_) (AllReadyH.nil)
                  ·
                    go_simp
                    obtain ⟨g13, hg13⟩ : ∃ g, v3.heap.size = g := ⟨_, rfl⟩
                    have HG13 := Lib.hid (show RgAt (v3.alloc (.cells #[.bool false, .string ⟨#[]⟩, .string ⟨#[]⟩, .string ⟨#[]⟩, .int .i64 0, .bool false, .bool false] 35)) g13 Rg.zero from hg13 ▸ rg_new v3 Rg.zero 35)
                    have hB4 : Below wr.heap.size wr (v3.alloc (.cells #[.bool false, .string ⟨#[]⟩, .string ⟨#[]⟩, .string ⟨#[]⟩, .int .i64 0, .bool false, .bool false] 35)) := hB3.alloc hB3.size _
                    have hw13 : wr.heap.size ≤ g13 := hg13 ▸ hB3.size
                    have hne : g12 < g13 := hg13 ▸ HG12.out.lt
                    replace HG12 := Lib.hid (HG12.out.keep ((Below.refl _ _).alloc (Nat.le_refl _) (.cells #[.bool false, .string ⟨#[]⟩, .string ⟨#[]⟩, .string ⟨#[]⟩, .int .i64 0, .bool false, .bool false] 35)))
                    try rw [hg13]
                    try simp only [hg13]
                    refine hK.out _ _ (HSS.out _ hB4) (fun hH => ?_)
                    clear hK K
                    try simp only [Act.put, List.setIfInBounds_toArray, List.set_cons_zero, List.set_cons_succ]
                    generalize v3.alloc (.cells #[.bool false, .string ⟨#[]⟩, .string ⟨#[]⟩, .string ⟨#[]⟩, .int .i64 0, .bool false, .bool false] 35) = v4 at *
                    refine wpAnyH_ready (rs := [14]) (by kernel_rfl) (by simp) ?_
                    refine AllReadyH.cons rfl (fun K hK => ?_) (AllReadyH.nil)
                    ·
                      obtain ⟨f0, f1, f2, f3, f4, f5, f6, ff, fl⟩ := HG12.out
                      simp only [Rg.zero] at f0 f1 f2 f3 f4 f5 f6
                      go_simp
                      clear f0 f1 f2 f3 f4 f5 f6 ff fl
                      have hB5 : Below wr.heap.size wr (((((((v4.setCell ⟨g12, 0, none⟩ (.bool yk)).setCell ⟨g12, 1, none⟩ (.string yc)).setCell ⟨g12, 2, none⟩ (.string yg)).setCell ⟨g12, 3, none⟩ (.string ys)).setCell ⟨g12, 4, none⟩ (.int .i64 yn)).setCell ⟨g12, 5, none⟩ (.bool yr)).setCell ⟨g12, 6, none⟩ (.bool yj)) := ((((((hB4.setCell hw12 _).setCell hw12 _).setCell hw12 _).setCell hw12 _).setCell hw12 _).setCell hw12 _).setCell hw12 _
                      have HS12 := Lib.hid (rg_set HG12.out ⟨yk, yc, yg, ys, yn, yr, yj⟩)
                      replace HG13 := Lib.hid (rg_far HG13.out (show g12 ≠ g13 by omega) (.bool yk) (.string yc) (.string yg) (.string ys) (.int .i64 yn) (.bool yr) (.bool yj))
                      try simp only [] at HS12
                      refine hK.out _ _ (HSS.out _ hB5) (fun hH => ?_)
                      clear hK K
                      try simp only [Act.put, List.setIfInBounds_toArray, List.set_cons_zero, List.set_cons_succ]
                      generalize (((((((v4.setCell ⟨g12, 0, none⟩ (.bool yk)).setCell ⟨g12, 1, none⟩ (.string yc)).setCell ⟨g12, 2, none⟩ (.string yg)).setCell ⟨g12, 3, none⟩ (.string ys)).setCell ⟨g12, 4, none⟩ (.int .i64 yn)).setCell ⟨g12, 5, none⟩ (.bool yr)).setCell ⟨g12, 6, none⟩ (.bool yj)) = v5 at *
                      refine wpAnyH_ready (rs := [15]) (by kernel_rfl) (by simp) ?_
                      refine AllReadyH.cons rfl (fun K hK => ?_) AllReadyH.nil
                      obtain ⟨f0, f1, f2, f3, f4, f5, f6, ff, fl⟩ := HG13.out
                      simp only [Rg.zero] at f0 f1 f2 f3 f4 f5 f6
                      go_simp
                      clear f0 f1 f2 f3 f4 f5 f6 ff fl
                      have hB6 : Below wr.heap.size wr (((((((v5.setCell ⟨g13, 0, none⟩ (.bool zk)).setCell ⟨g13, 1, none⟩ (.string zc)).setCell ⟨g13, 2, none⟩ (.string zg)).setCell ⟨g13, 3, none⟩ (.string zs)).setCell ⟨g13, 4, none⟩ (.int .i64 zn)).setCell ⟨g13, 5, none⟩ (.bool zr)).setCell ⟨g13, 6, none⟩ (.bool zj)) := ((((((hB5.setCell hw13 _).setCell hw13 _).setCell hw13 _).setCell hw13 _).setCell hw13 _).setCell hw13 _).setCell hw13 _
                      have HS13 := Lib.hid (rg_set HG13.out ⟨zk, zc, zg, zs, zn, zr, zj⟩)
                      replace HS12 := Lib.hid (rg_far HS12.out (show g13 ≠ g12 by omega) (.bool zk) (.string zc) (.string zg) (.string zs) (.int .i64 zn) (.bool zr) (.bool zj))
                      try simp only [] at HS12
                      refine hK.out _ _ (HSS.out _ hB6) (fun hH => ?_)
                      clear hK K
                      try simp only [Act.put, List.setIfInBounds_toArray, List.set_cons_zero, List.set_cons_succ]
                      generalize (((((((v5.setCell ⟨g13, 0, none⟩ (.bool zk)).setCell ⟨g13, 1, none⟩ (.string zc)).setCell ⟨g13, 2, none⟩ (.string zg)).setCell ⟨g13, 3, none⟩ (.string zs)).setCell ⟨g13, 4, none⟩ (.int .i64 zn)).setCell ⟨g13, 5, none⟩ (.bool zr)).setCell ⟨g13, 6, none⟩ (.bool zj)) = v6 at *
                      refine wpAnyH_done (by kernel_rfl) ?_ _
                      go_wp2_with fail
                      go_meet
                      exact ⟨g12, g13, rfl, rfl, Lib.hid hB6, HS12, HS13⟩
                ·
                  go_simp
                  obtain ⟨g13, hg13⟩ : ∃ g, v2.heap.size = g := ⟨_, rfl⟩
                  have HG13 := Lib.hid (show RgAt (v2.alloc (.cells #[.bool false, .string ⟨#[]⟩, .string ⟨#[]⟩, .string ⟨#[]⟩, .int .i64 0, .bool false, .bool false] 35)) g13 Rg.zero from hg13 ▸ rg_new v2 Rg.zero 35)
                  have hB3 : Below wr.heap.size wr (v2.alloc (.cells #[.bool false, .string ⟨#[]⟩, .string ⟨#[]⟩, .string ⟨#[]⟩, .int .i64 0, .bool false, .bool false] 35)) := hB2.alloc hB2.size _
                  have hw13 : wr.heap.size ≤ g13 := hg13 ▸ hB2.size
                  have hne : g12 < g13 := hg13 ▸ HG12.out.lt
                  replace HG12 := Lib.hid (HG12.out.keep ((Below.refl _ _).alloc (Nat.le_refl _) (.cells #[.bool false, .string ⟨#[]⟩, .string ⟨#[]⟩, .string ⟨#[]⟩, .int .i64 0, .bool false, .bool false] 35)))
                  try rw [hg13]
                  try simp only [hg13]
                  refine hK.out _ _ (HSS.out _ hB3) (fun hH => ?_)
                  clear hK K
                  try simp only [Act.put, List.setIfInBounds_toArray, List.set_cons_zero, List.set_cons_succ]
                  generalize v2.alloc (.cells #[.bool false, .string ⟨#[]⟩, .string ⟨#[]⟩, .string ⟨#[]⟩, .int .i64 0, .bool false, .bool false] 35) = v3 at *
                  refine wpAnyH_ready (rs := [11]) (by kernel_rfl) (by simp) ?_
                  refine AllReadyH.cons rfl (fun K hK => ?_) (AllReadyH.nil)
                  ·
                    go_simp
                    refine (HFX.out v3 (HOKr.out.keep hB3)).mono ?_
                    rintro e v4 ⟨rfl, hb'⟩
                    have hB4 : Below wr.heap.size wr v4 := hB3.trans (hb'.mono hB3.size)
                    replace HG12 := Lib.hid (HG12.out.keep hb')
                    replace HG13 := Lib.hid (HG13.out.keep hb')
                    clear hb'
                    try simp only []
                    refine hK.out _ _ (HSS.out _ hB4) (fun hH => ?_)
                    clear hK K
                    try simp only [Act.put, List.setIfInBounds_toArray, List.set_cons_zero, List.set_cons_succ]
                    refine wpAnyH_ready (rs := [14]) (by kernel_rfl) (by simp) ?_
                    refine AllReadyH.cons rfl (fun K hK => ?_) (AllReadyH.nil)
                    ·
                      obtain ⟨f0, f1, f2, f3, f4, f5, f6, ff, fl⟩ := HG12.out
                      simp only [Rg.zero] at f0 f1 f2 f3 f4 f5 f6
                      go_simp
                      clear f0 f1 f2 f3 f4 f5 f6 ff fl
                      have hB5 : Below wr.heap.size wr (((((((v4.setCell ⟨g12, 0, none⟩ (.bool yk)).setCell ⟨g12, 1, none⟩ (.string yc)).setCell ⟨g12, 2, none⟩ (.string yg)).setCell ⟨g12, 3, none⟩ (.string ys)).setCell ⟨g12, 4, none⟩ (.int .i64 yn)).setCell ⟨g12, 5, none⟩ (.bool yr)).setCell ⟨g12, 6, none⟩ (.bool yj)) := ((((((hB4.setCell hw12 _).setCell hw12 _).setCell hw12 _).setCell hw12 _).setCell hw12 _).setCell hw12 _).setCell hw12 _
                      have HS12 := Lib.hid (rg_set HG12.out ⟨yk, yc, yg, ys, yn, yr, yj⟩)
                      replace HG13 := Lib.hid (rg_far HG13.out (show g12 ≠ g13 by omega) (.bool yk) (.string yc) (.string yg) (.string ys) (.int .i64 yn) (.bool yr) (.bool yj))
                      try simp only [] at HS12
                      refine hK.out _ _ (HSS.out _ hB5) (fun hH => ?_)
                      clear hK K
                      try simp only [Act.put, List.setIfInBounds_toArray, List.set_cons_zero, List.set_cons_succ]
                      generalize (((((((v4.setCell ⟨g12, 0, none⟩ (.bool yk)).setCell ⟨g12, 1, none⟩ (.string yc)).setCell ⟨g12, 2, none⟩ (.string yg)).setCell ⟨g12, 3, none⟩ (.string ys)).setCell ⟨g12, 4, none⟩ (.int .i64 yn)).setCell ⟨g12, 5, none⟩ (.bool yr)).setCell ⟨g12, 6, none⟩ (.bool yj)) = v5 at *
                      refine wpAnyH_ready (rs := [15]) (by kernel_rfl) (by simp) ?_
                      refine AllReadyH.cons rfl (fun K hK => ?_) AllReadyH.nil
                      obtain ⟨f0, f1, f2, f3, f4, f5, f6, ff, fl⟩ := HG13.out
                      simp only [Rg.zero] at f0 f1 f2 f3 f4 f5 f6
                      go_simp
                      clear f0 f1 f2 f3 f4 f5 f6 ff fl
                      have hB6 : Below wr.heap.size wr (((((((v5.setCell ⟨g13, 0, none⟩ (.bool zk)).setCell ⟨g13, 1, none⟩ (.string zc)).setCell ⟨g13, 2, none⟩ (.string zg)).setCell ⟨g13, 3, none⟩ (.string zs)).setCell ⟨g13, 4, none⟩ (.int .i64 zn)).setCell ⟨g13, 5, none⟩ (.bool zr)).setCell ⟨g13, 6, none⟩ (.bool zj)) := ((((((hB5.setCell hw13 _).setCell hw13 _).setCell hw13 _).setCell hw13 _).setCell hw13 _).setCell hw13 _).setCell hw13 _
                      have HS13 := Lib.hid (rg_set HG13.out ⟨zk, zc, zg, zs, zn, zr, zj⟩)
                      replace HS12 := Lib.hid (rg_far HS12.out (show g13 ≠ g12 by omega) (.bool zk) (.string zc) (.string zg) (.string zs) (.int .i64 zn) (.bool zr) (.bool zj))
                      try simp only [] at HS12
                      refine hK.out _ _ (HSS.out _ hB6) (fun hH => ?_)
                      clear hK K
                      try simp only [Act.put, List.setIfInBounds_toArray, List.set_cons_zero, List.set_cons_succ]
                      generalize (((((((v5.setCell ⟨g13, 0, none⟩ (.bool zk)).setCell ⟨g13, 1, none⟩ (.string zc)).setCell ⟨g13, 2, none⟩ (.string zg)).setCell ⟨g13, 3, none⟩ (.string zs)).setCell ⟨g13, 4, none⟩ (.int .i64 zn)).setCell ⟨g13, 5, none⟩ (.bool zr)).setCell ⟨g13, 6, none⟩ (.bool zj)) = v6 at *
                      refine wpAnyH_done (by kernel_rfl) ?_ _
                      go_wp2_with fail
                      go_meet
                      exact ⟨g12, g13, rfl, rfl, Lib.hid hB6, HS12, HS13⟩
              ·
                go_simp
                obtain ⟨g13, hg13⟩ : ∃ g, v1.heap.size = g := ⟨_, rfl⟩
                have HG13 := Lib.hid (show RgAt (v1.alloc (.cells #[.bool false, .string ⟨#[]⟩, .string ⟨#[]⟩, .string ⟨#[]⟩, .int .i64 0, .bool false, .bool false] 35)) g13 Rg.zero from hg13 ▸ rg_new v1 Rg.zero 35)
                have hB2 : Below wr.heap.size wr (v1.alloc (.cells #[.bool false, .string ⟨#[]⟩, .string ⟨#[]⟩, .string ⟨#[]⟩, .int .i64 0, .bool false, .bool false] 35)) := hB1.alloc hB1.size _
                have hw13 : wr.heap.size ≤ g13 := hg13 ▸ hB1.size
                have hne : g12 < g13 := hg13 ▸ HG12.out.lt
                replace HG12 := Lib.hid (HG12.out.keep ((Below.refl _ _).alloc (Nat.le_refl _) (.cells #[.bool false, .string ⟨#[]⟩, .string ⟨#[]⟩, .string ⟨#[]⟩, .int .i64 0, .bool false, .bool false] 35)))
                try rw [hg13]
                try simp only [hg13]
                refine hK.out _ _ (HSS.out _ hB2) (fun hH => ?_)
                clear hK K
                try simp only [Act.put, List.setIfInBounds_toArray, List.set_cons_zero, List.set_cons_succ]
                generalize v1.alloc (.cells #[.bool false, .string ⟨#[]⟩, .string ⟨#[]⟩, .string ⟨#[]⟩, .int .i64 0, .bool false, .bool false] 35) = v2 at *
                refine wpAnyH_ready (rs := [5]) (by kernel_rfl) (by simp) ?_
                refine AllReadyH.cons rfl (fun K hK => ?_) (AllReadyH.nil)
                ·
                  go_simp
                  refine (HIX.out v2 (HOKr.out.keep hB2)).mono ?_
                  rintro e v3 ⟨rfl, hb'⟩
                  have hB3 : Below wr.heap.size wr v3 := hB2.trans (hb'.mono hB2.size)
                  replace HG12 := Lib.hid (HG12.out.keep hb')
                  replace HG13 := Lib.hid (HG13.out.keep hb')
                  clear hb'
                  try simp only []
                  refine hK.out _ _ (HSS.out _ hB3) (fun hH => ?_)
                  clear hK K
                  try simp only [Act.put, List.setIfInBounds_toArray, List.set_cons_zero, List.set_cons_succ]
                  refine wpAnyH_ready (rs := [11]) (by kernel_rfl) (by simp) ?_
                  refine AllReadyH.cons rfl (fun K hK => ?_) (AllReadyH.nil)
                  ·
                    go_simp
                    refine (HFX.out v3 (HOKr.out.keep hB3)).mono ?_
                    rintro e v4 ⟨rfl, hb'⟩
                    have hB4 : Below wr.heap.size wr v4 := hB3.trans (hb'.mono hB3.size)
                    replace HG12 := Lib.hid (HG12.out.keep hb')
                    replace HG13 := Lib.hid (HG13.out.keep hb')
                    clear hb'
                    try simp only []
                    refine hK.out _ _ (HSS.out _ hB4) (fun hH => ?_)
                    clear hK K
                    try simp only [Act.put, List.setIfInBounds_toArray, List.set_cons_zero, List.set_cons_succ]
                    refine wpAnyH_ready (rs := [14]) (by kernel_rfl) (by simp) ?_
                    refine AllReadyH.cons rfl (fun K hK => ?_) (AllReadyH.nil)
                    ·
                      obtain ⟨f0, f1, f2, f3, f4, f5, f6, ff, fl⟩ := HG12.out
                      simp only [Rg.zero] at f0 f1 f2 f3 f4 f5 f6
                      go_simp
                      clear f0 f1 f2 f3 f4 f5 f6 ff fl
                      have hB5 : Below wr.heap.size wr (((((((v4.setCell ⟨g12, 0, none⟩ (.bool yk)).setCell ⟨g12, 1, none⟩ (.string yc)).setCell ⟨g12, 2, none⟩ (.string yg)).setCell ⟨g12, 3, none⟩ (.string ys)).setCell ⟨g12, 4, none⟩ (.int .i64 yn)).setCell ⟨g12, 5, none⟩ (.bool yr)).setCell ⟨g12, 6, none⟩ (.bool yj)) := ((((((hB4.setCell hw12 _).setCell hw12 _).setCell hw12 _).setCell hw12 _).setCell hw12 _).setCell hw12 _).setCell hw12 _
                      have HS12 := Lib.hid (rg_set HG12.out ⟨yk, yc, yg, ys, yn, yr, yj⟩)
                      replace HG13 := Lib.hid (rg_far HG13.out (show g12 ≠ g13 by omega) (.bool yk) (.string yc) (.string yg) (.string ys) (.int .i64 yn) (.bool yr) (.bool yj))
                      try simp only [] at HS12
                      refine hK.out _ _ (HSS.out _ hB5) (fun hH => ?_)
                      clear hK K
                      try simp only [Act.put, List.setIfInBounds_toArray, List.set_cons_zero, List.set_cons_succ]
                      generalize (((((((v4.setCell ⟨g12, 0, none⟩ (.bool yk)).setCell ⟨g12, 1, none⟩ (.string yc)).setCell ⟨g12, 2, none⟩ (.string yg)).setCell ⟨g12, 3, none⟩ (.string ys)).setCell ⟨g12, 4, none⟩ (.int .i64 yn)).setCell ⟨g12, 5, none⟩ (.bool yr)).setCell ⟨g12, 6, none⟩ (.bool yj)) = v5 at *
                      refine wpAnyH_ready (rs := [15]) (by kernel_rfl) (by simp) ?_
                      refine AllReadyH.cons rfl (fun K hK => ?_) AllReadyH.nil
                      obtain ⟨f0, f1, f2, f3, f4, f5, f6, ff, fl⟩ := HG13.out
                      simp only [Rg.zero] at f0 f1 f2 f3 f4 f5 f6
                      go_simp
                      clear f0 f1 f2 f3 f4 f5 f6 ff fl
                      have hB6 : Below wr.heap.size wr (((((((v5.setCell ⟨g13, 0, none⟩ (.bool zk)).setCell ⟨g13, 1, none⟩ (.string zc)).setCell ⟨g13, 2, none⟩ (.string zg)).setCell ⟨g13, 3, none⟩ (.string zs)).setCell ⟨g13, 4, none⟩ (.int .i64 zn)).setCell ⟨g13, 5, none⟩ (.bool zr)).setCell ⟨g13, 6, none⟩ (.bool zj)) := ((((((hB5.setCell hw13 _).setCell hw13 _).setCell hw13 _).setCell hw13 _).setCell hw13 _).setCell hw13 _).setCell hw13 _
                      have HS13 := Lib.hid (rg_set HG13.out ⟨zk, zc, zg, zs, zn, zr, zj⟩)
                      replace HS12 := Lib.hid (rg_far HS12.out (show g13 ≠ g12 by omega) (.bool zk) (.string zc) (.string zg) (.string zs) (.int .i64 zn) (.bool zr) (.bool zj))
                      try simp only [] at HS12
                      refine hK.out _ _ (HSS.out _ hB6) (fun hH => ?_)
                      clear hK K
                      try simp only [Act.put, List.setIfInBounds_toArray, List.set_cons_zero, List.set_cons_succ]
                      generalize (((((((v5.setCell ⟨g13, 0, none⟩ (.bool zk)).setCell ⟨g13, 1, none⟩ (.string zc)).setCell ⟨g13, 2, none⟩ (.string zg)).setCell ⟨g13, 3, none⟩ (.string zs)).setCell ⟨g13, 4, none⟩ (.int .i64 zn)).setCell ⟨g13, 5, none⟩ (.bool zr)).setCell ⟨g13, 6, none⟩ (.bool zj)) = v6 at *
                      refine wpAnyH_done (by kernel_rfl) ?_ _
                      go_wp2_with fail
                      go_meet
                      exact ⟨g12, g13, rfl, rfl, Lib.hid hB6, HS12, HS13⟩
            ·
              go_simp
              obtain ⟨g13, hg13⟩ : ∃ g, v0.heap.size = g := ⟨_, rfl⟩
              have HG13 := Lib.hid (show RgAt (v0.alloc (.cells #[.bool false, .string ⟨#[]⟩, .string ⟨#[]⟩, .string ⟨#[]⟩, .int .i64 0, .bool false, .bool false] 35)) g13 Rg.zero from hg13 ▸ rg_new v0 Rg.zero 35)
              have hB1 : Below wr.heap.size wr (v0.alloc (.cells #[.bool false, .string ⟨#[]⟩, .string ⟨#[]⟩, .string ⟨#[]⟩, .int .i64 0, .bool false, .bool false] 35)) := hB0.alloc hB0.size _
              have hw13 : wr.heap.size ≤ g13 := hg13 ▸ hB0.size
              try rw [hg13]
              try simp only [hg13]
              refine hK.out _ _ (HSS.out _ hB1) (fun hH => ?_)
              clear hK K
              try simp only [Act.put, List.setIfInBounds_toArray, List.set_cons_zero, List.set_cons_succ]
              generalize v0.alloc (.cells #[.bool false, .string ⟨#[]⟩, .string ⟨#[]⟩, .string ⟨#[]⟩, .int .i64 0, .bool false, .bool false] 35) = v1 at *
              refine wpAnyH_ready (rs := [5, 12]) (by kernel_rfl) (by simp) ?_
              refine AllReadyH.cons rfl (fun K hK => ?_) (AllReadyH.cons rfl (fun K hK => ?_) (AllReadyH.nil))
              ·
                go_simp
                refine (HIX.out v1 (HOKr.out.keep hB1)).mono ?_
                rintro e v2 ⟨rfl, hb'⟩
                have hB2 : Below wr.heap.size wr v2 := hB1.trans (hb'.mono hB1.size)
                replace HG13 := Lib.hid (HG13.out.keep hb')
                clear hb'
                try simp only []
                refine hK.out _ _ (HSS.out _ hB2) (fun hH => ?_)
                clear hK K
                try simp only [Act.put, List.setIfInBounds_toArray, List.set_cons_zero, List.set_cons_succ]
                refine wpAnyH_ready (rs := [11, 12]) (by kernel_rfl) (by simp) ?_
                refine AllReadyH.cons rfl (fun K hK => ?_) (AllReadyH.cons rfl (fun K hK => ?_) (AllReadyH.nil))
                ·
                  go_simp
                  refine (HFX.out v2 (HOKr.out.keep hB2)).mono ?_
                  rintro e v3 ⟨rfl, hb'⟩
                  have hB3 : Below wr.heap.size wr v3 := hB2.trans (hb'.mono hB2.size)
                  replace HG13 := Lib.hid (HG13.out.keep hb')
                  clear hb'
                  try simp only []
                  refine hK.out _ _ (HSS.out _ hB3) (fun hH => ?_)
                  clear hK K
                  try simp only [Act.put, List.setIfInBounds_toArray, List.set_cons_zero, List.set_cons_succ]
                  refine wpAnyH_ready (rs := [12]) (by kernel_rfl) (by simp) ?_
                  refine AllReadyH.cons rfl (fun K hK => ?_) (AllReadyH.nil)
                  ·
                    go_simp
                    obtain ⟨g12, hg12⟩ : ∃ g, v3.heap.size = g := ⟨_, rfl⟩
                    have HG12 := Lib.hid (show RgAt (v3.alloc (.cells #[.bool false, .string ⟨#[]⟩, .string ⟨#[]⟩, .string ⟨#[]⟩, .int .i64 0, .bool false, .bool false] 35)) g12 Rg.zero from hg12 ▸ rg_new v3 Rg.zero 35)
                    have hB4 : Below wr.heap.size wr (v3.alloc (.cells #[.bool false, .string ⟨#[]⟩, .string ⟨#[]⟩, .string ⟨#[]⟩, .int .i64 0, .bool false, .bool false] 35)) := hB3.alloc hB3.size _
                    have hw12 : wr.heap.size ≤ g12 := hg12 ▸ hB3.size
                    have hne : g13 < g12 := hg12 ▸ HG13.out.lt
                    replace HG13 := Lib.hid (HG13.out.keep ((Below.refl _ _).alloc (Nat.le_refl _) (.cells #[.bool false, .string ⟨#[]⟩, .string ⟨#[]⟩, .string ⟨#[]⟩, .int .i64 0, .bool false, .bool false] 35)))
                    try rw [hg12]
                    try simp only [hg12]
                    refine hK.out _ _ (HSS.out _ hB4) (fun hH => ?_)
                    clear hK K
                    try simp only [Act.put, List.setIfInBounds_toArray, List.set_cons_zero, List.set_cons_succ]
                    generalize v3.alloc (.cells #[.bool false, .string ⟨#[]⟩, .string ⟨#[]⟩, .string ⟨#[]⟩, .int .i64 0, .bool false, .bool false] 35) = v4 at *
                    refine wpAnyH_ready (rs := [14]) (by kernel_rfl) (by simp) ?_
                    refine AllReadyH.cons rfl (fun K hK => ?_) (AllReadyH.nil)
                    ·
                      obtain ⟨f0, f1, f2, f3, f4, f5, f6, ff, fl⟩ := HG12.out
                      simp only [Rg.zero] at f0 f1 f2 f3 f4 f5 f6
                      go_simp
                      clear f0 f1 f2 f3 f4 f5 f6 ff fl
                      have hB5 : Below wr.heap.size wr (((((((v4.setCell ⟨g12, 0, none⟩ (.bool yk)).setCell ⟨g12, 1, none⟩ (.string yc)).setCell ⟨g12, 2, none⟩ (.string yg)).setCell ⟨g12, 3, none⟩ (.string ys)).setCell ⟨g12, 4, none⟩ (.int .i64 yn)).setCell ⟨g12, 5, none⟩ (.bool yr)).setCell ⟨g12, 6, none⟩ (.bool yj)) := ((((((hB4.setCell hw12 _).setCell hw12 _).setCell hw12 _).setCell hw12 _).setCell hw12 _).setCell hw12 _).setCell hw12 _
                      have HS12 := Lib.hid (rg_set HG12.out ⟨yk, yc, yg, ys, yn, yr, yj⟩)
                      replace HG13 := Lib.hid (rg_far HG13.out (show g12 ≠ g13 by omega) (.bool yk) (.string yc) (.string yg) (.string ys) (.int .i64 yn) (.bool yr) (.bool yj))
                      try simp only [] at HS12
                      refine hK.out _ _ (HSS.out _ hB5) (fun hH => ?_)
                      clear hK K
                      try simp only [Act.put, List.setIfInBounds_toArray, List.set_cons_zero, List.set_cons_succ]
                      generalize (((((((v4.setCell ⟨g12, 0, none⟩ (.bool yk)).setCell ⟨g12, 1, none⟩ (.string yc)).setCell ⟨g12, 2, none⟩ (.string yg)).setCell ⟨g12, 3, none⟩ (.string ys)).setCell ⟨g12, 4, none⟩ (.int .i64 yn)).setCell ⟨g12, 5, none⟩ (.bool yr)).setCell ⟨g12, 6, none⟩ (.bool yj)) = v5 at *
                      refine wpAnyH_ready (rs := [15]) (by kernel_rfl) (by simp) ?_
                      refine AllReadyH.cons rfl (fun K hK => ?_) AllReadyH.nil
                      obtain ⟨f0, f1, f2, f3, f4, f5, f6, ff, fl⟩ := HG13.out
                      simp only [Rg.zero] at f0 f1 f2 f3 f4 f5 f6
                      go_simp
                      clear f0 f1 f2 f3 f4 f5 f6 ff fl
                      have hB6 : Below wr.heap.size wr (((((((v5.setCell ⟨g13, 0, none⟩ (.bool zk)).setCell ⟨g13, 1, none⟩ (.string zc)).setCell ⟨g13, 2, none⟩ (.string zg)).setCell ⟨g13, 3, none⟩ (.string zs)).setCell ⟨g13, 4, none⟩ (.int .i64 zn)).setCell ⟨g13, 5, none⟩ (.bool zr)).setCell ⟨g13, 6, none⟩ (.bool zj)) := ((((((hB5.setCell hw13 _).setCell hw13 _).setCell hw13 _).setCell hw13 _).setCell hw13 _).setCell hw13 _).setCell hw13 _
                      have HS13 := Lib.hid (rg_set HG13.out ⟨zk, zc, zg, zs, zn, zr, zj⟩)
                      replace HS12 := Lib.hid (rg_far HS12.out (show g13 ≠ g12 by omega) (.bool zk) (.string zc) (.string zg) (.string zs) (.int .i64 zn) (.bool zr) (.bool zj))
                      try simp only [] at HS12
                      refine hK.out _ _ (HSS.out _ hB6) (fun hH => ?_)
                      clear hK K
                      try simp only [Act.put, List.setIfInBounds_toArray, List.set_cons_zero, List.set_cons_succ]
                      generalize (((((((v5.setCell ⟨g13, 0, none⟩ (.bool zk)).setCell ⟨g13, 1, none⟩ (.string zc)).setCell ⟨g13, 2, none⟩ (.string zg)).setCell ⟨g13, 3, none⟩ (.string zs)).setCell ⟨g13, 4, none⟩ (.int .i64 zn)).setCell ⟨g13, 5, none⟩ (.bool zr)).setCell ⟨g13, 6, none⟩ (.bool zj)) = v6 at *
                      refine wpAnyH_done (by kernel_rfl) ?_ _
                      go_wp2_with fail
                      go_meet
                      exact ⟨g12, g13, rfl, rfl, Lib.hid hB6, HS12, HS13⟩
                ·
                  go_simp
                  obtain ⟨g12, hg12⟩ : ∃ g, v2.heap.size = g := ⟨_, rfl⟩
                  have HG12 := Lib.hid (show RgAt (v2.alloc (.cells #[.bool false, .string ⟨#[]⟩, .string ⟨#[]⟩, .string ⟨#[]⟩, .int .i64 0, .bool false, .bool false] 35)) g12 Rg.zero from hg12 ▸ rg_new v2 Rg.zero 35)
                  have hB3 : Below wr.heap.size wr (v2.alloc (.cells #[.bool false, .string ⟨#[]⟩, .string ⟨#[]⟩, .string ⟨#[]⟩, .int .i64 0, .bool false, .bool false] 35)) := hB2.alloc hB2.size _
                  have hw12 : wr.heap.size ≤ g12 := hg12 ▸ hB2.size
                  have hne : g13 < g12 := hg12 ▸ HG13.out.lt
                  replace HG13 := Lib.hid (HG13.out.keep ((Below.refl _ _).alloc (Nat.le_refl _) (.cells #[.bool false, .string ⟨#[]⟩, .string ⟨#[]⟩, .string ⟨#[]⟩, .int .i64 0, .bool false, .bool false] 35)))
                  try rw [hg12]
                  try simp only [hg12]
                  refine hK.out _ _ (HSS.out _ hB3) (fun hH => ?_)
                  clear hK K
                  try simp only [Act.put, List.setIfInBounds_toArray, List.set_cons_zero, List.set_cons_succ]
                  generalize v2.alloc (.cells #[.bool false, .string ⟨#[]⟩, .string ⟨#[]⟩, .string ⟨#[]⟩, .int .i64 0, .bool false, .bool false] 35) = v3 at *
                  refine wpAnyH_ready (rs := [11]) (by kernel_rfl) (by simp) ?_
                  refine AllReadyH.cons rfl (fun K hK => ?_) (AllReadyH.nil)
                  ·
                    go_simp
                    refine (HFX.out v3 (HOKr.out.keep hB3)).mono ?_
                    rintro e v4 ⟨rfl, hb'⟩
                    have hB4 : Below wr.heap.size wr v4 := hB3.trans (hb'.mono hB3.size)
                    replace HG13 := Lib.hid (HG13.out.keep hb')
                    replace HG12 := Lib.hid (HG12.out.keep hb')
                    clear hb'
                    try simp only []
                    refine hK.out _ _ (HSS.out _ hB4) (fun hH => ?_)
                    clear hK K
                    try simp only [Act.put, List.setIfInBounds_toArray, List.set_cons_zero, List.set_cons_succ]
                    refine wpAnyH_ready (rs := [14]) (by kernel_rfl) (by simp) ?_
                    refine AllReadyH.cons rfl (fun K hK => ?_) (AllReadyH.nil)
                    ·
                      obtain ⟨f0, f1, f2, f3, f4, f5, f6, ff, fl⟩ := HG12.out
                      simp only [Rg.zero] at f0 f1 f2 f3 f4 f5 f6
                      go_simp
                      clear f0 f1 f2 f3 f4 f5 f6 ff fl
                      have hB5 : Below wr.heap.size wr (((((((v4.setCell ⟨g12, 0, none⟩ (.bool yk)).setCell ⟨g12, 1, none⟩ (.string yc)).setCell ⟨g12, 2, none⟩ (.string yg)).setCell ⟨g12, 3, none⟩ (.string ys)).setCell ⟨g12, 4, none⟩ (.int .i64 yn)).setCell ⟨g12, 5, none⟩ (.bool yr)).setCell ⟨g12, 6, none⟩ (.bool yj)) := ((((((hB4.setCell hw12 _).setCell hw12 _).setCell hw12 _).setCell hw12 _).setCell hw12 _).setCell hw12 _).setCell hw12 _
                      have HS12 := Lib.hid (rg_set HG12.out ⟨yk, yc, yg, ys, yn, yr, yj⟩)
                      replace HG13 := Lib.hid (rg_far HG13.out (show g12 ≠ g13 by omega) (.bool yk) (.string yc) (.string yg) (.string ys) (.int .i64 yn) (.bool yr) (.bool yj))
                      try simp only [] at HS12
                      refine hK.out _ _ (HSS.out _ hB5) (fun hH => ?_)
                      clear hK K
                      try simp only [Act.put, List.setIfInBounds_toArray, List.set_cons_zero, List.set_cons_succ]
                      generalize (((((((v4.setCell ⟨g12, 0, none⟩ (.bool yk)).setCell ⟨g12, 1, none⟩ (.string yc)).setCell ⟨g12, 2, none⟩ (.string yg)).setCell ⟨g12, 3, none⟩ (.string ys)).setCell ⟨g12, 4, none⟩ (.int .i64 yn)).setCell ⟨g12, 5, none⟩ (.bool yr)).setCell ⟨g12, 6, none⟩ (.bool yj)) = v5 at *
                      refine wpAnyH_ready (rs := [15]) (by kernel_rfl) (by simp) ?_
                      refine AllReadyH.cons rfl (fun K hK => ?_) AllReadyH.nil
                      obtain ⟨f0, f1, f2, f3, f4, f5, f6, ff, fl⟩ := HG13.out
                      simp only [Rg.zero] at f0 f1 f2 f3 f4 f5 f6
                      go_simp
                      clear f0 f1 f2 f3 f4 f5 f6 ff fl
                      have hB6 : Below wr.heap.size wr (((((((v5.setCell ⟨g13, 0, none⟩ (.bool zk)).setCell ⟨g13, 1, none⟩ (.string zc)).setCell ⟨g13, 2, none⟩ (.string zg)).setCell ⟨g13, 3, none⟩ (.string zs)).setCell ⟨g13, 4, none⟩ (.int .i64 zn)).setCell ⟨g13, 5, none⟩ (.bool zr)).setCell ⟨g13, 6, none⟩ (.bool zj)) := ((((((hB5.setCell hw13 _).setCell hw13 _).setCell hw13 _).setCell hw13 _).setCell hw13 _).setCell hw13 _).setCell hw13 _
                      have HS13 := Lib.hid (rg_set HG13.out ⟨zk, zc, zg, zs, zn, zr, zj⟩)
                      replace HS12 := Lib.hid (rg_far HS12.out (show g13 ≠ g12 by omega) (.bool zk) (.string zc) (.string zg) (.string zs) (.int .i64 zn) (.bool zr) (.bool zj))
                      try simp only [] at HS12
                      refine hK.out _ _ (HSS.out _ hB6) (fun hH => ?_)
                      clear hK K
                      try simp only [Act.put, List.setIfInBounds_toArray, List.set_cons_zero, List.set_cons_succ]
                      generalize (((((((v5.setCell ⟨g13, 0, none⟩ (.bool zk)).setCell ⟨g13, 1, none⟩ (.string zc)).setCell ⟨g13, 2, none⟩ (.string zg)).setCell ⟨g13, 3, none⟩ (.string zs)).setCell ⟨g13, 4, none⟩ (.int .i64 zn)).setCell ⟨g13, 5, none⟩ (.bool zr)).setCell ⟨g13, 6, none⟩ (.bool zj)) = v6 at *
                      refine wpAnyH_done (by kernel_rfl) ?_ _
                      go_wp2_with fail
                      go_meet
                      exact ⟨g12, g13, rfl, rfl, Lib.hid hB6, HS12, HS13⟩
              ·
                go_simp
                obtain ⟨g12, hg12⟩ : ∃ g, v1.heap.size = g := ⟨_, rfl⟩
                have HG12 := Lib.hid (show RgAt (v1.alloc (.cells #[.bool false, .string ⟨#[]⟩, .string ⟨#[]⟩, .string ⟨#[]⟩, .int .i64 0, .bool false, .bool false] 35)) g12 Rg.zero from hg12 ▸ rg_new v1 Rg.zero 35)
                have hB2 : Below wr.heap.size wr (v1.alloc (.cells #[.bool false, .string ⟨#[]⟩, .string ⟨#[]⟩, .string ⟨#[]⟩, .int .i64 0, .bool false, .bool false] 35)) := hB1.alloc hB1.size _
                have hw12 : wr.heap.size ≤ g12 := hg12 ▸ hB1.size
                have hne : g13 < g12 := hg12 ▸ HG13.out.lt
                replace HG13 := Lib.hid (HG13.out.keep ((Below.refl _ _).alloc (Nat.le_refl _) (.cells #[.bool false, .string ⟨#[]⟩, .string ⟨#[]⟩, .string ⟨#[]⟩, .int .i64 0, .bool false, .bool false] 35)))
                try rw [hg12]
                try simp only [hg12]
                refine hK.out _ _ (HSS.out _ hB2) (fun hH => ?_)
                clear hK K
                try simp only [Act.put, List.setIfInBounds_toArray, List.set_cons_zero, List.set_cons_succ]
                generalize v1.alloc (.cells #[.bool false, .string ⟨#[]⟩, .string ⟨#[]⟩, .string ⟨#[]⟩, .int .i64 0, .bool false, .bool false] 35) = v2 at *
                refine wpAnyH_ready (rs := [5]) (by kernel_rfl) (by simp) ?_
                refine AllReadyH.cons rfl (fun K hK => ?_) (AllReadyH.nil)
                ·
                  go_simp
                  refine (HIX.out v2 (HOKr.out.keep hB2)).mono ?_
                  rintro e v3 ⟨rfl, hb'⟩
                  have hB3 : Below wr.heap.size wr v3 := hB2.trans (hb'.mono hB2.size)
                  replace HG13 := Lib.hid (HG13.out.keep hb')
                  replace HG12 := Lib.hid (HG12.out.keep hb')
                  clear hb'
                  try simp only []
                  refine hK.out _ _ (HSS.out _ hB3) (fun hH => ?_)
                  clear hK K
                  try simp only [Act.put, List.setIfInBounds_toArray, List.set_cons_zero, List.set_cons_succ]
                  refine wpAnyH_ready (rs := [11]) (by kernel_rfl) (by simp) ?_
                  refine AllReadyH.cons rfl (fun K hK => ?_) (AllReadyH.nil)
                  ·
                    go_simp
                    refine (HFX.out v3 (HOKr.out.keep hB3)).mono ?_
                    rintro e v4 ⟨rfl, hb'⟩
                    have hB4 : Below wr.heap.size wr v4 := hB3.trans (hb'.mono hB3.size)
                    replace HG13 := Lib.hid (HG13.out.keep hb')
                    replace HG12 := Lib.hid (HG12.out.keep hb')
                    clear hb'
                    try simp only []
                    refine hK.out _ _ (HSS.out _ hB4) (fun hH => ?_)
                    clear hK K
                    try simp only [Act.put, List.setIfInBounds_toArray, List.set_cons_zero, List.set_cons_succ]
                    refine wpAnyH_ready (rs := [14]) (by kernel_rfl) (by simp) ?_
                    refine AllReadyH.cons rfl (fun K hK => ?_) (AllReadyH.nil)
                    ·
                      obtain ⟨f0, f1, f2, f3, f4, f5, f6, ff, fl⟩ := HG12.out
                      simp only [Rg.zero] at f0 f1 f2 f3 f4 f5 f6
                      go_simp
                      clear f0 f1 f2 f3 f4 f5 f6 ff fl
                      have hB5 : Below wr.heap.size wr (((((((v4.setCell ⟨g12, 0, none⟩ (.bool yk)).setCell ⟨g12, 1, none⟩ (.string yc)).setCell ⟨g12, 2, none⟩ (.string yg)).setCell ⟨g12, 3, none⟩ (.string ys)).setCell ⟨g12, 4, none⟩ (.int .i64 yn)).setCell ⟨g12, 5, none⟩ (.bool yr)).setCell ⟨g12, 6, none⟩ (.bool yj)) := ((((((hB4.setCell hw12 _).setCell hw12 _).setCell hw12 _).setCell hw12 _).setCell hw12 _).setCell hw12 _).setCell hw12 _
                      have HS12 := Lib.hid (rg_set HG12.out ⟨yk, yc, yg, ys, yn, yr, yj⟩)
                      replace HG13 := Lib.hid (rg_far HG13.out (show g12 ≠ g13 by omega) (.bool yk) (.string yc) (.string yg) (.string ys) (.int .i64 yn) (.bool yr) (.bool yj))
                      try simp only [] at HS12
                      refine hK.out _ _ (HSS.out _ hB5) (fun hH => ?_)
                      clear hK K
                      try simp only [Act.put, List.setIfInBounds_toArray, List.set_cons_zero, List.set_cons_succ]
                      generalize (((((((v4.setCell ⟨g12, 0, none⟩ (.bool yk)).setCell ⟨g12, 1, none⟩ (.string yc)).setCell ⟨g12, 2, none⟩ (.string yg)).setCell ⟨g12, 3, none⟩ (.string ys)).setCell ⟨g12, 4, none⟩ (.int .i64 yn)).setCell ⟨g12, 5, none⟩ (.bool yr)).setCell ⟨g12, 6, none⟩ (.bool yj)) = v5 at *
                      refine wpAnyH_ready (rs := [15]) (by kernel_rfl) (by simp) ?_
                      refine AllReadyH.cons rfl (fun K hK => ?_) AllReadyH.nil
                      obtain ⟨f0, f1, f2, f3, f4, f5, f6, ff, fl⟩ := HG13.out
                      simp only [Rg.zero] at f0 f1 f2 f3 f4 f5 f6
                      go_simp
                      clear f0 f1 f2 f3 f4 f5 f6 ff fl
                      have hB6 : Below wr.heap.size wr (((((((v5.setCell ⟨g13, 0, none⟩ (.bool zk)).setCell ⟨g13, 1, none⟩ (.string zc)).setCell ⟨g13, 2, none⟩ (.string zg)).setCell ⟨g13, 3, none⟩ (.string zs)).setCell ⟨g13, 4, none⟩ (.int .i64 zn)).setCell ⟨g13, 5, none⟩ (.bool zr)).setCell ⟨g13, 6, none⟩ (.bool zj)) := ((((((hB5.setCell hw13 _).setCell hw13 _).setCell hw13 _).setCell hw13 _).setCell hw13 _).setCell hw13 _).setCell hw13 _
                      have HS13 := Lib.hid (rg_set HG13.out ⟨zk, zc, zg, zs, zn, zr, zj⟩)
                      replace HS12 := Lib.hid (rg_far HS12.out (show g13 ≠ g12 by omega) (.bool zk) (.string zc) (.string zg) (.string zs) (.int .i64 zn) (.bool zr) (.bool zj))
                      try simp only [] at HS12
                      refine hK.out _ _ (HSS.out _ hB6) (fun hH => ?_)
                      clear hK K
                      try simp only [Act.put, List.setIfInBounds_toArray, List.set_cons_zero, List.set_cons_succ]
                      generalize (((((((v5.setCell ⟨g13, 0, none⟩ (.bool zk)).setCell ⟨g13, 1, none⟩ (.string zc)).setCell ⟨g13, 2, none⟩ (.string zg)).setCell ⟨g13, 3, none⟩ (.string zs)).setCell ⟨g13, 4, none⟩ (.int .i64 zn)).setCell ⟨g13, 5, none⟩ (.bool zr)).setCell ⟨g13, 6, none⟩ (.bool zj)) = v6 at *
                      refine wpAnyH_done (by kernel_rfl) ?_ _
                      go_wp2_with fail
                      go_meet
                      exact ⟨g12, g13, rfl, rfl, Lib.hid hB6, HS12, HS13⟩
          case rest =>
            obtain ⟨g12, g13, rfl, rfl, HBC, HG12, HG13⟩ := hcut
            generalize wc = w9 at *
            have hsz9 : wr.heap.size ≤ w9.heap.size := HBC.out.size
            have HB9 := Lib.hid (HB.out.trans (HBC.out.mono HB.out.size))
            have HN9 := Lib.hid (HNr.out.keep HBC.out)
            have HX9 := Lib.hid (show It9 w9 b (off + k * 5) ⟨xc, xd, xr, xv, xj⟩ from by
              obtain ⟨t0, t1, t2, t3, t4, t5, t6, t7, t8⟩ := HSS.out w9 HBC.out
              exact ⟨t4, t5, t6, t7, t8, Nat.lt_of_lt_of_le sb hsz9⟩)
            clear HBC HB HNr zl sb HSS HOKr HIX HFX
            obtain ⟨c0, c1, c2, c3, c4, sb⟩ := HX9.out
            obtain ⟨z0, z1, z2, z3, zf, zl⟩ := HN9.out
            simp only at c0 c1 c2 c3 c4 z0 z1 z2 z3
            have hkd : IntKind.i64.wrap (xd + 1) = xd + 1 := IntWalk.i64_in _ (by omega)
            have hbv : Below w9.heap.size w9 (w9.alloc (.cells #[.string xc, .int .i64 (xd + 1), .bool xr, .bool xv, .bool xj] 29)) := (Below.refl _ _).alloc (Nat.le_refl _) _
            have HI1 := Lib.hid (it_new w9 ⟨xc, xd + 1, xr, xv, xj⟩ 29)
            have HBA := Lib.hid (HB9.out.trans (hbv.mono HB9.out.size))
            have HNA := Lib.hid (HN9.out.keep hbv)
            have HXA := Lib.hid (HX9.out.keep hbv)
            have HG2A := Lib.hid (HG12.out.keep hbv)
            have HG3A := Lib.hid (HG13.out.keep hbv)
            go_upto_region 12 with fail
            clear c0 c1 c2 c3 c4 sb z0 z1 z2 z3 zf zl hbv HN9 HX9 HG12 HG13 HB9
            generalize (w9.alloc (.cells #[.string xc, .int .i64 (xd + 1), .bool xr, .bool xv, .bool xj] 29)) = wa at *
            obtain ⟨i0, i1, i2, i3, i4, iff, il⟩ := HI1.out
            obtain ⟨z0, z1, z2, z3, zf, zl⟩ := HNA.out
            simp only at i0 i1 i2 i3 i4 z0 z1 z2 z3
            go_wp2_with fail
            refine (HIM.out _ (HOK.out.keep HBA.out)).mono ?_
            rintro e wb ⟨rfl, hb⟩
            clear i0 i1 i2 i3 i4 iff il z0 z1 z2 z3 zf zl
            have hbu : Below wa.heap.size wa (wb.alloc (.cells #[.bool uk, .string uc, .string ug, .string us, .int .i64 un, .bool ur, .bool uj] 35)) := hb.alloc hb.size _
            have HG4 := Lib.hid (rg_new wb ⟨uk, uc, ug, us, un, ur, uj⟩ 35)
            have HBB := Lib.hid (HBA.out.trans (hbu.mono HBA.out.size))
            have HNB := Lib.hid (HNA.out.keep hbu)
            have HXB := Lib.hid (HXA.out.keep hbu)
            have HG2B := Lib.hid (HG2A.out.keep hbu)
            have HG3B := Lib.hid (HG3A.out.keep hbu)
            go_upto_region 13 with fail
            clear hb hbu HBA HNA HXA HG2A HG3A HI1 HIM
            generalize hg4 : wb.heap.size = g14 at *
            generalize (wb.alloc (.cells #[.bool uk, .string uc, .string ug, .string us, .int .i64 un, .bool ur, .bool uj] 35)) = wd at *
            clear hg4
            go_cut [100] (fun s wx => s = .bool false ∧ Hid (Below wd.heap.size wd wx))
            case first =>
              have HOKd := Lib.hid (HOK.out.keep HBB.out)
              have cQ := fun (d : Nat) (os : Array Obj) => Calls.regrown_of (HRX.out (Sort.grow (redrawn wd d) os) (HOKd.out.keep (below_regrown wd d os)))
              obtain ⟨z0, z1, z2, z3, zf, zl⟩ := HNB.out
              obtain ⟨c0, c1, c2, c3, c4, sb⟩ := HXB.out
              obtain ⟨x0, x1, x2, x3, x4, x5, x6, xf, xl⟩ := HG2B.out
              obtain ⟨y0, y1, y2, y3, y4, y5, y6, yf, yl⟩ := HG3B.out
              obtain ⟨u0, u1, u2, u3, u4, u5, u6, uf, ul⟩ := HG4.out
              obtain ⟨l1, l2, l3, l4, l5⟩ := HLI.out
              simp only at z0 z1 z2 z3 c0 c1 c2 c3 c4 x0 x1 x2 x3 x4 x5 x6 y0 y1 y2 y3 y4 y5 y6 u0 u1 u2 u3 u4 u5 u6 l1 l2 l3 l4 l5
              have Z0 := fun d os => cell_regrown z0 d os
              have Z1 := fun d os => cell_regrown z1 d os
              have Z2 := fun d os => cell_regrown z2 d os
              have Z3 := fun d os => cell_regrown z3 d os
              have C0 := fun d os => cell_regrown c0 d os
              have C1 := fun d os => cell_regrown c1 d os
              have C2 := fun d os => cell_regrown c2 d os
              have C3 := fun d os => cell_regrown c3 d os
              have C4 := fun d os => cell_regrown c4 d os
              have P0 := fun d os => cell_regrown x0 d os
              have P1 := fun d os => cell_regrown x1 d os
              have P2 := fun d os => cell_regrown x2 d os
              have P3 := fun d os => cell_regrown x3 d os
              have P4 := fun d os => cell_regrown x4 d os
              have P5 := fun d os => cell_regrown x5 d os
              have P6 := fun d os => cell_regrown x6 d os
              have Q0 := fun d os => cell_regrown y0 d os
              have Q1 := fun d os => cell_regrown y1 d os
              have Q2 := fun d os => cell_regrown y2 d os
              have Q3 := fun d os => cell_regrown y3 d os
              have Q4 := fun d os => cell_regrown y4 d os
              have Q5 := fun d os => cell_regrown y5 d os
              have Q6 := fun d os => cell_regrown y6 d os
              have U0 := fun d os => cell_regrown u0 d os
              have U1 := fun d os => cell_regrown u1 d os
              have U2 := fun d os => cell_regrown u2 d os
              have U3 := fun d os => cell_regrown u3 d os
              have U4 := fun d os => cell_regrown u4 d os
              have U5 := fun d os => cell_regrown u5 d os
              have U6 := fun d os => cell_regrown u6 d os
              clear z0 z1 z2 z3 zf zl c0 c1 c2 c3 c4 sb x0 x1 x2 x3 x4 x5 x6 xf xl y0 y1 y2 y3 y4 y5 y6 yf yl u0 u1 u2 u3 u4 u5 u6 uf ul
              have g1 : ¬ yn > zn := by omega
              have g2 : decide (yn > zn) = false := decide_eq_false g1
              have g3 : ¬ un > yn := by omega
              have g4 : decide (un > yn) = false := decide_eq_false g3
              clear HBB HNB HXB HG2B HG3B HG4 HLI l1 l2 HLO HIT HFU HRE HRX
              cases yk with
              | true =>
                obtain rfl := l3 rfl
                have hp0 : p = 0 := by simpa using l4.symm
                subst hp0
                clear l3 l4 l5
                refine wp_region_quiet_below (by kernel_rfl) (by kernel_rfl) ?_
                repeat (go_big_quiet_step (with_reducible exact cQ _ _))
                refine wpQuiet_nil ?_
                intro _ hw'
                obtain ⟨⟨dq, osq⟩, hw''⟩ := hw'
                subst hw''
                have HB7 := Lib.hid (below_regrown wd dq osq)
                generalize Sort.grow (redrawn wd dq) osq = w7 at *
                clear cQ
                go_wp2_with fail
                go_meet
                exact ⟨rfl, HB7⟩
              | false =>
                have hp0 : ¬ p = 0 := by simpa using l4.symm
                have hp1 : (p == 0) = false := by simpa using hp0
                have hz := l5 rfl
                simp only [Rg.mk.injEq] at hz
                obtain ⟨_, rfl, rfl, rfl, rfl, rfl, rfl⟩ := hz
                clear l3 l4 l5
                refine wp_region_quiet_below (by kernel_rfl) (by kernel_rfl) ?_
                repeat (go_big_quiet_step (with_reducible exact cQ _ _))
                refine wpQuiet_nil ?_
                intro _ hw'
                obtain ⟨⟨dq, osq⟩, hw''⟩ := hw'
                subst hw''
                have HB7 := Lib.hid (below_regrown wd dq osq)
                generalize Sort.grow (redrawn wd dq) osq = w7 at *
                clear cQ
                go_wp2_with fail
                go_meet
                exact ⟨rfl, HB7⟩
            case rest =>
              obtain ⟨rfl, HBC⟩ := hcut
              generalize wc = we at *
              have HBE := Lib.hid (HBB.out.trans (HBC.out.mono HBB.out.size))
              have HNE := Lib.hid (HNB.out.keep HBC.out)
              have HPE := Lib.hid (HG2B.out.keep HBC.out)
              have HQE := Lib.hid (HG3B.out.keep HBC.out)
              clear HBC HBB HNB HXB HG2B HG3B HG4
              have hvy := HVY.out
              have hvz := HVZ.out
              have hb3 := HB3.out
              have x4 := HPE.out.c4
              have y4 := HQE.out.c4
              simp only at x4 y4 hvy hvz
              have q1 : IntKind.i64.wrap (A + zn) = A + zn := IntWalk.i64_in _ (by omega)
              have q2 : IntKind.i64.wrap (A + zn - yn) = A + zn - yn := IntWalk.i64_in _ (by omega)
              clear hvy hvz hb3
              have HX2 := Lib.hid (show lostS E (L.take (k + 1)) = A + zn - yn by have := HX.out; omega)
              clear HX HLO HIT HFU HRE HRX HLI
              go_wp2_with fail
              go_roundw
              case rel => exact ⟨k + 1, by omega, by go_num, by rw [HX2.out], HBE, HNE⟩
              case measure => simp [intOf]; omega
        · have hl : ¬ (k : Int) < (len : Int) := by omega
          obtain rfl : k = len := by omega
          have HLX := Lib.hid (HLO.out wr (HOK.out.keep HB.out) (HS.out.keep HB.out) HE.out HF.out HM.out)
          simp only [if_true] at HLX
          have htk : L.take k = L := List.take_of_length_le (by omega)
          have hl0' : 0 ≤ lostS E L := lost_pos HE.out (wit_val2 HE.out.wit) L HD.out
          rw [htk]
          obtain ⟨A, hA⟩ : ∃ A, lostS E L = A := ⟨_, rfl⟩
          rw [hA] at HLX hl0' ⊢
          clear hA htk hb3 HLO hln
          obtain ⟨z0, z1, z2, z3, zf, zl⟩ := HNr.out
          simp only at z0 z1 z2 z3
          go_wp2_with fail
          refine HLX.out.mono ?_
          rintro e w12 ⟨rfl, hb⟩
          have HB2 := Lib.hid (HB.out.trans (hb.mono HB.out.size))
          have d1 : decide (A ≥ 0) = true := decide_eq_true hl0'
          clear hb HLX
          go_wp2_with fail
          go_ret
          exact ⟨by first | rfl | simp, HB2.out⟩
    · have k0 : (r == 0) = false := by simpa using h0
      have k1 : (r != 0) = true := by simpa using h0
      clear h0 HR
      go_wp2_with fail
      go_ret
      exact ⟨rfl, HB3.out⟩
end Go.Proofs.Ytlleebgkglbelaa
