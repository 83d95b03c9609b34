/- Contract of layer 20's reference: Reviewed. -/
import Derived.Test.YtoiejllkdjjdnaaRfl
import Derived.Test.YtoiejllkdjjdnaaRev
import Derived.Test.YtoiejllkdjjdnaaRch
import Derived.Deep.RegionHeld3
set_option linter.unusedSimpArgs false
set_option linter.unusedVariables false
namespace Go.Proofs.Ytoiejllkdjjdnaa
open Go.RowKit

/-- what the reference's Reviewed gives -/
def RrvPost (w : World) (E : List El) (L : List It) (e : Ending) (w' : World) : Prop :=
  Below w.heap.size w w' ∧ ∃ v, e = .returned (.tuple #[v, .int .i64 (revL (L.map (itemS E)) L.length).2]) ∧ w'.ownsRow w.heap.size 3 1 v (revL (L.map (itemS E)) L.length).1.length (encI (revL (L.map (itemS E)) L.length).1)
set_option maxHeartbeats 8000000 in
set_option maxRecDepth 100000 in
theorem rreviewed_any {w : World} {c : Ct} (h : CtOk w c) (hE : FitE c.E) (hv : ValE c.E) {a : Option Addr} {b off len cap : Nat} {L : List It} (hL : SlX w a b off len cap L) (hf : fitC L) (hm : len ≤ 1000) : Calls Try.prog 21 #[c.val, .slice a len cap] w (RrvPost w c.E L) := by
  obtain ⟨iz, hi, hz0, hz1, hz2⟩ := info_parts infoI
  have hl0 := hL.hl
  have HOK := Lib.hid h
  have HS := Lib.hid hL
  have HIT := Lib.hid (fun W (x : It) (hW : CtOk W c) (hx : x.c.size ≤ maxLen) => ritem_fit hW hE x hx)
  have HF := Lib.hid (show ∀ (k : Nat) (h : k < L.length), (L[k]'h).c.size ≤ maxLen from fun k h => hf k h)
  have HN := Lib.hid (ct_new w c 27)
  have HB0 := Lib.hid (show Below w.heap.size w (w.alloc (.cells #[.slice c.ag c.ng c.cg, .slice c.ak c.nk c.ck, .slice c.ae c.ne c.ce, .slice c.ac c.nc c.cc] 27)) from (by repeat (first | with_reducible exact Below.refl _ _ | (with_reducible refine Below.setCell ?_ (by first | exact Nat.le_refl _ | omega | (simp; done) | (simp; omega)) _) | (with_reducible refine Below.alloc ?_ (by first | exact Nat.le_refl _ | omega | (simp; done) | (simp; omega)) _) | with_reducible refine Below.drew ?_ | with_reducible refine bel_drewN ?_ _ | (with_reducible refine bel_by (by with_reducible assumption) (by first | exact Nat.le_refl _ | omega | (simp; done) | (simp; omega)) ?_))))
  unfold RgPost at HIT
  unfold RrvPost
  have hbdR : BdR (L.map (itemS c.E)) := by
    intro x hx
    obtain ⟨y, _, rfl⟩ := List.mem_map.1 hx
    exact itemS_val hv y
  have hRl : (L.map (itemS c.E)).length = len := by rw [List.length_map, hl0]
  have HRG := Lib.hid (show ∀ (k : Nat) (h : k < L.length), (L.map (itemS c.E)).getD k Rg.zero = itemS c.E (L[k]'h) from fun k h => by simp [List.getD, h])
  rw [show L.length = len from hl0]
  generalize L.map (itemS c.E) = R at *
  have HRB := Lib.hid (fun k => revL_bd hbdR k)
  unfold Ct.val at HIT ⊢
  obtain ⟨ag, bg, og, ng, cg, ak, bk, ok, nk, ck, ae, be, oe, ne, ce, ac, bc, oc, nc, cc, G, K, E, X⟩ := c
  simp only at HIT HN HB0 HRG ⊢
  clear h hL hf hE hv hbdR
  go_enter Try.func21, Try.ntmps21
  go_wp2_with fail
  have hsz0 : (w.alloc (.cells #[.slice ag ng cg, .slice ak nk ck, .slice ae ne ce, .slice ac nc cc] 27)).heap.size = w.heap.size + 1 := by simp
  generalize (w.alloc (.cells #[.slice ag ng cg, .slice ak nk ck, .slice ae ne ce, .slice ac nc cc] 27)) = W0 at *
  have HB1 := Lib.hid (show Below w.heap.size w (W0.alloc (.cells #[] 3)) from HB0.out.alloc HB0.out.size _)
  have HN1 := Lib.hid (HN.out.keep (show Below W0.heap.size W0 (W0.alloc (.cells #[] 3)) from (Below.refl _ _).alloc (Nat.le_refl _) _))
  have HO1 := Lib.hid (World.ownsRow_made (e := 3) (size := 1) (base := w.heap.size + 1) W0 #[] 0 (by omega) (Nat.zero_le _) rfl)
  try rw [hsz0] at HO1
  clear HB0 HN
  go_loopw [6, 7, 8] (fun s6 s7 s8 wr => ∃ (k : Nat), k ≤ len ∧ s8 = .int .i64 (k : Int) ∧ s7 = .int .i64 (revL R k).2 ∧ Hid (wr.ownsRow (w.heap.size + 1) 3 1 s6 (revL R k).1.length (encI (revL R k).1)) ∧ Hid (Below w.heap.size w wr) ∧ Hid (CtAt wr w.heap.size _)) (fun _ _ s8 _ => (len - (intOf s8)).toNat)
  case atStart => exact ⟨0, Nat.zero_le _, rfl, rfl, HO1, HB1, HN1⟩
  case round =>
    obtain ⟨k, hk, rfl, rfl, HO, HB, HNr⟩ := hrel
    clear HB1 HN1 HO1
    have hbd := HRB.out k (by omega)
    have HRR := Lib.hid (show revL R (k + 1) = if (R.getD k Rg.zero).r = true then ((revL R k).1 ++ [k], (revL R k).2 + (R.getD k Rg.zero).n) else revL R k from rfl)
    obtain ⟨⟨I, A⟩, hIA⟩ : ∃ q, revL R k = q := ⟨_, rfl⟩
    rw [hIA] at hbd HO HRR ⊢
    simp only at hbd HO HRR ⊢
    obtain ⟨ao, cv, rfl⟩ := own_form HO.out
    by_cases hlt : k < len
    · have hl : (k : Int) < (len : Int) := by omega
      have hkL : k < L.length := by omega
      have S := HS.out.keep HB.out
      obtain rfl := S.ha (by omega)
      have sb := S.hb (by omega)
      have c0 := S.c0 k hkL
      have c1 := S.c1 k hkL
      have c2 := S.c2 k hkL
      have c3 := S.c3 k hkL
      have c4 := S.c4 k hkL
      have hfx := HF.out k hkL
      have hvb := HRB.out (k + 1) (by omega)
      have hx := HRG.out k hkL
      rw [hx] at HRR
      clear S hx hIA
      generalize L[k]'hkL = x at *
      obtain ⟨y, hy⟩ : ∃ y, itemS E x = y := ⟨_, rfl⟩
      have HIX := Lib.hid (fun W hW => HIT.out W x hW hfx)
      simp only [hy] at HIX HRR
      clear hy hfx
      obtain ⟨xc, xd, xr, xv, xj⟩ := x
      obtain ⟨yk, yc, yg, ys, yn, yr, yj⟩ := y
      simp only [It.val, Rg.val] at c0 c1 c2 c3 c4 HIX HRR
      have hszw : w.heap.size + 1 ≤ wr.heap.size := HNr.out.lt
      have HOKr := Lib.hid (HOK.out.keep HB.out)
      obtain ⟨z0, z1, z2, z3, zf, zl⟩ := HNr.out
      simp only at z0 z1 z2 z3
      have HSS := Lib.hid (show ∀ w', Below wr.heap.size wr w' → (w'.cell? ⟨w.heap.size, 0, none⟩ = some (.slice ag ng cg) ∧ w'.cell? ⟨w.heap.size, 1, none⟩ = some (.slice ak nk ck) ∧ w'.cell? ⟨w.heap.size, 2, none⟩ = some (.slice ae ne ce) ∧ w'.cell? ⟨w.heap.size, 3, none⟩ = some (.slice ac nc cc) ∧ w'.cell? ⟨b, off + k * 5, none⟩ = some (.string xc) ∧ w'.cell? ⟨b, off + k * 5 + 1, none⟩ = some (.int .i64 xd) ∧ w'.cell? ⟨b, off + k * 5 + 2, none⟩ = some (.bool xr) ∧ w'.cell? ⟨b, off + k * 5 + 3, none⟩ = some (.bool xv) ∧ w'.cell? ⟨b, off + k * 5 + 4, none⟩ = some (.bool xj)) from fun w' hB =>
        ⟨(hB.cell (p := ⟨w.heap.size, 0, none⟩) zl).trans z0, (hB.cell (p := ⟨w.heap.size, 1, none⟩) zl).trans z1, (hB.cell (p := ⟨w.heap.size, 2, none⟩) zl).trans z2, (hB.cell (p := ⟨w.heap.size, 3, none⟩) zl).trans z3, (hB.cell (p := ⟨b, off + k * 5, none⟩) sb).trans c0, (hB.cell (p := ⟨b, off + k * 5 + 1, none⟩) sb).trans c1, (hB.cell (p := ⟨b, off + k * 5 + 2, none⟩) sb).trans c2, (hB.cell (p := ⟨b, off + k * 5 + 3, none⟩) sb).trans c3, (hB.cell (p := ⟨b, off + k * 5 + 4, none⟩) sb).trans c4⟩)
      clear c0 c1 c2 c3 c4 z0 z1 z2 z3 zf
      go_upto_region 6 with fail
      go_cut [9] (fun s9 wx => ∃ g : Nat, s9 = .pointer (some ⟨g, 0, none⟩) ∧ wr.heap.size ≤ g ∧ Hid (Below wr.heap.size wr wx) ∧ Hid (RgAt wx g ⟨yk, yc, yg, ys, yn, yr, yj⟩))
      case first =>
        have hBB : Below wr.heap.size wr wr := Below.refl _ _
        go_region_held3 (fun w' => w'.cell? ⟨w.heap.size, 0, none⟩ = some (.slice ag ng cg) ∧ w'.cell? ⟨w.heap.size, 1, none⟩ = some (.slice ak nk ck) ∧ w'.cell? ⟨w.heap.size, 2, none⟩ = some (.slice ae ne ce) ∧ w'.cell? ⟨w.heap.size, 3, none⟩ = some (.slice ac nc cc) ∧ w'.cell? ⟨b, off + k * 5, none⟩ = some (.string xc) ∧ w'.cell? ⟨b, off + k * 5 + 1, none⟩ = some (.int .i64 xd) ∧ w'.cell? ⟨b, off + k * 5 + 2, none⟩ = some (.bool xr) ∧ w'.cell? ⟨b, off + k * 5 + 3, none⟩ = some (.bool xv) ∧ w'.cell? ⟨b, off + k * 5 + 4, none⟩ = some (.bool xj))
          (exact HSS.out _ (by repeat (first | with_reducible exact Below.refl _ _ | (with_reducible refine Below.setCell ?_ (by first | exact Nat.le_refl _ | omega | (simp; done) | (simp; omega)) _) | (with_reducible refine Below.alloc ?_ (by first | exact Nat.le_refl _ | omega | (simp; done) | (simp; omega)) _) | with_reducible refine Below.drew ?_ | with_reducible refine bel_drewN ?_ _ | (with_reducible refine bel_by (by with_reducible assumption) (by first | exact Nat.le_refl _ | omega | (simp; done) | (simp; omega)) ?_))))
          ((go_at_call 14; refine (HIX.out _ (HOKr.out.keep (by repeat (first | with_reducible exact Below.refl _ _ | (with_reducible refine Below.setCell ?_ (by first | exact Nat.le_refl _ | omega | (simp; done) | (simp; omega)) _) | (with_reducible refine Below.alloc ?_ (by first | exact Nat.le_refl _ | omega | (simp; done) | (simp; omega)) _) | with_reducible refine Below.drew ?_ | with_reducible refine bel_drewN ?_ _ | (with_reducible refine bel_by (by with_reducible assumption) (by first | exact Nat.le_refl _ | omega | (simp; done) | (simp; omega)) ?_))))).mono ?_; rintro e5 w5 ⟨rfl, hb5⟩; have hBB5 : Below wr.heap.size wr w5 := bel_by hb5 (by first | exact Nat.le_refl _ | (simp; done) | (simp; omega)) (by repeat (first | with_reducible exact Below.refl _ _ | (with_reducible refine Below.setCell ?_ (by first | exact Nat.le_refl _ | omega | (simp; done) | (simp; omega)) _) | (with_reducible refine Below.alloc ?_ (by first | exact Nat.le_refl _ | omega | (simp; done) | (simp; omega)) _) | with_reducible refine Below.drew ?_ | with_reducible refine bel_drewN ?_ _ | (with_reducible refine bel_by (by with_reducible assumption) (by first | exact Nat.le_refl _ | omega | (simp; done) | (simp; omega)) ?_))); have hs5 := hBB5.size; (first | have hz5 : RgAt w5 wr.heap.size Rg.zero := (rg_new wr.drew Rg.zero 35).keep hb5; have HZ5 := Lib.hid hz5; obtain ⟨f0, f1, f2, f3, f4, f5, f6, ff, fl⟩ := hz5; simp only [Rg.zero] at f0 f1 f2 f3 f4 f5 f6 | skip); clear hb5))
        all_goals
          go_wp2_with fail
          go_meet
          first | exact ⟨_, rfl, by first | exact Nat.le_refl _ | exact hs5, Lib.hid (by repeat (first | with_reducible exact Below.refl _ _ | (with_reducible refine Below.setCell ?_ (by first | exact Nat.le_refl _ | omega | (simp; done) | (simp; omega)) _) | (with_reducible refine Below.alloc ?_ (by first | exact Nat.le_refl _ | omega | (simp; done) | (simp; omega)) _) | with_reducible refine Below.drew ?_ | with_reducible refine bel_drewN ?_ _ | (with_reducible refine bel_by (by with_reducible assumption) (by first | exact Nat.le_refl _ | omega | (simp; done) | (simp; omega)) ?_))), Lib.hid (rg_set HZ5.out ⟨yk, yc, yg, ys, yn, yr, yj⟩)⟩ | exact ⟨_, rfl, by first | exact Nat.le_refl _ | exact hs5, Lib.hid (by repeat (first | with_reducible exact Below.refl _ _ | (with_reducible refine Below.setCell ?_ (by first | exact Nat.le_refl _ | omega | (simp; done) | (simp; omega)) _) | (with_reducible refine Below.alloc ?_ (by first | exact Nat.le_refl _ | omega | (simp; done) | (simp; omega)) _) | with_reducible refine Below.drew ?_ | with_reducible refine bel_drewN ?_ _ | (with_reducible refine bel_by (by with_reducible assumption) (by first | exact Nat.le_refl _ | omega | (simp; done) | (simp; omega)) ?_))), Lib.hid (rg_new _ ⟨yk, yc, yg, ys, yn, yr, yj⟩ _)⟩
      case rest =>
        obtain ⟨g, rfl, hgw, HBC, HG⟩ := hcut
        generalize wc = w9 at *
        have HB9 := Lib.hid (HB.out.trans (HBC.out.mono HB.out.size))
        have HN9 := Lib.hid (HNr.out.keep HBC.out)
        have HO9 := Lib.hid (own_below HO.out HBC.out)
        have HNO := Lib.hid (fun g h => (HO.out.lt g h).2)
        have hsz9 : wr.heap.size ≤ w9.heap.size := HBC.out.size
        clear HBC HO HB HNr zl sb HSS HIX
        obtain ⟨i0, i1, i2, i3, i4, i5, i6, iff, il⟩ := HG.out
        simp only at i0 i1 i2 i3 i4 i5 i6
        cases yr with
        | false =>
          have hR := HRR.out
          rw [if_neg (by simp)] at hR
          have HR2 := Lib.hid hR
          clear hR HRR hvb
          go_wp2_with fail
          go_roundw
          case rel => exact ⟨k + 1, by omega, by go_num, by rw [HR2.out], by rw [HR2.out]; exact HO9, HB9, HN9⟩
          case measure => simp [intOf]; omega
        | true =>
          have hR := HRR.out
          rw [if_pos rfl] at hR
          have HR2 := Lib.hid hR
          rw [hR] at hvb
          simp only at hvb
          clear hR HRR
          have HO3 := Lib.hid (HO9.out.alloc (.cells #[.int .i64 (k : Int)] 3))
          have HB3 := Lib.hid (HB9.out.alloc HB9.out.size (.cells #[.int .i64 (k : Int)] 3))
          have HN3 := Lib.hid (HN9.out.keep (show Below w9.heap.size w9 (w9.alloc (.cells #[.int .i64 (k : Int)] 3)) from (Below.refl _ _).alloc (Nat.le_refl _) _))
          have HCE := Lib.hid (one_cell w9 (.int .i64 (k : Int)) 3)
          have HOL := Lib.hid (fun g h => HO9.out.lt g h)
          have HXV := Lib.hid (show RgAt (w9.alloc (.cells #[.int .i64 (k : Int)] 3)) g _ from HG.out.keep ((Below.refl _ _).alloc (Nat.le_refl _) _))
          have HKX := Lib.hid (show ∀ g0, Value.ownBlock (.slice ao I.length cv) = some g0 → g0 ≠ g from fun g0 h e => by have := HNO.out g0 h; omega)
          clear HO9 HB9 HN9 HG
          go_wp2_with (at_builtin; go_loud (refine wpList_append_blk _ rfl _ _ 44 rfl (w.heap.size + 1) 3 iz (.int .i64 0) 1 8 Try.underlying44 hi hz0 hz1 hz2 rfl (by decide) _ _ _ rfl HO3.out ⟨w9.heap.size, 0, none⟩ 1 1 [.int .i64 (k : Int)] rfl rfl HCE.out ?n1 ?n2 ?n3 ?n4 (by decide) ?_))
          case n1 => first | rfl | (intro u hu; simp only [List.mem_cons, List.not_mem_nil, or_false] at hu; rcases hu with rfl <;> rfl)
          case n2 => unfold maxLen; omega
          case n3 => omega
          case n4 => first | omega | (simp; omega)
          intro v' w7 ho hg hbk
          have HO7 := Lib.hid (show w7.ownsRow (w.heap.size + 1) 3 1 v' (I ++ [k]).length (encI (I ++ [k])) by rw [List.length_append, List.length_singleton, encI_snoc]; exact ho)
          have HB7 := Lib.hid (HB3.out.grown hg (by simp; omega) (fun g h => by have := (HOL.out g h).1; omega))
          have HN7 := Lib.hid (show CtAt w7 w.heap.size _ from ct_grown HN3.out hg (fun e => by have := (HOL.out _ e.symm).1; omega))
          have HX7 := Lib.hid (HXV.out.grown hg (fun e => HKX.out _ e.symm rfl))
          clear ho hg hbk HO3 HB3 HCE HOL HXV HN3 i0 i1 i2 i3 i4 i5 i6 iff il
          obtain ⟨i0, i1, i2, i3, i4, i5, i6, iff, il⟩ := HX7.out
          simp only at i0 i1 i2 i3 i4 i5 i6
          have k2 : IntKind.i64.wrap (A + yn) = A + yn := IntWalk.i64_in _ (by omega)
          go_wp2_with fail
          go_roundw
          case rel => exact ⟨k + 1, by omega, by go_num, by rw [HR2.out], by rw [HR2.out]; exact HO7, HB7, HN7⟩
          case measure => simp [intOf]; omega
    · obtain rfl : k = len := by omega
      have hl : ¬ (k : Int) < (k : Int) := by omega
      have HIA := Lib.hid hIA
      clear hIA
      go_wp2_with fail
      refine bodyPost_ret (v := .tuple #[.slice ao I.length cv, .int .i64 A]) (by simp [results, Try.results21, go_sem]) rfl ?_
      rw [HIA.out]
      exact ⟨HB.out, _, rfl, own_low HO.out (Nat.le_succ _)⟩
end Go.Proofs.Ytoiejllkdjjdnaa
