/- Contract of layer 20's reference: Line. -/
import Derived.Test.YtoiejllkdjjdnaaRfl
import Derived.Test.YtoiejllkdjjdnaaLin
import Derived.Deep.AppendLies
import Derived.Deep.RegionLaw
import Derived.Test.YtoiejllkdjjdnaaRch
set_option linter.unusedSimpArgs false
set_option linter.unusedVariables false
namespace Go.Proofs.Ytoiejllkdjjdnaa
open Go.RowKit

/-- what the reference's Line gives -/
def RlnPost (w : World) (E : List El) (L : List It) (e : Ending) (w' : World) : Prop :=
  Below w.heap.size w w' ∧ ∃ v, e = .returned v ∧ w'.ownsRow w.heap.size 35 7 v (L.map (itemS E)).length (flatR (L.map (itemS E)))
set_option maxHeartbeats 4000000 in
set_option maxRecDepth 100000 in
theorem rline_any {w : World} {c : Ct} (h : CtOk w c) (hE : FitE c.E) {a : Option Addr} {b off len cap : Nat} {L : List It} (hL : SlX w a b off len cap L) (hf : fitC L) (hm : len ≤ 1000000) : Calls Try.prog 24 #[c.val, .slice a len cap] w (RlnPost w c.E L) := by
  obtain ⟨iz, hi, hz0, hz1, hz2⟩ := info_parts infoR
  have hl0 := hL.hl
  have HOK := Lib.hid h
  have HS := Lib.hid hL
  have HIT := Lib.hid (fun W (x : It) (hW : CtOk W c) (hx : x.c.size ≤ maxLen) => ritem_fit hW hE x hx)
  have HF := Lib.hid (show ∀ (k : Nat) (h : k < L.length), (L[k]'h).c.size ≤ maxLen from fun k h => hf k h)
  have HN := Lib.hid (ct_new w c 27)
  have HB0 := Lib.hid (show Below w.heap.size w (w.alloc (.cells #[.slice c.ag c.ng c.cg, .slice c.ak c.nk c.ck, .slice c.ae c.ne c.ce, .slice c.ac c.nc c.cc] 27)) from (by repeat (first | with_reducible exact Below.refl _ _ | (with_reducible refine Below.setCell ?_ (by first | exact Nat.le_refl _ | omega | (simp; done) | (simp; omega)) _) | (with_reducible refine Below.alloc ?_ (by first | exact Nat.le_refl _ | omega | (simp; done) | (simp; omega)) _) | with_reducible refine Below.drew ?_ | with_reducible refine bel_drewN ?_ _ | (with_reducible refine bel_by (by with_reducible assumption) (by first | exact Nat.le_refl _ | omega | (simp; done) | (simp; omega)) ?_))))
  unfold RgPost at HIT
  unfold RlnPost
  obtain ⟨M, hM⟩ : ∃ M, L.map (itemS c.E) = M := ⟨_, rfl⟩
  rw [hM]
  have HM := Lib.hid hM
  have hMl : M.length = len := by rw [← hM, List.length_map, hl0]
  unfold Ct.val at HIT ⊢
  obtain ⟨ag, bg, og, ng, cg, ak, bk, ok, nk, ck, ae, be, oe, ne, ce, ac, bc, oc, nc, cc, G, K, E, X⟩ := c
  simp only at HIT HN HB0 HM ⊢
  clear h hL hf hE hM
  go_enter Try.func24, Try.ntmps24
  go_wp2_with fail
  have hsz0 : (w.alloc (.cells #[.slice ag ng cg, .slice ak nk ck, .slice ae ne ce, .slice ac nc cc] 27)).heap.size = w.heap.size + 1 := by simp
  generalize (w.alloc (.cells #[.slice ag ng cg, .slice ak nk ck, .slice ae ne ce, .slice ac nc cc] 27)) = W0 at *
  have HB1 := Lib.hid (show Below w.heap.size w (W0.alloc (.cells #[] 35)) from HB0.out.alloc HB0.out.size _)
  have HN1 := Lib.hid (HN.out.keep (show Below W0.heap.size W0 (W0.alloc (.cells #[] 35)) from (Below.refl _ _).alloc (Nat.le_refl _) _))
  have HO1 := Lib.hid (World.ownsRow_made (e := 35) (size := 7) (base := w.heap.size + 1) W0 #[] 0 (by omega) (Nat.zero_le _) rfl)
  try rw [hsz0] at HO1
  clear HB0 HN
  go_loopw [5, 6] (fun s7 s17 wr => ∃ (R : List Rg), R.length ≤ len ∧ s17 = .int .i64 (R.length : Int) ∧ Hid (wr.ownsRow (w.heap.size + 1) 35 7 s7 R.length (flatR R)) ∧ Hid (Below w.heap.size w wr) ∧ Hid (CtAt wr w.heap.size _) ∧ Hid (R = M.take R.length)) (fun _ s17 _ => (len - (intOf s17)).toNat)
  case atStart => exact ⟨[], Nat.zero_le _, rfl, HO1, HB1, HN1, Lib.hid (by simp)⟩
  case round =>
    obtain ⟨R, hk, rfl, HO, HB, HNr, HR⟩ := hrel
    obtain ⟨ao, cv, rfl⟩ := own_form HO.out
    clear HB1 HN1 HO1
    by_cases hlt : R.length < len
    · have hl : (R.length : Int) < (len : Int) := by omega
      have hkL : R.length < L.length := by omega
      have S := HS.out.keep HB.out
      obtain rfl := S.ha (by omega)
      have sb := S.hb (by omega)
      have c0 := S.c0 R.length hkL
      have c1 := S.c1 R.length hkL
      have c2 := S.c2 R.length hkL
      have c3 := S.c3 R.length hkL
      have c4 := S.c4 R.length hkL
      have hfx := HF.out R.length hkL
      have HX := Lib.hid (show M.take (R.length + 1) = R ++ [itemS E (L[R.length]'hkL)] by
        rw [List.take_succ_eq_append_getElem (by rw [hMl]; exact hlt), ← HR.out]
        congr 1
        have := HM.out
        subst this
        simp)
      clear S
      generalize L[R.length]'hkL = x at *
      obtain ⟨y, hy⟩ : ∃ y, itemS E x = y := ⟨_, rfl⟩
      have HIX := Lib.hid (fun W hW => HIT.out W x hW hfx)
      simp only [hy] at HIX HX
      clear hy hfx
      obtain ⟨xc, xd, xr, xv, xj⟩ := x
      obtain ⟨yk, yc, yg, ys, yn, yr, yj⟩ := y
      simp only [It.val, Rg.val] at c0 c1 c2 c3 c4 HIX
      have hszw : w.heap.size ≤ wr.heap.size := HB.out.size
      have hbd : Below wr.heap.size wr wr.drew := (Below.refl _ _).drew
      obtain ⟨z0, z1, z2, z3, zf, zl⟩ := HNr.out
      simp only at z0 z1 z2 z3
      have HOd := Lib.hid (own_below HO.out hbd)
      have HBd := Lib.hid (HB.out.trans (hbd.mono HB.out.size))
      have HNd := Lib.hid (HNr.out.keep hbd)
      have hwr1 : w.heap.size + 1 ≤ wr.heap.size := HNr.out.lt
      clear hbd HO HB HNr
      go_upto_region 5 with fail
      go_region_law (first | (go_loud (refine step_append_lies _ rfl _ _ 38 rfl (w.heap.size + 1) 35 iz (.agg #[.bool false, .string ⟨#[]⟩, .string ⟨#[]⟩, .string ⟨#[]⟩, .int .i64 0, .bool false, .bool false]) 7 72 Try.underlying38 hi hz0 hz1 hz2 rfl (by decide) (.slice ao R.length cv) R.length (flatR R) rfl HO3.out ⟨w2.heap.size, 0, none⟩ 1 1 [.bool yk, .string yc, .string yg, .string ys, .int .i64 yn, .bool yr, .bool yj] rfl rfl HCE.out (by intro u hu; simp only [List.mem_cons, List.not_mem_nil, or_false] at hu; rcases hu with rfl | rfl | rfl | rfl | rfl | rfl | rfl <;> rfl) (by decide) (by unfold maxLen; omega) (by omega) (by simp; omega) _ rfl ?_); intro g7 cap7 w7 hown7 hgrow7 hat7 hlt7; have HOW := Lib.hid hown7; have HGW := Lib.hid hgrow7; clear hown7 hgrow7 hat7 hlt7) | (go_simp; go_at_call 14; refine (HIX.out _ (HOK.out.keep HBd.out)).mono ?_; rintro e w2 ⟨rfl, hb2⟩; have HB2 := Lib.hid (HBd.out.trans (hb2.mono HBd.out.size)); have HO2 := Lib.hid (own_below HOd.out hb2); have HN2 := Lib.hid (HNd.out.keep hb2); have HO3 := Lib.hid (HO2.out.alloc (.cells #[.bool yk, .string yc, .string yg, .string ys, .int .i64 yn, .bool yr, .bool yj] 35)); have HB3 := Lib.hid (show Below w.heap.size w (w2.alloc (.cells #[.bool yk, .string yc, .string yg, .string ys, .int .i64 yn, .bool yr, .bool yj] 35)) from HB2.out.alloc HB2.out.size _); have HN3 := Lib.hid (show CtAt (w2.alloc (.cells #[.bool yk, .string yc, .string yg, .string ys, .int .i64 yn, .bool yr, .bool yj] 35)) _ _ from HN2.out.keep ((Below.refl _ _).alloc (Nat.le_refl _) _)); have HCE := Lib.hid (rg_cells w2 ⟨yk, yc, yg, ys, yn, yr, yj⟩); simp only at HCE; have HOL := Lib.hid (fun g h => HO2.out.lt g h); have hsz2 : w.heap.size + 1 ≤ w2.heap.size := Nat.le_trans hwr1 (Nat.le_trans (by simp) hb2.size); clear hb2))
      all_goals
        have HO7 := Lib.hid (show w7.ownsRow (w.heap.size + 1) 35 7 (.slice (some ⟨g7, 0, none⟩) (R.length + 1) cap7) (R ++ [(⟨yk, yc, yg, ys, yn, yr, yj⟩ : Rg)]).length (flatR (R ++ [(⟨yk, yc, yg, ys, yn, yr, yj⟩ : Rg)])) by rw [List.length_append, List.length_singleton, flatR_snoc]; exact HOW.out)
        have HB7 := Lib.hid (HB3.out.grown HGW.out (by simp; omega) (fun g h => by have := (HOL.out g h).1; omega))
        have HN7 := Lib.hid (show CtAt w7 w.heap.size _ from ct_grown HN3.out HGW.out (fun e => by have := (HOL.out _ e.symm).1; omega))
        clear HOW HGW
        go_wp2_with fail
        go_roundw
        case rel => exact ⟨R ++ [(⟨yk, yc, yg, ys, yn, yr, yj⟩ : Rg)], by rw [List.length_append, List.length_singleton]; omega, by rw [List.length_append, List.length_singleton]; go_num, HO7, HB7, HN7, Lib.hid (by rw [List.length_append, List.length_singleton, HX.out])⟩
        case measure => simp [intOf]; omega
    · have hl : ¬ (R.length : Int) < (len : Int) := by omega
      have hRM : R = M := by
        rw [HR.out]
        exact List.take_of_length_le (by omega)
      have HRM := Lib.hid hRM
      clear hRM
      go_wp2_with fail
      go_ret
      exact ⟨HB.out, _, rfl, by
        have hlen : R.length = len := by omega
        rw [← HRM.out, ← hlen]
        exact own_low HO.out (Nat.le_succ _)⟩
end Go.Proofs.Ytoiejllkdjjdnaa
