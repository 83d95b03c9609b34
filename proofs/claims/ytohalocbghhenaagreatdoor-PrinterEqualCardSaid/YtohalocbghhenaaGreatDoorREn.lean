/- The reference's entry. -/
import Derived.Test.YtohalocbghhenaaGreatDoorRSg
import Derived.Test.YtohalocbghhenaaGreatDoorEnts
import Derived.Deep.RegionLaw
import Derived.Deep.AppendLies
set_option linter.unusedSimpArgs false
set_option linter.unusedVariables false
namespace Go.Proofs.YtohalocbghhenaaGreatDoor
open Go.RowKit

theorem cell_new3 (w : World) (b k : Nat) (o1 o2 o3 : Obj) (hb : b < w.heap.size) : (((w.alloc o1).alloc o2).alloc o3).cell? ⟨b, k, none⟩ = w.cell? ⟨b, k, none⟩ :=
  (((Below.refl w.heap.size w).alloc (Nat.le_refl _) o1).alloc (by simp) o2 |>.alloc (by simp; omega) o3).cell (p := ⟨b, k, none⟩) hb
/-- what the reference's entry finds at a place: as entR, its word included -/
def rntR (F o : Nat) (x : Tk) (l : List Tk) : List Tk × Bool × Cls × List Tk × Int × Int := if x.k ≠ 1 then ([], false, .nil, [], 2, x.a) else entR F o l
theorem ClAt.size {w : World} {b : Nat} {wd : ByteArray} {va vk : Value} {bl : Bool} {a : Int} (h : ClAt w b wd va bl vk a) : b < w.heap.size := h.lt
theorem below_fin {w w3 W : World} {rb fb : Nat} {a0 a4 a5 a6 : Value} {a1 a2 a3 : Value} (h : ((((((w3.setCell ⟨rb, 0, none⟩ a0).setCell ⟨rb, 1, none⟩ a1).setCell ⟨rb, 2, none⟩ a2).setCell ⟨rb, 3, none⟩ a3).setCell ⟨rb, 4, none⟩ a4).setCell ⟨fb, 0, none⟩ a5).setCell ⟨fb, 1, none⟩ a6 = W) (hB : Below w.heap.size w w3) (h1 : w.heap.size ≤ rb) (h2 : w.heap.size ≤ fb) : Below w.heap.size w W := by
  rw [← h]
  exact Below.setCell (Below.setCell (Below.setCell (Below.setCell (Below.setCell (Below.setCell (Below.setCell hB h1 a0) h1 a1) h1 a2) h1 a3) h1 a4) h2 a5) h2 a6
theorem encT_one (t : Tk) : ∀ u ∈ encT t, u.oneCell' = true := by
  intro u hu
  simp only [encT, List.mem_cons, List.not_mem_nil, or_false] at hu
  rcases hu with rfl | rfl | rfl | rfl <;> rfl
theorem grown_below {B base e z n : Nat} {w w2 w7 : World} {v : Value} {xs : List Value} {o : Obj} (hB : Below B w w2) (hg : (w2.alloc o).grownBy w7 v.ownBlock) (ho : w2.ownsRow base e z v n xs) (hb : B ≤ base) (hz : B ≤ w2.heap.size) : Below B w w7 :=
  (hB.alloc hz o).grown hg (by simp; omega) (fun k hk => Nat.le_trans hb (ho.lt k hk).1)
theorem SlC.agr {w w' : World} {F : Nat → Prop} {a : Option Addr} {b o len cap : Nat} {c : Cls} (h : SlC w F a b o len cap c) (hs : w.heap.size ≤ w'.heap.size) (hF : ∀ x, F x → ∀ k, w'.cell? ⟨x, k, none⟩ = w.cell? ⟨x, k, none⟩) : SlC w' F a b o len cap c := by
  obtain ⟨h1, h2, h3, h4, h5⟩ := h
  exact ⟨h1, h2, h3, fun h => ⟨(h4 h).1, Nat.lt_of_lt_of_le (h4 h).2.1 hs, (h4 h).2.2⟩, AtC.agree hs hF (fun h => hF b (h4 (by omega)).2.2) h5⟩
theorem parL_rnt {F o : Nat} {t : Tk} {l : List Tk} {rr : List Tk × Bool × Cls × List Tk × Int × Int} (h : (t :: l).length < F) (he : sgn t 125 = false) (hr : rntR F (o + 1) t l = rr) :
    parL F (o + 1) (t :: l) = if rr.2.2.2.2.1 = 0 then consR t rr.1 rr.2.1 rr.2.2.1 (parL F (o + 1) rr.2.2.2.1) else (.nil, [], rr.2.2.2.2) := by
  subst hr
  have he2 : endsB (o + 1) t = false := by unfold endsB; rw [if_neg (by omega)]; exact he
  unfold rntR
  by_cases hk : t.k = 1
  · rw [if_neg (show ¬ (t.k ≠ 1) by simp [hk])]
    exact parL_word h he2 hk
  · rw [if_pos (show t.k ≠ 1 from hk), parL_odd (by omega) he2 hk]
    simp
theorem rnt_hasE {F o : Nat} {t : Tk} {l : List Tk} {rr : List Tk × Bool × Cls × List Tk × Int × Int} (hE : HasE (t :: l)) (h : l.length < F) (hr : rntR F o t l = rr) (h0 : rr.2.2.2.2.1 = 0) : HasE rr.2.2.2.1 := by
  subst hr
  unfold rntR at h0 ⊢
  by_cases hk : t.k = 1
  · rw [if_neg (show ¬ (t.k ≠ 1) by simp [hk])] at h0 ⊢
    exact entR_hasE (HasE.drop (L := []) hE (by simp) (by omega)) h0 h
  · rw [if_pos (show t.k ≠ 1 from hk)] at h0
    exact absurd h0 (by simp)
def RntC (F : Nat) (L : List Tk) (a : Option Addr) (b o len cap n : Nat) : Prop :=
  ∀ (w : World) (k op : Nat) (hk : k < L.length), SlT w a b o len cap L → HasE (L.drop k) → L.length - k < n → op ≤ 8 →
    Calls Tryz.prog 50 #[.slice a len cap, .int .i64 (k : Int), .int .i64 (op : Int)] w fun e w' =>
      Below w.heap.size w w' ∧ ∃ wd aa la ca bl ak lk ck av nx, e = .returned (.tuple #[.agg #[.string wd, .slice aa la ca, .bool bl, .slice ak lk ck, .int .i64 av], .int .i64 nx, fV (rntR F op (L[k]'hk) (L.drop (k + 1))).2.2.2.2.1 (rntR F op (L[k]'hk) (L.drop (k + 1))).2.2.2.2.2]) ∧
        ((rntR F op (L[k]'hk) (L.drop (k + 1))).2.2.2.2.1 = 0 → wd = (L[k]'hk).t ∧ av = (L[k]'hk).a ∧ bl = (rntR F op (L[k]'hk) (L.drop (k + 1))).2.1 ∧ la = (rntR F op (L[k]'hk) (L.drop (k + 1))).1.length ∧ lk = (rntR F op (L[k]'hk) (L.drop (k + 1))).2.2.1.len ∧
          (∃ ba oa, SlT w' aa ba oa la ca (rntR F op (L[k]'hk) (L.drop (k + 1))).1 ∧ (0 < la → w.heap.size ≤ ba)) ∧ (∃ bk ok, SlC w' (fun x => w.heap.size ≤ x) ak bk ok lk ck (rntR F op (L[k]'hk) (L.drop (k + 1))).2.2.1) ∧
          ∃ k' : Nat, nx = (k' : Int) ∧ L.drop k' = (rntR F op (L[k]'hk) (L.drop (k + 1))).2.2.2.1 ∧ k < k')
set_option maxHeartbeats 8000000 in
set_option maxRecDepth 100000 in
theorem rnt_any (F : Nat) (L : List Tk) (a : Option Addr) (b o len cap : Nat) (hl : len ≤ 1000000) (hF : L.length < F) : ∀ n, RntC F L a b o len cap n
  | 0 => fun _ _ _ _ _ _ h _ => absurd h (Nat.not_lt_zero _)
  | n + 1 => fun w k op hk hS hE hn ho => by
    have IH := Lib.hid (rnt_any F L a b o len cap hl hF n)
    have HIA := Lib.hid (fun k t n a W => ratom_any10 ⟨k, t, n, a⟩ W)
    have HIS := Lib.hid (fun k t n a x W => rsign_any10 ⟨k, t, n, a⟩ x W)
    simp only [Tk.val] at HIA HIS
    have HR := Lib.hid (fun xs d m (h : L.drop (k + 1) = xs ++ d :: m) (h1 : ∀ x ∈ xs, atmB x = true) (h2 : atmB d = false) => (congrArg (entR F op) h).trans (entR_at h1 h2))
    have HRN := Lib.hid (show rntR F op (L[k]'hk) (L.drop (k + 1)) = if (L[k]'hk).k ≠ 1 then ([], false, .nil, [], 2, (L[k]'hk).a) else entR F op (L.drop (k + 1)) from rfl)
    have HHE := Lib.hid hE
    have HSL := Lib.hid hS
    have HDK := Lib.hid (show L.drop k = L[k]'hk :: L.drop (k + 1) from List.drop_eq_getElem_cons hk)
    have hLl := hS.hl
    have hm := hS.hmax
    have hcp := hS.hcap
    unfold maxLen at hm
    obtain rfl := hS.ha (by omega)
    have hb := hS.hb (by omega)
    have x0 := hS.c0 k hk
    have x1 := hS.c1 k hk
    have x2 := hS.c2 k hk
    have x3 := hS.c3 k hk
    generalize rntR F op (L[k]'hk) (L.drop (k + 1)) = r at *
    generalize entR F op (L.drop (k + 1)) = r2 at *
    generalize L[k]'hk = x at *
    obtain ⟨iz, hi, hz0, hz1, hz2⟩ := info_parts infoT
    obtain ⟨jz, hj, hy0, hy1, hy2⟩ := info_parts infoC
    clear hS hE
    obtain ⟨xk, xt, xn, xa⟩ := x
    simp only at x0 x1 x2 x3 HRN HDK
    have hkl : (k : Int) < (len : Int) := by omega
    have HB := Lib.hid (show Below w.heap.size w ((((w.alloc (.cells #[.string ⟨#[]⟩, .slice none 0 0, .bool false, .slice none 0 0, .int .i64 0] 25)).alloc (.cells #[.int .i64 0, .int .i64 0] 40)).alloc (.cells #[.string xt, .slice none 0 0, .bool false, .slice none 0 0, .int .i64 xa] 25)).drew) from (by repeat (first | with_reducible exact Below.refl _ _ | (with_reducible refine Below.setCell ?_ (by first | exact Nat.le_refl _ | omega | (simp; done) | (simp; omega)) _) | (with_reducible refine Below.alloc ?_ (by first | exact Nat.le_refl _ | omega | (simp; done) | (simp; omega)) _) | with_reducible refine Below.drew ?_ | with_reducible refine bel_drewN ?_ _ | (with_reducible refine bel_by (by with_reducible assumption) (by first | exact Nat.le_refl _ | omega | (simp; done) | (simp; omega)) ?_))))
    have HRB := Lib.hid (((cl_new w ⟨#[]⟩ (.slice none 0 0) (.slice none 0 0) false 0 25).keep ((Below.refl _ _).alloc (Nat.le_refl _) (.cells #[.int .i64 0, .int .i64 0] 40))).keep (((Below.refl _ _).alloc (Nat.le_refl _) (.cells #[.string xt, .slice none 0 0, .bool false, .slice none 0 0, .int .i64 xa] 25)).drew))
    have HFB := Lib.hid ((ft_new (w.alloc (.cells #[.string ⟨#[]⟩, .slice none 0 0, .bool false, .slice none 0 0, .int .i64 0] 25)) 0 0 40).keep (((Below.refl _ _).alloc (Nat.le_refl _) (.cells #[.string xt, .slice none 0 0, .bool false, .slice none 0 0, .int .i64 xa] 25)).drew))
    have HCB := Lib.hid ((cl_new ((w.alloc (.cells #[.string ⟨#[]⟩, .slice none 0 0, .bool false, .slice none 0 0, .int .i64 0] 25)).alloc (.cells #[.int .i64 0, .int .i64 0] 40)) xt (.slice none 0 0) (.slice none 0 0) false xa 25).keep ((Below.refl _ _).drew))
    have hsz : ((((w.alloc (.cells #[.string ⟨#[]⟩, .slice none 0 0, .bool false, .slice none 0 0, .int .i64 0] 25)).alloc (.cells #[.int .i64 0, .int .i64 0] 40)).alloc (.cells #[.string xt, .slice none 0 0, .bool false, .slice none 0 0, .int .i64 xa] 25)).drew).heap.size = w.heap.size + 3 := by show (((w.alloc _).alloc _).alloc _).heap.size = _; simp
    simp only [World.size_alloc] at HFB HCB
    have n0 : ¬ b = w.heap.size := by omega
    have n1 : ¬ b = w.heap.size + 1 := by omega
    have n2 : ¬ b = w.heap.size + 1 + 1 := by omega
    have m0 : ¬ w.heap.size = b := by omega
    have m1 : ¬ w.heap.size + 1 = b := by omega
    have m2 : ¬ w.heap.size + 1 + 1 = b := by omega
    have y1 := (cell_new3 w b (o + k * 4 + 1) (.cells #[.string ⟨#[]⟩, .slice none 0 0, .bool false, .slice none 0 0, .int .i64 0] 25) (.cells #[.int .i64 0, .int .i64 0] 40) (.cells #[.string ⟨#[]⟩, .slice none 0 0, .bool false, .slice none 0 0, .int .i64 0] 25) hb).trans x1
    have y3 := (cell_new3 w b (o + k * 4 + 3) (.cells #[.string ⟨#[]⟩, .slice none 0 0, .bool false, .slice none 0 0, .int .i64 0] 25) (.cells #[.int .i64 0, .int .i64 0] 40) (.cells #[.string ⟨#[]⟩, .slice none 0 0, .bool false, .slice none 0 0, .int .i64 0] 25) hb).trans x3
    go_enter Tryz.func50, Tryz.ntmps50
    go_wp2_with fail
    go_region
    all_goals
      generalize (((w.alloc (.cells #[.string ⟨#[]⟩, .slice none 0 0, .bool false, .slice none 0 0, .int .i64 0] 25)).alloc (.cells #[.int .i64 0, .int .i64 0] 40)).alloc (.cells #[.string xt, .slice none 0 0, .bool false, .slice none 0 0, .int .i64 xa] 25)).drew = W0 at *
      obtain ⟨rb, hrb⟩ : ∃ rb, w.heap.size = rb := ⟨_, rfl⟩
      clear n0 n1 n2 m0 m1 m2 y1 y3
      have HX0 := Lib.hid ((HB.out.cell (p := ⟨b, o + k * 4, none⟩) hb).trans x0)
      have HX3 := Lib.hid ((HB.out.cell (p := ⟨b, o + k * 4 + 3, none⟩) hb).trans x3)
      clear x0 x1 x2 x3
      have h3 : W0.heap.size = rb + 3 := by rw [← hrb]; exact hsz
      have hHR : w.heap.size ≤ rb := by omega
      rw [hrb] at HRB HFB HCB ⊢
      have o2 : rb + 1 < rb + 1 + 1 := Nat.lt_succ_self _
      have o1 : rb < rb + 1 := Nat.lt_succ_self _
      have o3 : rb + 1 + 1 < W0.heap.size := by omega
      generalize rb + 1 + 1 = cb at *
      generalize rb + 1 = fb at *
      have e0 := HX0.out
      have e3 := HX3.out
      by_cases hx1 : xk = 1
      · subst hx1
        have hrn := HRN.out
        rw [if_neg (by simp)] at hrn
        subst hrn
        have HP1 : k + 1 < L.length := by
          have := HHE.out
          rw [HDK.out] at this
          have := (HasE.drop (L := []) this (by simp) (by simp)).pos
          omega
        have HE1 := Lib.hid (show HasE (L.drop (k + 1)) by
          have := HHE.out
          rw [HDK.out] at this
          exact HasE.drop (L := []) this (by simp) (by simp))
        go_wp2_with fail
        clear e0 e3
        go_loopw [1] (fun s1 wr => ∃ (k' : Nat) (xs : List Tk) (va : Value), k < k' ∧ k' < L.length ∧ s1 = .int .i64 (k' : Int) ∧ xs.length < k' ∧ W0.heap.size ≤ wr.heap.size ∧ Hid (Below w.heap.size w wr) ∧ Hid (ClAt wr rb ⟨#[]⟩ (.slice none 0 0) false (.slice none 0 0) 0) ∧ Hid (FtAt wr fb 0 0) ∧ Hid (ClAt wr cb xt va false (.slice none 0 0) xa) ∧ Hid (wr.ownsRow (cb + 1) 51 4 va xs.length (flatT xs)) ∧ Hid (L.drop (k + 1) = xs ++ L.drop k') ∧ Hid (∀ y ∈ xs, atmB y = true)) (fun s1 _ => L.length - (intOf s1).toNat)
        case atStart => exact ⟨k + 1, [], .slice none 0 0, by omega, HP1, by go_num, by simp, Nat.le_refl _, HB, HRB, HFB, HCB, Lib.hid (World.ownsRow_nil _ _ _ _), Lib.hid rfl, Lib.hid (by simp)⟩
        case round =>
          obtain ⟨k', xs, va, hk1, hk2, rfl, hxl, hws, HBr, HRr, HFr, HCr, HO, HL, HA⟩ := hrel
          clear HB HRB HFB HCB
          have hSr := HSL.out.keep HBr.out
          have HNL := Lib.hid (show L.drop k' = L[k']'hk2 :: L.drop (k' + 1) from List.drop_eq_getElem_cons hk2)
          have p0 := hSr.c0 k' hk2
          have p1 := hSr.c1 k' hk2
          have p2 := hSr.c2 k' hk2
          have p3 := hSr.c3 k' hk2
          have bbr := hSr.hb (by omega)
          have hkl2 : (k' : Int) < (len : Int) := by omega
          obtain ⟨y, hy⟩ : ∃ y, L[k']'hk2 = y := ⟨_, rfl⟩
          have HYE := Lib.hid hy
          rw [hy] at p0 p1 p2 p3 HNL
          clear hy
          obtain ⟨yk, yt, yn, ya⟩ := y
          simp only at p0 p1 p2 p3
          clear hSr
          obtain ⟨av, cv, rfl⟩ := own_form HO.out
          go_wp2_with fail
          refine (HIA.out _ _ _ _ _).mono ?_
          rintro e w2 ⟨rfl, hb2⟩
          have HB2 := Lib.hid (HBr.out.trans (Below.mono hb2 HBr.out.size))
          have HR2 := Lib.hid (HRr.out.keep hb2)
          have HF2 := Lib.hid (HFr.out.keep hb2)
          have HC2 := Lib.hid (HCr.out.keep hb2)
          have HO2 := Lib.hid (own_below HO.out hb2)
          have hs2 := hb2.size
          clear p0 p1 p2 p3 hb2 HBr HRr HFr HCr HO
          have hS2 := HSL.out.keep HB2.out
          have HS2 := Lib.hid hS2
          have hb2b := hS2.hb (by omega)
          clear hS2 bbr
          cases hat : atmB ⟨yk, yt, yn, ya⟩ with
          | true =>
            have HAT := Lib.hid hat
            have hHE := HE1.out
            rw [HL.out, HNL.out] at hHE
            have HH3 := Lib.hid (hHE.drop (fun y hy => atm_ne5 (HA.out y hy)) (atm_ne5 hat))
            have hk3 : k' + 1 < L.length := HH3.out.pos
            have hmx : xs.length ≤ 1000000 := by omega
            obtain ⟨c0, c1, c2, c3, c4, cf, cl⟩ := HC2.out
            have t0 := HS2.out.c0 k' hk2
            have t1 := HS2.out.c1 k' hk2
            have t2 := HS2.out.c2 k' hk2
            have t3 := HS2.out.c3 k' hk2
            rw [HYE.out] at t0 t1 t2 t3
            simp only at t0 t1 t2 t3
            clear hat hHE
            go_wp2_with fail
            go_cut [45, 46, 47, 48, 49, 50, 51, 52, 53] (fun s45 s46 s47 s48 s49 s50 s51 s52 s53 wx => ∃ v', Hid (Below w.heap.size w wx) ∧ wr.heap.size ≤ wx.heap.size ∧ Hid (ClAt wx rb ⟨#[]⟩ (.slice none 0 0) false (.slice none 0 0) 0) ∧ Hid (FtAt wx fb 0 0) ∧ Hid (ClAt wx cb xt v' false (.slice none 0 0) xa) ∧ Hid (wx.ownsRow (cb + 1) 51 4 v' (xs.length + 1) (flatT xs ++ encT ⟨yk, yt, yn, ya⟩)))
            case first =>
              have hB2w := HB2.out
              go_region_law (go_loud (refine step_append_lies _ rfl _ _ 22 rfl (cb + 1) 51 iz (.agg #[.int .i64 0, .string ⟨#[]⟩, .int .i64 0, .int .i64 0]) 4 40 Tryz.underlying22 hi hz0 hz1 hz2 rfl (by decide) (.slice av xs.length cv) xs.length (flatT xs) rfl (HO2.out.alloc (.cells #[.int .i64 yk, .string yt, .int .i64 yn, .int .i64 ya] 51)) ⟨w2.heap.size, 0, none⟩ 1 1 (encT ⟨yk, yt, yn, ya⟩) rfl rfl (tk_cells w2 ⟨yk, yt, yn, ya⟩) (encT_one ⟨yk, yt, yn, ya⟩) (by decide) (by unfold maxLen; omega) (by omega) (by show cb + 1 ≤ (w2.alloc _).heap.size; simp; omega) _ rfl ?_); intro g cap7 w7 hown hgrow hat2 hlt2; have HB7 := Lib.hid (Below.grown (show Below w.heap.size w _ from (by repeat (first | with_reducible exact Below.refl _ _ | (with_reducible refine Below.setCell ?_ (by first | exact Nat.le_refl _ | omega | (simp; done) | (simp; omega)) _) | (with_reducible refine Below.alloc ?_ (by first | exact Nat.le_refl _ | omega | (simp; done) | (simp; omega)) _) | with_reducible refine Below.drew ?_ | with_reducible refine bel_drewN ?_ _ | (with_reducible refine bel_by (by with_reducible assumption) (by first | exact Nat.le_refl _ | omega | (simp; done) | (simp; omega)) ?_)))) hgrow (by simp; omega) (fun k hk => Nat.le_trans (by omega) (HO2.out.lt k hk).1)); have HR7 := Lib.hid ((HR2.out.keep (show Below w2.heap.size w2 _ from (by repeat (first | with_reducible exact Below.refl _ _ | (with_reducible refine Below.setCell ?_ (by first | exact Nat.le_refl _ | omega | (simp; done) | (simp; omega)) _) | (with_reducible refine Below.alloc ?_ (by first | exact Nat.le_refl _ | omega | (simp; done) | (simp; omega)) _) | with_reducible refine Below.drew ?_ | with_reducible refine bel_drewN ?_ _ | (with_reducible refine bel_by (by with_reducible assumption) (by first | exact Nat.le_refl _ | omega | (simp; done) | (simp; omega)) ?_))))).grown hgrow (fun e => by have := (HO2.out.lt _ e.symm).1; omega)); have HF7 := Lib.hid ((HF2.out.keep (show Below w2.heap.size w2 _ from (by repeat (first | with_reducible exact Below.refl _ _ | (with_reducible refine Below.setCell ?_ (by first | exact Nat.le_refl _ | omega | (simp; done) | (simp; omega)) _) | (with_reducible refine Below.alloc ?_ (by first | exact Nat.le_refl _ | omega | (simp; done) | (simp; omega)) _) | with_reducible refine Below.drew ?_ | with_reducible refine bel_drewN ?_ _ | (with_reducible refine bel_by (by with_reducible assumption) (by first | exact Nat.le_refl _ | omega | (simp; done) | (simp; omega)) ?_))))).grown hgrow (fun e => by have := (HO2.out.lt _ e.symm).1; omega)); have HC7 := Lib.hid ((HC2.out.keep (show Below w2.heap.size w2 _ from (by repeat (first | with_reducible exact Below.refl _ _ | (with_reducible refine Below.setCell ?_ (by first | exact Nat.le_refl _ | omega | (simp; done) | (simp; omega)) _) | (with_reducible refine Below.alloc ?_ (by first | exact Nat.le_refl _ | omega | (simp; done) | (simp; omega)) _) | with_reducible refine Below.drew ?_ | with_reducible refine bel_drewN ?_ _ | (with_reducible refine bel_by (by with_reducible assumption) (by first | exact Nat.le_refl _ | omega | (simp; done) | (simp; omega)) ?_))))).grown hgrow (fun e => by have := (HO2.out.lt _ e.symm).1; omega)); have HO7 := Lib.hid hown; have hs7 := Nat.le_trans (show Below w2.heap.size w2 _ from (by repeat (first | with_reducible exact Below.refl _ _ | (with_reducible refine Below.setCell ?_ (by first | exact Nat.le_refl _ | omega | (simp; done) | (simp; omega)) _) | (with_reducible refine Below.alloc ?_ (by first | exact Nat.le_refl _ | omega | (simp; done) | (simp; omega)) _) | with_reducible refine Below.drew ?_ | with_reducible refine bel_drewN ?_ _ | (with_reducible refine bel_by (by with_reducible assumption) (by first | exact Nat.le_refl _ | omega | (simp; done) | (simp; omega)) ?_)))).size hgrow.size; clear hown hgrow hat2 c0 c1 c2 c3 c4 cf cl t0 t1 t2 t3; obtain ⟨c0, c1, c2, c3, c4, cf, cl⟩ := HC7.out)
              all_goals
                clear c0 c1 c2 c3 c4 cf cl
                go_wp2_with fail
                go_meet
                exact ⟨.slice (some ⟨g, 0, none⟩) (xs.length + 1) cap7, Lib.hid (Below.setCell HB7.out (show w.heap.size ≤ cb by omega) _), by simp; omega, Lib.hid (HR7.out.other _ (by show cb ≠ rb; omega) _), Lib.hid (HF7.out.other _ (by show cb ≠ fb; omega) _), Lib.hid (HC7.out.set1 _), Lib.hid (ownsRow_setCell_below HO7.out (by show cb < cb + 1; omega) _)⟩
            obtain ⟨v', HB3, hs3, HR3, HF3, HC3, HO3⟩ := hcut
            clear c0 c1 c2 c3 c4 cf cl t0 t1 t2 t3 HB2 HR2 HF2 HC2 HO2 HS2
            generalize wc = w3 at *
            go_wp2_with fail
            go_roundw
            case rel =>
              refine ⟨k' + 1, xs ++ [⟨yk, yt, yn, ya⟩], v', by omega, hk3, by go_num, by simp; omega, by omega, HB3, HR3, HF3, HC3, Lib.hid ?_, Lib.hid ?_, Lib.hid ?_⟩
              · rw [List.length_append, List.length_singleton, flatT_snoc]; exact HO3.out
              · rw [HL.out, HNL.out]; simp
              · intro y hy
                rw [List.mem_append, List.mem_singleton] at hy
                rcases hy with hy | rfl
                · exact HA.out y hy
                · exact HAT.out
            case measure => simp [intOf]; omega
          | false =>
            have HRR := Lib.hid (HR.out xs ⟨yk, yt, yn, ya⟩ (L.drop (k' + 1)) (by rw [HL.out, HNL.out]) HA.out hat)
            have hHE := HE1.out
            rw [HL.out, HNL.out] at hHE
            have HH2 := Lib.hid (fun (h5 : yk ≠ 5) => hHE.drop (fun y hy => atm_ne5 (HA.out y hy)) h5)
            have H59 := Lib.hid (sgnS_bs ⟨yk, yt, yn, ya⟩ 59)
            have H123 := Lib.hid (sgnS_bs ⟨yk, yt, yn, ya⟩ 123)
            unfold bs at H59 H123
            have t0 := HS2.out.c0 k' hk2
            have t1 := HS2.out.c1 k' hk2
            have t2 := HS2.out.c2 k' hk2
            have t3 := HS2.out.c3 k' hk2
            rw [HYE.out] at t0 t1 t2 t3
            simp only at t0 t1 t2 t3
            clear hHE HR HIA
            go_wp2_with fail
            refine (HIS.out _ _ _ _ _ _).mono ?_
            rintro e w3 ⟨rfl, hb3⟩
            rw [H59.out]
            have HB3 := Lib.hid (HB2.out.trans (Below.mono hb3 HB2.out.size))
            have HR3 := Lib.hid (HR2.out.keep hb3)
            have HF3 := Lib.hid (HF2.out.keep hb3)
            have HC3 := Lib.hid (HC2.out.keep hb3)
            have HO3 := Lib.hid (own_below HO2.out hb3)
            have HS3 := Lib.hid (HS2.out.keep hb3)
            have hs3 := hb3.size
            clear t0 t1 t2 t3 hb3 HB2 HR2 HF2 HC2 HO2 HS2
            obtain ⟨c0, c1, c2, c3, c4, cf, cl⟩ := HC3.out
            obtain ⟨r0, r1, r2, r3, r4, rf, rl⟩ := HR3.out
            obtain ⟨f0, f1, ff, fl⟩ := HF3.out
            cases h59 : sgn ⟨yk, yt, yn, ya⟩ 59 with
            | true =>
              have hrr := HRR.out
              rw [if_pos h59] at hrr
              have HRR2 := Lib.hid hrr
              clear hrr HRR
              go_wp2_with fail
              obtain ⟨W7, hW7, HRW, HFW, hsW, hcW, hEW⟩ := fin_ex xt (.slice av xs.length cv) (.slice none 0 0) false xa 0 0 HR3.out HF3.out (by omega)
              rw [hW7]
              have HBW := below_fin hW7 HB3.out (by omega) (by omega)
              clear hW7 hEW c0 c1 c2 c3 c4 cf cl r0 r1 r2 r3 r4 rf rl f0 f1 ff fl
              obtain ⟨r0, r1, r2, r3, r4, rf, rl⟩ := HRW
              obtain ⟨f0, f1, ff, fl⟩ := HFW
              refine bodyPost_ret (v := .tuple #[.agg #[.string xt, .slice av xs.length cv, .bool false, .slice none 0 0, .int .i64 xa], .int .i64 ((k' : Int) + 1), .agg #[.int .i64 0, .int .i64 0]]) (by simp [results, Tryz.results50, go_sem, r0, r1, r2, r3, r4, rf, rl, f0, f1, ff, fl]) rfl ?_
              rw [HRR2.out]
              obtain ⟨aa, ba, ca, hv, hs⟩ := slt_own HO3.out
              simp only [Value.slice.injEq, true_and] at hv
              obtain ⟨rfl, rfl⟩ := hv
              have hbl : 0 < xs.length → cb + 1 ≤ ba := fun h => (HO3.out.lt ba (by rw [hs.ha h]; rfl)).1
              exact ⟨HBW, xt, _, xs.length, _, false, none, 0, 0, xa, _, rfl, fun _ => ⟨rfl, rfl, rfl, rfl, rfl, ⟨ba, 0, hs.agree (by omega) (fun h j => hcW ba (by have := hbl h; omega) (by have := hbl h; omega) j), fun h => by have := hbl h; omega⟩, ⟨0, 0, slC_nil W7 _⟩, k' + 1, by omega, rfl, by omega⟩⟩
            | false =>
              have hrr := HRR.out
              rw [if_neg (by rw [h59]; decide)] at hrr
              have HRR2 := Lib.hid hrr
              clear hrr HRR c0 c1 c2 c3 c4 cf cl r0 r1 r2 r3 r4 rf rl f0 f1 ff fl
              have t0 := HS3.out.c0 k' hk2
              have t1 := HS3.out.c1 k' hk2
              have t2 := HS3.out.c2 k' hk2
              have t3 := HS3.out.c3 k' hk2
              rw [HYE.out] at t0 t1 t2 t3
              simp only at t0 t1 t2 t3
              have hb3b := HS3.out.hb (by omega)
              go_wp2_with fail
              refine (HIS.out _ _ _ _ _ _).mono ?_
              rintro e w4 ⟨rfl, hb4⟩
              rw [H123.out]
              have HB4 := Lib.hid (HB3.out.trans (Below.mono hb4 HB3.out.size))
              have HR4 := Lib.hid (HR3.out.keep hb4)
              have HF4 := Lib.hid (HF3.out.keep hb4)
              have HC4 := Lib.hid (HC3.out.keep hb4)
              have HO4 := Lib.hid (own_below HO3.out hb4)
              have HS4 := Lib.hid (HS3.out.keep hb4)
              have hs4 := hb4.size
              clear t0 t1 t2 t3 hb4 HB3 HR3 HF3 HC3 HO3 HS3
              obtain ⟨c0, c1, c2, c3, c4, cf, cl⟩ := HC4.out
              obtain ⟨r0, r1, r2, r3, r4, rf, rl⟩ := HR4.out
              obtain ⟨f0, f1, ff, fl⟩ := HF4.out
              have t3 := HS4.out.c3 k' hk2
              rw [HYE.out] at t3
              simp only at t3
              have hb4b := HS4.out.hb (by omega)
              cases h123 : sgn ⟨yk, yt, yn, ya⟩ 123 with
              | false =>
                have hrr := HRR2.out
                rw [if_pos h123] at hrr
                have HRR3 := Lib.hid hrr
                clear hrr HRR2
                go_wp2_with fail
                go_region
                all_goals
                  go_wp2_with fail
                  obtain ⟨W7, hW7, HRW, HFW, hsW, hcW, hEW⟩ := fin_ex xt (.slice av xs.length cv) (.slice none 0 0) false xa (2) (ya) HR4.out HF4.out (by omega)
                  rw [hW7]
                  have HBW := below_fin hW7 HB4.out (by omega) (by omega)
                  clear hW7 hEW hcW hsW r0 r1 r2 r3 r4 rf rl f0 f1 ff fl
                  obtain ⟨r0, r1, r2, r3, r4, rf, rl⟩ := HRW
                  obtain ⟨f0, f1, ff, fl⟩ := HFW
                  refine bodyPost_ret (v := .tuple #[.agg #[.string xt, .slice av xs.length cv, .bool false, .slice none 0 0, .int .i64 xa], .int .i64 ((k' : Int)), .agg #[.int .i64 (2), .int .i64 (ya)]]) (by simp [results, Tryz.results50, go_sem, r0, r1, r2, r3, r4, rf, rl, f0, f1, ff, fl]) rfl ?_
                  rw [HRR3.out]
                  exact ⟨HBW.drew, xt, _, _, _, false, none, 0, 0, xa, _, rfl, fun h => absurd h (by simp)⟩
              | true =>
                have hrr := HRR2.out
                rw [if_neg (by rw [h123]; decide)] at hrr
                have HRR3 := Lib.hid hrr
                have hy5 : yk ≠ 5 := by
                  intro e
                  rw [sgn_end (by exact e)] at h123
                  exact absurd h123 (by simp)
                have HH3 := Lib.hid (HH2.out hy5)
                clear hrr HRR2
                by_cases h8 : op = 8
                · subst h8
                  have hrr := HRR3.out
                  rw [if_pos rfl] at hrr
                  have HRR4 := Lib.hid hrr
                  clear hrr HRR3 IH
                  go_wp2_with fail
                  go_region
                  all_goals
                    go_wp2_with fail
                    obtain ⟨W7, hW7, HRW, HFW, hsW, hcW, hEW⟩ := fin_ex xt (.slice av xs.length cv) (.slice none 0 0) false xa (6) (ya) HR4.out HF4.out (by omega)
                    rw [hW7]
                    have HBW := below_fin hW7 HB4.out (by omega) (by omega)
                    clear hW7 hEW hcW hsW r0 r1 r2 r3 r4 rf rl f0 f1 ff fl
                    obtain ⟨r0, r1, r2, r3, r4, rf, rl⟩ := HRW
                    obtain ⟨f0, f1, ff, fl⟩ := HFW
                    refine bodyPost_ret (v := .tuple #[.agg #[.string xt, .slice av xs.length cv, .bool false, .slice none 0 0, .int .i64 xa], .int .i64 ((k' : Int)), .agg #[.int .i64 (6), .int .i64 (ya)]]) (by simp [results, Tryz.results50, go_sem, r0, r1, r2, r3, r4, rf, rl, f0, f1, ff, fl]) rfl ?_
                    rw [HRR4.out]
                    exact ⟨HBW.drew, xt, _, _, _, false, none, 0, 0, xa, _, rfl, fun h => absurd h (by simp)⟩
                · have hrr := HRR3.out
                  rw [if_neg h8] at hrr
                  have k8 : ((op : Int) == 8) = false := by rw [beq_eq_false_iff_ne]; omega
                  have k8' : decide ((op : Int) = 8) = false := decide_eq_false (by omega)
                  have k8n : ¬ (op : Int) = 8 := by omega
                  obtain ⟨PK, hPK⟩ : ∃ P, parL F (op + 1) (L.drop (k' + 1)) = P := ⟨_, rfl⟩
                  rw [hPK] at hrr
                  have HRR4 := Lib.hid hrr
                  have HPK := Lib.hid ((comb_nil F (op + 1) (L.drop (k' + 1))).trans hPK)
                  have HXX : Hid (∃ ba, SlT w4 av ba 0 xs.length cv xs ∧ (0 < xs.length → cb + 1 ≤ ba)) := Lib.hid (by
                    obtain ⟨aa, ba, ca, hv, hs⟩ := slt_own HO4.out
                    simp only [Value.slice.injEq, true_and] at hv
                    obtain ⟨rfl, rfl⟩ := hv
                    exact ⟨ba, hs, fun h => (HO4.out.lt ba (by rw [hs.ha h]; rfl)).1⟩)
                  obtain ⟨ba, hsx, hbx⟩ := HXX.out
                  have HB5 := Lib.hid (show Below w.heap.size w (w4.setCell ⟨cb, 2, none⟩ (.bool true)) from Below.setCell HB4.out (by show w.heap.size ≤ cb; omega) _)
                  have HR5 := Lib.hid (HR4.out.other ⟨cb, 2, none⟩ (by show cb ≠ rb; omega) (.bool true))
                  have HF5 := Lib.hid (HF4.out.other ⟨cb, 2, none⟩ (by show cb ≠ fb; omega) (.bool true))
                  have HC5 := Lib.hid (HC4.out.set2 true)
                  have HX5 := Lib.hid (hsx.agree (w' := w4.setCell ⟨cb, 2, none⟩ (.bool true)) (by simp) (fun h j => World.cell?_setCell_other w4 ⟨cb, 2, none⟩ ⟨ba, j, none⟩ (.bool true) (by have := hbx h; first | (simp; done) | (simp; omega))))
                  have HBX := Lib.hid hbx
                  have hs5 : w4.heap.size = (w4.setCell ⟨cb, 2, none⟩ (.bool true)).heap.size := by simp
                  clear hrr HRR3 hPK HXX hsx hbx HO4
                  go_wp2_with fail
                  clear c0 c1 c2 c3 c4 cf cl r0 r1 r2 r3 r4 rf rl f0 f1 ff fl t3 HB4 HR4 HF4 HC4 HS4 hb4b
                  generalize w4.setCell ⟨cb, 2, none⟩ (.bool true) = w5 at *
                  obtain ⟨sb, hsb⟩ : ∃ sb, w5.heap.size = sb := ⟨_, rfl⟩
                  have hcs : cb < sb := by have := HC5.out.lt; omega
                  go_loopw [1] (fun s1 wr => ∃ (kk : Nat) (acc : Cls) (vs : List Value) (va2 : Option Addr) (vc : Nat), k < kk ∧ s1 = .int .i64 (kk : Int) ∧ acc.len ≤ kk ∧ sb ≤ wr.heap.size ∧ Hid (Below w.heap.size w wr) ∧ Hid (w5.grownBy wr (some cb)) ∧ Hid (HasE (L.drop kk)) ∧ Hid (ClAt wr cb xt (.slice av xs.length cv) true (.slice va2 acc.len vc) xa) ∧ Hid (wr.ownsRow sb 25 5 (.slice va2 acc.len vc) acc.len vs) ∧ Hid (RdC wr (fun x => sb ≤ x ∧ (Value.slice va2 acc.len vc).ownBlock ≠ some x) vs acc) ∧ Hid (comb acc (parL F (op + 1) (L.drop kk)) = PK)) (fun s1 _ => L.length - (intOf s1).toNat)
                  case atStart => exact ⟨k' + 1, .nil, [], none, 0, by omega, by go_num, Nat.zero_le _, by omega, HB5, Lib.hid (World.grownBy.refl _ _), HH3, HC5, Lib.hid (World.ownsRow_nil _ _ _ _), Lib.hid rfl, HPK⟩
                  case round =>
                    obtain ⟨kk, acc, vs, va2, vc, hk5, rfl, hacc, hzr, HBr, HGr, HHr, HCr, HOr, HVr, HPr⟩ := hrel
                    clear HB5 HC5 HPK
                    have hkL2 := HHr.out.pos
                    have hSr := HSL.out.keep HBr.out
                    have HNL2 := Lib.hid (show L.drop kk = L[kk]'hkL2 :: L.drop (kk + 1) from List.drop_eq_getElem_cons hkL2)
                    have p0 := hSr.c0 kk hkL2
                    have p1 := hSr.c1 kk hkL2
                    have p2 := hSr.c2 kk hkL2
                    have p3 := hSr.c3 kk hkL2
                    have bbr := hSr.hb (by omega)
                    have hkl3 : (kk : Int) < (len : Int) := by omega
                    have hci := fun W (h1 : Below w.heap.size w W) => IH.out W kk (op + 1) hkL2 (HSL.out.keep h1) HHr.out (by omega) (by omega)
                    rw [show ((op + 1 : Nat) : Int) = (op : Int) + 1 from rfl] at hci
                    have HCI := Lib.hid hci
                    have hld : (L.drop (kk + 1)).length + 1 < F := by rw [List.length_drop]; omega
                    obtain ⟨z, hz⟩ : ∃ z, L[kk]'hkL2 = z := ⟨_, rfl⟩
                    rw [hz] at p0 p1 p2 p3 HNL2 HCI
                    clear hz hSr hci
                    obtain ⟨zk, zt, zn, za⟩ := z
                    simp only at p0 p1 p2 p3
                    have H125 := Lib.hid (sgnS_bs ⟨zk, zt, zn, za⟩ 125)
                    unfold bs at H125
                    go_wp2_with fail
                    refine (HIS.out _ _ _ _ _ _).mono ?_
                    rintro e w6 ⟨rfl, hb6⟩
                    rw [H125.out]
                    have HB6 := Lib.hid (HBr.out.trans (Below.mono hb6 HBr.out.size))
                    have HG6 := Lib.hid (HGr.out.andThen (grb_below (r := none) hb6) (fun j hj => by cases hj))
                    have HC6 := Lib.hid (HCr.out.keep hb6)
                    have HO6 := Lib.hid (own_below HOr.out hb6)
                    have HV6 := Lib.hid (HVr.out.grown (grb_below (r := none) hb6) (Or.inr (fun x hx => by cases hx)))
                    have hs6 := hb6.size
                    clear p0 p1 p2 p3 hb6 HBr HGr HCr HOr HVr bbr
                    have HR6 := Lib.hid (HR5.out.grown HG6.out (by simp only [ne_eq, Option.some.injEq]; omega))
                    have HF6 := Lib.hid (HF5.out.grown HG6.out (by simp only [ne_eq, Option.some.injEq]; omega))
                    cases h125 : sgn ⟨zk, zt, zn, za⟩ 125 with
                    | true =>
                      have hp := HPr.out
                      rw [HNL2.out] at hp
                      have hp2 : PK = (acc, L.drop (kk + 1), 0, 0) := by
                        rw [← hp]
                        match F, hF with
                        | F + 1, _ => rw [parL_ends (by unfold endsB; rw [if_neg (by omega)]; exact h125), comb_end]
                      subst hp2
                      have hrr := HRR4.out
                      rw [if_pos rfl] at hrr
                      have HRR5 := Lib.hid hrr
                      clear hp hrr HRR4 HPr IH HCI HIS
                      obtain ⟨c0, c1, c2, c3, c4, cf, cl⟩ := HC6.out
                      obtain ⟨r0, r1, r2, r3, r4, rf, rl⟩ := HR6.out
                      obtain ⟨f0, f1, ff, fl⟩ := HF6.out
                      go_wp2_with fail
                      obtain ⟨W7, hW7, HRW, HFW, hsW, hcW, hEW⟩ := fin_ex xt (.slice av xs.length cv) (.slice va2 acc.len vc) true xa 0 0 HR6.out HF6.out (by omega)
                      rw [hW7]
                      have HBW := below_fin hW7 HB6.out (by omega) (by omega)
                      clear hW7 hEW c0 c1 c2 c3 c4 cf cl r0 r1 r2 r3 r4 rf rl f0 f1 ff fl
                      obtain ⟨r0, r1, r2, r3, r4, rf, rl⟩ := HRW
                      obtain ⟨f0, f1, ff, fl⟩ := HFW
                      refine bodyPost_ret (v := .tuple #[.agg #[.string xt, .slice av xs.length cv, .bool true, .slice va2 acc.len vc, .int .i64 xa], .int .i64 ((kk : Int) + 1), .agg #[.int .i64 0, .int .i64 0]]) (by simp [results, Tryz.results50, go_sem, r0, r1, r2, r3, r4, rf, rl, f0, f1, ff, fl]) rfl ?_
                      rw [HRR5.out]
                      obtain ⟨a9, b9, c9, hv9, hs9⟩ := slC_own HO6.out (RdC.mono (G := fun x => sb ≤ x) (fun x hx => hx.1) HV6.out) (fun x hx => (HO6.out.lt x hx).1)
                      simp only [Value.slice.injEq, true_and] at hv9
                      obtain ⟨rfl, rfl⟩ := hv9
                      have hx6 := HX5.out.agree HG6.out.size (fun h j => World.cell?_of_block (a := ⟨ba, j, none⟩) (HG6.out.block ba (HX5.out.hb h) (by have := HBX.out h; simp only [ne_eq, Option.some.injEq]; omega)))
                      exact ⟨HBW, xt, _, xs.length, _, true, va2, acc.len, vc, xa, _, rfl, fun _ => ⟨rfl, rfl, rfl, rfl, rfl, ⟨ba, 0, hx6.agree (by omega) (fun h j => hcW ba (by have := HBX.out h; omega) (by have := HBX.out h; omega) j), fun h => by have := HBX.out h; omega⟩, ⟨b9, 0, SlC.mono (fun x hx => by omega) (hs9.agr (by omega) (fun x hx j => hcW x (by omega) (by omega) j))⟩, kk + 1, by omega, rfl, by omega⟩⟩
                    | false =>
                      obtain ⟨rr, hrr⟩ : ∃ rr, rntR F (op + 1) ⟨zk, zt, zn, za⟩ (L.drop (kk + 1)) = rr := ⟨_, rfl⟩
                      have hp := HPr.out
                      rw [HNL2.out, parL_rnt (by simpa using hld) h125 hrr] at hp
                      have hhe := HHr.out
                      rw [HNL2.out] at hhe
                      have HHM := Lib.hid (fun (h0 : rr.2.2.2.2.1 = 0) => rnt_hasE hhe (by omega) hrr h0)
                      rw [hrr] at HCI
                      have HP1 := Lib.hid hp
                      have HRR5 := HRR4
                      obtain ⟨xs2, bl2, kd, mm, rc, ra⟩ := rr
                      simp only at HCI HP1 HHM
                      clear hp hrr hhe HPr HHr HRR4
                      have q6 := HSL.out.keep HB6.out
                      go_wp2_with fail
                      refine (HCI.out w6 HB6.out).mono ?_
                      rintro e w8 ⟨hb8, wd2, aa2, la2, ca2, bl3, ak2, lk2, ck2, av2, nx2, rfl, hok⟩
                      have HOK := Lib.hid hok
                      have HB8 := Lib.hid (HB6.out.trans (Below.mono hb8 HB6.out.size))
                      have HG8 := Lib.hid (HG6.out.andThen (grb_below (r := none) hb8) (fun j hj => by cases hj))
                      have HC8 := Lib.hid (HC6.out.keep hb8)
                      have HR8 := Lib.hid (HR6.out.keep hb8)
                      have HF8 := Lib.hid (HF6.out.keep hb8)
                      have HO8 := Lib.hid (own_below HO6.out hb8)
                      have HV8 := Lib.hid (HV6.out.grown (grb_below (r := none) hb8) (Or.inr (fun x hx => by cases hx)))
                      have hs8 := hb8.size
                      have HVL := Lib.hid (fun g (h : (Value.slice va2 acc.len vc).ownBlock = some g) => HO6.out.lt g h)
                      clear hb8 hok q6 HB6 HG6 HC6 HR6 HF6 HO6 HV6 HCI
                      by_cases hc : rc = 0
                      · subst hc
                        have hrr := HP1.out
                        rw [if_pos rfl, comb_snoc] at hrr
                        simp only at hrr
                        have HP2 := Lib.hid hrr
                        obtain ⟨e1, e2, e3, rfl, rfl, ⟨ba2, oa2, hsl, hsb2⟩, ⟨bk2, ok2, hkc⟩, k9, rfl, hk9, hk10⟩ := HOK.out rfl
                        replace e1 := e1.symm
                        replace e2 := e2.symm
                        replace e3 := e3.symm
                        subst e1 e2 e3
                        have hHE9 := HHM.out rfl
                        rw [← hk9] at hHE9
                        have HHE9 := Lib.hid hHE9
                        rw [← hk9] at HP2
                        clear hrr HP1 HOK HHM hk9 hHE9
                        have HB9 := Lib.hid (((Below.refl w8.heap.size w8).alloc (Nat.le_refl _) (.cells #[.string zt, .slice aa2 xs2.length ca2, .bool bl2, .slice ak2 kd.len ck2, .int .i64 za] 25)).alloc (by simp) (.cells #[.int .i64 0, .int .i64 ra] 40))
                        have HC9 := Lib.hid (HC8.out.keep HB9.out)
                        have HG9 := Lib.hid (HG8.out.andThen (grb_below (r := none) HB9.out) (fun j hj => by cases hj))
                        have HBX := Lib.hid (HB8.out.trans (Below.mono HB9.out HB8.out.size))
                        have HO9 := Lib.hid (own_below HO8.out HB9.out)
                        have HV9 := Lib.hid (HV8.out.grown (grb_below (r := none) HB9.out) (Or.inr (fun x hx => by cases hx)))
                        have HN9 := Lib.hid (ft_new (w8.alloc (.cells #[.string zt, .slice aa2 xs2.length ca2, .bool bl2, .slice ak2 kd.len ck2, .int .i64 za] 25)) 0 ra 40)
                        have HS9 := Lib.hid (show (w8.heap.size + 1 + 1 : Nat) = ((w8.alloc (.cells #[.string zt, .slice aa2 xs2.length ca2, .bool bl2, .slice ak2 kd.len ck2, .int .i64 za] 25)).alloc (.cells #[.int .i64 0, .int .i64 ra] 40)).heap.size by simp)
                        simp only [World.size_alloc] at HN9
                        have HK9 := Lib.hid ((cl_new w8 zt (.slice aa2 xs2.length ca2) (.slice ak2 kd.len ck2) bl2 za 25).keep ((Below.refl _ _).alloc (Nat.le_refl _) (.cells #[.int .i64 0, .int .i64 ra] 40)))
                        have HX9 := Lib.hid (hsl.keep HB9.out)
                        have HQ9 := Lib.hid (hkc.grown (grb_below (r := none) HB9.out) (fun x hx => by cases hx))
                        have HXB := Lib.hid (fun h => And.intro (hsb2 h) (hsl.hb (b := ba2) h))
                        obtain ⟨c0, c1, c2, c3, c4, cf, cl⟩ := HC9.out
                        obtain ⟨k0, k1, k2, k3, k4, kf, kl⟩ := HK9.out
                        obtain ⟨g0, g1, gf, gl⟩ := HN9.out
                        clear HB8 HG8 HC8 HR8 HF8 HO8 HV8 hsl hkc hsb2
                        unfold fV
                        have hce := cl_cells ((w8.alloc (.cells #[.string zt, .slice aa2 xs2.length ca2, .bool bl2, .slice ak2 kd.len ck2, .int .i64 za] 25)).alloc (.cells #[.int .i64 0, .int .i64 ra] 40)) zt (.slice aa2 xs2.length ca2) (.slice ak2 kd.len ck2) bl2 za
                        simp only [World.size_alloc] at hce
                        have HCE := Lib.hid hce
                        have HW6 := Lib.hid (HO9.out.alloc (.cells #[.string zt, .slice aa2 xs2.length ca2, .bool bl2, .slice ak2 kd.len ck2, .int .i64 za] 25))
                        have HB10 := Lib.hid ((Below.refl ((w8.alloc (.cells #[.string zt, .slice aa2 xs2.length ca2, .bool bl2, .slice ak2 kd.len ck2, .int .i64 za] 25)).alloc (.cells #[.int .i64 0, .int .i64 ra] 40)).heap.size ((w8.alloc (.cells #[.string zt, .slice aa2 xs2.length ca2, .bool bl2, .slice ak2 kd.len ck2, .int .i64 za] 25)).alloc (.cells #[.int .i64 0, .int .i64 ra] 40))).alloc (Nat.le_refl _) (.cells #[.string zt, .slice aa2 xs2.length ca2, .bool bl2, .slice ak2 kd.len ck2, .int .i64 za] 25))
                        clear hce
                        go_wp2_with (at_builtin; go_loud (refine wpList_append_blk _ rfl _ _ 23 rfl sb 25 jz (.agg #[.string ⟨#[]⟩, .slice none 0 0, .bool false, .slice none 0 0, .int .i64 0]) 5 80 Tryz.underlying23 hj hy0 hy1 hy2 rfl (by decide) _ _ _ rfl HW6.out ⟨w8.heap.size + 1 + 1, 0, none⟩ 1 1 (encC zt (.slice aa2 xs2.length ca2) bl2 (.slice ak2 kd.len ck2) za) rfl rfl HCE.out ?n1 ?n2 ?n3 ?n4 (by decide) ?_))
                        case n1 => intro u hu; simp only [encC, List.mem_cons, List.not_mem_nil, or_false] at hu; rcases hu with rfl | rfl | rfl | rfl | rfl <;> rfl
                        case n2 => unfold maxLen; omega
                        case n3 => omega
                        case n4 => simp; omega
                        intro v' w11 ho hg hbk
                        obtain ⟨va3, vc3, rfl⟩ := own_form ho
                        clear c0 c1 c2 c3 c4 cf cl k0 k1 k2 k3 k4 kf kl g0 g1 gf gl HCE HK9 HN9 HW6
                        generalize (w8.alloc (.cells #[.string zt, .slice aa2 xs2.length ca2, .bool bl2, .slice ak2 kd.len ck2, .int .i64 za] 25)).alloc (.cells #[.int .i64 0, .int .i64 ra] 40) = w9 at *
                        rw [HS9.out] at hbk
                        have hs10 : w9.heap.size + 1 = (w9.alloc (.cells #[.string zt, .slice aa2 xs2.length ca2, .bool bl2, .slice ak2 kd.len ck2, .int .i64 za] 25)).heap.size := by simp
                        rw [hs10] at hbk
                        have hS9 := HS9.out
                        have HC11 := Lib.hid ((HC9.out.keep HB10.out).grown hg (fun e => by have := (HVL.out _ e.symm).1; omega))
                        have HBY := Lib.hid (Below.grown (HBX.out.trans (Below.mono HB10.out HBX.out.size)) hg (Nat.le_trans HBX.out.size HB10.out.size) (fun j hj => by have := (HVL.out j hj).1; omega))
                        have HG11 := Lib.hid ((HG9.out.andThen (grb_below (r := none) HB10.out) (fun j hj => by cases hj)).andThen hg (fun j hj => Or.inl (by have := (HVL.out j hj).1; omega)))
                        have HV11 := Lib.hid ((HV9.out.grown (grb_below (r := none) HB10.out) (Or.inr (fun x hx => by cases hx))).own hg hbk)
                        have HX11 := Lib.hid ((HX9.out.keep HB10.out).agree hg.size (fun h j => World.cell?_of_block (a := ⟨ba2, j, none⟩) (hg.block ba2 (by have := (HXB.out h).2; omega) (fun e => absurd (HVL.out _ e.symm).2 (Nat.not_lt.2 (HXB.out h).1)))))
                        have HQ11 := Lib.hid ((HQ9.out.grown (grb_below (r := none) HB10.out) (fun x hx => by cases hx)).grow2 (F := fun x => sb ≤ x ∧ (Value.slice va3 (acc.len + 1) vc3).ownBlock ≠ some x) hg (fun x hx => (HVL.out x hx).2) (fun x h1 h2 => ⟨by omega, fun e => by
                          rcases hbk with hbk | hbk
                          · rw [hbk] at e
                            exact absurd (HVL.out _ e).2 (Nat.not_lt.2 h1)
                          · have := hbk x e
                            exact absurd h2 (Nat.not_lt.2 this)⟩))
                        have HXB11 := Lib.hid (fun (h : 0 < xs2.length) => show sb ≤ ba2 ∧ (Value.slice va3 (acc.len + 1) vc3).ownBlock ≠ some ba2 from ⟨by have := (HXB.out h).1; omega, fun e => by
                          have h1 := HXB.out h
                          rcases hbk with hbk | hbk
                          · rw [hbk] at e
                            exact absurd (HVL.out _ e).2 (Nat.not_lt.2 h1.1)
                          · have := hbk ba2 e
                            rw [← hs10] at this
                            have := h1.2
                            omega⟩)
                        have hs11 := hg.size
                        have HO11 := Lib.hid ho
                        clear ho hg hbk HC9 HG9 HBX HO9 HV9 HX9 HQ9 HXB HB9 HB10 HVL
                        obtain ⟨c0, c1, c2, c3, c4, cf, cl⟩ := HC11.out
                        have hla : (acc.app (.cons zt xs2 bl2 kd za .nil)).len = acc.len + 1 := by rw [Cls.len_app]; rfl
                        go_wp2_with fail
                        go_roundw
                        case rel =>
                          refine ⟨k9, acc.app (.cons zt xs2 bl2 kd za .nil), _, va3, vc3, by omega, rfl, by omega, by simp; omega, Lib.hid (Below.setCell HBY.out (by show w.heap.size ≤ cb; omega) _), Lib.hid (HG11.out.andThen (grownBy_set w11 ⟨cb, 3, none⟩ _) (fun j hj => Or.inr (by cases hj; rfl))), HHE9, Lib.hid (by rw [hla]; exact HC11.out.set3 _), Lib.hid (by rw [hla]; exact ownsRow_setCell_below HO11.out (by show cb < sb; omega) _), Lib.hid (by rw [hla]; exact (RdC.snoc HX11.out HXB11.out HQ11.out HV11.out).grown (grownBy_set w11 ⟨cb, 3, none⟩ _) (Or.inr (fun x hx => by cases hx; show cb < sb; omega))), HP2⟩
                        case measure => simp [intOf]; omega
                      · have hcb : (rc == 0) = false := by simpa using hc
                        have hcn : (rc != 0) = true := by simpa using hc
                        have hp := HP1.out
                        rw [if_neg hc, comb_bad hc] at hp
                        subst hp
                        have hrr := HRR5.out
                        rw [if_neg hc] at hrr
                        have HRR6 := Lib.hid hrr
                        clear hrr HP1 HRR5 HOK HHM
                        have HB9 := Lib.hid (((Below.refl w8.heap.size w8).alloc (Nat.le_refl _) (.cells #[.string wd2, .slice aa2 la2 ca2, .bool bl3, .slice ak2 lk2 ck2, .int .i64 av2] 25)).alloc (by simp) (.cells #[.int .i64 rc, .int .i64 ra] 40))
                        have HC9 := Lib.hid (HC8.out.keep HB9.out)
                        have HR9 := Lib.hid (HR8.out.keep HB9.out)
                        have HF9 := Lib.hid (HF8.out.keep HB9.out)
                        have HBX := Lib.hid (HB8.out.trans (Below.mono HB9.out HB8.out.size))
                        have HG9 := Lib.hid (ft_new (w8.alloc (.cells #[.string wd2, .slice aa2 la2 ca2, .bool bl3, .slice ak2 lk2 ck2, .int .i64 av2] 25)) rc ra 40)
                        simp only [World.size_alloc] at HG9
                        obtain ⟨g0, g1, gf, gl⟩ := HG9.out
                        obtain ⟨c0, c1, c2, c3, c4, cf, cl⟩ := HC9.out
                        obtain ⟨r0, r1, r2, r3, r4, rf, rl⟩ := HR9.out
                        obtain ⟨f0, f1, ff, fl⟩ := HF9.out
                        clear HB8 HG8 HC8 HR8 HF8 HO8 HV8
                        unfold fV
                        go_wp2_with fail
                        go_region
                        all_goals
                          go_wp2_with fail
                          obtain ⟨W7, hW7, HRW, HFW, hsW, hcW, hEW⟩ := fin_ex xt (.slice av xs.length cv) (.slice va2 acc.len vc) true xa (rc) (ra) HR9.out HF9.out (by omega)
                          rw [hW7]
                          have HBW := below_fin hW7 HBX.out (by omega) (by omega)
                          clear hW7 hEW hcW hsW r0 r1 r2 r3 r4 rf rl f0 f1 ff fl
                          obtain ⟨r0, r1, r2, r3, r4, rf, rl⟩ := HRW
                          obtain ⟨f0, f1, ff, fl⟩ := HFW
                          refine bodyPost_ret (v := .tuple #[.agg #[.string xt, .slice av xs.length cv, .bool true, .slice va2 acc.len vc, .int .i64 xa], .int .i64 ((kk : Int)), .agg #[.int .i64 (rc), .int .i64 (ra)]]) (by simp [results, Tryz.results50, go_sem, r0, r1, r2, r3, r4, rf, rl, f0, f1, ff, fl]) rfl ?_
                          rw [HRR6.out]
                          exact ⟨HBW.drew, xt, _, _, _, true, _, _, _, xa, _, rfl, fun h => absurd h hc⟩
      · have HRQ := Lib.hid (show r = ([], false, .nil, [], 2, xa) by rw [HRN.out, if_pos (by simpa using hx1)])
        have HBB := HB
        have q1 : (xk == 1) = false := by simpa using hx1
        have q2 : (xk != 1) = true := by simpa using hx1
        obtain ⟨c0, c1, c2, c3, c4, cf, cl⟩ := HCB.out
        obtain ⟨r0, r1, r2, r3, r4, rf, rl⟩ := HRB.out
        obtain ⟨f0, f1, ff, fl⟩ := HFB.out
        go_wp2_with fail
        go_region
        all_goals
          go_wp2_with fail
          obtain ⟨W7, hW7, HRW, HFW, hsW, hcW, hEW⟩ := fin_ex xt (.slice none 0 0) (.slice none 0 0) false xa (2) (xa) HRB.out HFB.out (by omega)
          rw [hW7]
          have HBW := below_fin hW7 HBB.out (by omega) (by omega)
          clear hW7 hEW hcW hsW r0 r1 r2 r3 r4 rf rl f0 f1 ff fl
          obtain ⟨r0, r1, r2, r3, r4, rf, rl⟩ := HRW
          obtain ⟨f0, f1, ff, fl⟩ := HFW
          refine bodyPost_ret (v := .tuple #[.agg #[.string xt, .slice none 0 0, .bool false, .slice none 0 0, .int .i64 xa], .int .i64 ((k : Int)), .agg #[.int .i64 (2), .int .i64 (xa)]]) (by simp [results, Tryz.results50, go_sem, r0, r1, r2, r3, r4, rf, rl, f0, f1, ff, fl]) rfl ?_
          rw [HRQ.out]
          exact ⟨HBW.drew, xt, none, 0, 0, false, none, 0, 0, xa, _, rfl, fun h => absurd h (by simp)⟩
end Go.Proofs.YtohalocbghhenaaGreatDoor
