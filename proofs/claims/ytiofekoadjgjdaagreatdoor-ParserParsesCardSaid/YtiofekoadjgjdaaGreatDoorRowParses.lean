/- The reference's Parse. -/
import Derived.Test.YtiofekoadjgjdaaGreatDoorREn
import Derived.Test.YtiofekoadjgjdaaGreatDoorRefG
import Derived.Test.YtiofekoadjgjdaaGreatDoorPrs
import Derived.Test.YtiofekoadjgjdaaGreatDoorPrl
import Derived.Test.YtiofekoadjgjdaaGreatDoorEqs
import Derived.Test.YtiofekoadjgjdaaGreatDoorAwk
import Derived.Test.YtiofekoadjgjdaaGreatDoorLexA
import Derived.Test.YtiofekoadjgjdaaGreatDoorTabs
import Derived.ProofKit
import Derived.LaidMore
import Derived.LaidLaws
import Derived.Lay
import Derived.Stop.Joined
import Derived.HandedShaped
import Derived.Shelf.Vars
import Derived.Test.YtiofekoadjgjdaaGreatDoorPost
import Derived.Test.YtiofekoadjgjdaaGreatDoorCards
import Derived.Test.YtiofekoadjgjdaaGreatDoorTie
import Derived.ChangeMaps5
import Derived.OpenShut
import Derived.SevenTiedAt
import Derived.Lib.SmallJoins
import Derived.Deep.SlicePairs
import Derived.Carry
set_option linter.unusedSimpArgs false
set_option linter.unusedVariables false
namespace Go.Proofs.YtiofekoadjgjdaaGreatDoor
open Go.RowKit

theorem parL_rnt0 {F : Nat} {t : Tk} {l : List Tk} {rr : List Tk × Bool × Cls × List Tk × Int × Int} (h : (t :: l).length < F) (he : t.k ≠ 5) (hr : rntR F 0 t l = rr) :
    parL F 0 (t :: l) = if rr.2.2.2.2.1 = 0 then consR t rr.1 rr.2.1 rr.2.2.1 (parL F 0 rr.2.2.2.1) else (.nil, [], rr.2.2.2.2) := by
  subst hr
  have he2 : endsB 0 t = false := by unfold endsB; rw [if_pos rfl]; simpa using he
  unfold rntR
  by_cases hk : t.k = 1
  · rw [if_neg (show ¬ (t.k ≠ 1) by simp [hk])]
    exact parL_word h he2 hk
  · rw [if_pos (show t.k ≠ 1 from hk), parL_odd (by omega) he2 hk]
    simp
set_option maxHeartbeats 8000000 in
set_option maxRecDepth 100000 in
theorem rparse_any (s : ByteArray) (hs : s.size ≤ 65536) (w : World) : Calls Tryz.prog 7 #[.string s] w (PrsPost w (parS s)) := by
  have HX := Lib.hid (fun W => rlex_any s hs W)
  have HOK := Lib.hid (fun h => @lexS_ok s h)
  have HPS := Lib.hid (show parS s = if (lexS s).2.1 = 0 then ((parL ((lexS s).1.length + 1) 0 (lexS s).1).1, (parL ((lexS s).1.length + 1) 0 (lexS s).1).2.2) else (.nil, (lexS s).2) from rfl)
  obtain ⟨X, hX⟩ : ∃ X, lexS s = X := ⟨_, rfl⟩
  rw [hX] at HX HOK HPS
  obtain ⟨L, c, fa⟩ := X
  unfold LexPost fV at HX
  simp only at HX HOK HPS
  clear hX
  obtain ⟨jz, hj, hy0, hy1, hy2⟩ := info_parts infoC
  go_enter Tryz.func7, Tryz.ntmps7
  go_wp2_with fail
  have HB1 := Lib.hid (show Below w.heap.size w (w.alloc (.cells #[.int .i64 0, .int .i64 0] 26)) from (by repeat (first | with_reducible exact Below.refl _ _ | (with_reducible refine Below.setCell ?_ (by first | exact Nat.le_refl _ | omega | (simp; done) | (simp; omega)) _) | (with_reducible refine Below.alloc ?_ (by first | exact Nat.le_refl _ | omega | (simp; done) | (simp; omega)) _) | with_reducible refine Below.drew ?_ | with_reducible refine bel_drewN ?_ _ | (with_reducible refine bel_by (by with_reducible assumption) (by first | exact Nat.le_refl _ | omega | (simp; done) | (simp; omega)) ?_))))
  refine (HX.out _).mono ?_
  rintro e w1 ⟨v1, rfl, ho1, hb1⟩
  have HF1 := Lib.hid ((ft_new w 0 0 26).keep hb1)
  have HB2 := Lib.hid (bel_by hb1 (by simp) HB1.out)
  have hs1 := hb1.size
  simp only [World.size_alloc] at hs1
  obtain ⟨a1, b1, cap1, rfl, sl1⟩ := slt_own ho1
  have HSL := Lib.hid sl1
  have HOL := Lib.hid (fun (h : 0 < L.length) => sl1.hb h)
  clear ho1 hb1 HX HB1
  have HB3 := Lib.hid (HB2.out.alloc (by omega) (.cells #[.int .i64 c, .int .i64 fa] 26))
  have HF3 := Lib.hid (HF1.out.keep ((Below.refl _ _).alloc (Nat.le_refl _) (.cells #[.int .i64 c, .int .i64 fa] 26)))
  have HG3 := Lib.hid (ft_new w1 c fa 26)
  have HS3 := Lib.hid (HSL.out.keep ((Below.refl _ _).alloc (Nat.le_refl _) (.cells #[.int .i64 c, .int .i64 fa] 26)))
  obtain ⟨g0, g1, gf, gl⟩ := HG3.out
  by_cases hc : c = 0
  · subst hc
    obtain ⟨hHE, hLl, hca⟩ := HOK.out rfl
    simp only [Prod.mk.injEq, true_and] at hca
    subst hca
    have hps := HPS.out
    rw [if_pos rfl] at hps
    have hpos : 0 < L.length := by
      obtain ⟨y, hy, _⟩ := hHE
      exact List.length_pos_of_mem hy
    have HHE := Lib.hid hHE
    have HEC := Lib.hid (rnt_any (L.length + 1) L a1 b1 0 L.length cap1 (by omega) (Nat.lt_succ_self _) (L.length + 1))
    obtain ⟨P, hP⟩ : ∃ P, parL (L.length + 1) 0 L = P := ⟨_, rfl⟩
    rw [hP] at hps
    have HPS2 := Lib.hid hps
    have HPK := Lib.hid ((comb_nil (L.length + 1) 0 L).trans hP)
    obtain rfl := HS3.out.ha hpos
    clear hps HPS HOK hP hHE HSL HF1 HB2
    go_wp2_with fail
    clear g0 g1 gf gl
    have hsz : (w1.alloc (.cells #[.int .i64 0, .int .i64 0] 26)).heap.size = w1.heap.size + 1 := by simp
    generalize w1.alloc (.cells #[.int .i64 0, .int .i64 0] 26) = W3 at *
    obtain ⟨sb, hsb⟩ : ∃ sb, W3.heap.size = sb := ⟨_, rfl⟩
    obtain ⟨fb, hfb⟩ : ∃ fb, w.heap.size = fb := ⟨_, rfl⟩
    have hfs : fb < sb := by omega
    rw [hfb] at HF3 ⊢
    obtain ⟨F, hFF⟩ : ∃ F, L.length + 1 = F := ⟨_, rfl⟩
    rw [hFF] at HEC HPK
    go_loopw [6, 7] (fun s6 s7 wr => ∃ (kk : Nat) (acc : Cls) (vs : List Value) (va2 : Option Addr) (vc : Nat), s6 = .slice va2 acc.len vc ∧ s7 = .int .i64 (kk : Int) ∧ acc.len ≤ kk ∧ sb ≤ wr.heap.size ∧ Hid (Below sb W3 wr) ∧ Hid (HasE (L.drop kk)) ∧ Hid (wr.ownsRow sb 41 5 (.slice va2 acc.len vc) acc.len vs) ∧ Hid (RdC wr (fun x => sb ≤ x ∧ (Value.slice va2 acc.len vc).ownBlock ≠ some x) vs acc) ∧ Hid (comb acc (parL F 0 (L.drop kk)) = P)) (fun _ s7 _ => L.length - (intOf s7).toNat)
    case atStart => exact ⟨0, .nil, [], none, 0, rfl, rfl, Nat.le_refl _, by omega, Lib.hid (Below.refl _ _), Lib.hid (by rw [List.drop_zero]; exact HHE.out), Lib.hid (World.ownsRow_nil _ _ _ _), Lib.hid rfl, Lib.hid (by rw [List.drop_zero]; exact HPK.out)⟩
    case round =>
      obtain ⟨kk, acc, vs, va2, vc, rfl, rfl, hacc, hzr, HBr, HHr, HOr, HVr, HPr⟩ := hrel
      clear HHE HPK
      have hkL2 := HHr.out.pos
      have hSr := HS3.out.keep (show Below W3.heap.size W3 wr by rw [hsb]; exact HBr.out)
      have HSr := Lib.hid hSr
      have HNL2 := Lib.hid (show L.drop kk = L[kk]'hkL2 :: L.drop (kk + 1) from List.drop_eq_getElem_cons hkL2)
      have p0 := hSr.c0 kk hkL2
      rw [Nat.zero_add] at p0
      have bbr := hSr.hb (by omega)
      have hkl3 : (kk : Int) < (L.length : Int) := by omega
      have HCI := Lib.hid (HEC.out wr kk 0 hkL2 hSr HHr.out (by omega) (by omega))
      rw [show ((0 : Nat) : Int) = 0 from rfl] at HCI
      have hld : (L.drop (kk + 1)).length + 1 < F := by rw [List.length_drop]; omega
      obtain ⟨z, hz⟩ : ∃ z, L[kk]'hkL2 = z := ⟨_, rfl⟩
      rw [hz] at p0 HNL2 HCI
      clear hz hSr
      obtain ⟨zk, zt, zn, za⟩ := z
      simp only at p0
      by_cases h5 : zk = 5
      · subst h5
        have hp := HPr.out
        rw [HNL2.out] at hp
        have hp2 : P = (acc, L.drop (kk + 1), 0, 0) := by
          rw [← hp]
          match F, hFF with
          | F + 1, _ => rw [parL_ends (by unfold endsB; rw [if_pos rfl]; rfl), comb_end]
        subst hp2
        have HFr := Lib.hid (HF3.out.low HBr.out hfs)
        obtain ⟨f0, f1, ff, fl⟩ := HFr.out
        clear hp HPr HCI HEC
        go_wp2_with fail
        obtain ⟨W7, hW7, HFW, hgW⟩ := fin2_ex 0 0 HFr.out
        rw [hW7]
        clear hW7 f0 f1 ff fl
        obtain ⟨f0, f1, ff, fl⟩ := HFW
        refine bodyPost_ret (v := .tuple #[.slice va2 acc.len vc, .agg #[.int .i64 0, .int .i64 0]]) (by simp [results, Tryz.results7, go_sem, f0, f1, ff, fl]) rfl ?_
        rw [HPS2.out]
        have hBw := HB3.out.trans (Below.mono HBr.out (by omega))
        refine ⟨_, vs, rfl, own_low (HOr.out.kept hgW ?_) (by omega), RdC.mono (fun x hx => ⟨by omega, hx.2⟩) (HVr.out.grown hgW (Or.inr (fun x hx => by have := Option.some.inj hx; omega))), gr_below hBw hgW (by omega) (by omega)⟩
        by_cases h : (Value.slice va2 acc.len vc).ownBlock = none
        · exact Or.inl h
        · refine Or.inr (fun e => ?_)
          have := (HOr.out.lt _ e).1
          omega
      · obtain ⟨rr, hrr⟩ : ∃ rr, rntR F 0 ⟨zk, zt, zn, za⟩ (L.drop (kk + 1)) = rr := ⟨_, rfl⟩
        have hp := HPr.out
        rw [HNL2.out, parL_rnt0 (by simpa using hld) h5 hrr] at hp
        have hhe := HHr.out
        rw [HNL2.out] at hhe
        have HHM := Lib.hid (fun (h0 : rr.2.2.2.2.1 = 0) => rnt_hasE hhe (by omega) hrr h0)
        rw [hrr] at HCI
        have HP1 := Lib.hid hp
        obtain ⟨xs2, bl2, kd, mm, rc, ra⟩ := rr
        simp only at HCI HP1 HHM
        have q5 : (zk == 5) = false := by simpa using h5
        have q6 : (zk != 5) = true := by simpa using h5
        clear hp hrr hhe HPr HHr
        go_wp2_with fail
        refine HCI.out.mono ?_
        rintro e w8 ⟨hb8, wd2, aa2, la2, ca2, bl3, ak2, lk2, ck2, av2, nx2, rfl, hok⟩
        have HOK := Lib.hid hok
        have HB8 := Lib.hid (HBr.out.trans (Below.mono hb8 hzr))
        have HO8 := Lib.hid (own_below HOr.out hb8)
        have HV8 := Lib.hid (HVr.out.grown (grb_below (r := none) hb8) (Or.inr (fun x hx => by cases hx)))
        have hs8 := hb8.size
        have HVL := Lib.hid (fun g (h : (Value.slice va2 acc.len vc).ownBlock = some g) => HOr.out.lt g h)
        clear hb8 hok HBr HOr HVr HCI HSr p0
        by_cases hc : rc = 0
        · subst hc
          have hrr := HP1.out
          rw [if_pos rfl, comb_snoc] at hrr
          simp only at hrr
          have HP2 := Lib.hid hrr
          obtain ⟨e1, e2, e3, rfl, rfl, ⟨ba2, oa2, hsl, hsb2⟩, ⟨bk2, ok2, hkc⟩, k9, rfl, hk9, hk10⟩ := HOK.out rfl
          replace e1 := e1.symm
          replace e2 := e2.symm
          replace e3 := e3.symm
          subst e1 e2 e3
          have hHE9 := HHM.out rfl
          rw [← hk9] at hHE9
          have HHE9 := Lib.hid hHE9
          rw [← hk9] at HP2
          clear hrr HP1 HOK HHM hk9 hHE9
          have HB9 := Lib.hid (((Below.refl w8.heap.size w8).alloc (Nat.le_refl _) (.cells #[.string zt, .slice aa2 xs2.length ca2, .bool bl2, .slice ak2 kd.len ck2, .int .i64 za] 41)).alloc (by simp) (.cells #[.int .i64 0, .int .i64 ra] 26))
          have HBX := Lib.hid (HB8.out.trans (Below.mono HB9.out (by omega)))
          have HO9 := Lib.hid (own_below HO8.out HB9.out)
          have HV9 := Lib.hid (HV8.out.grown (grb_below (r := none) HB9.out) (Or.inr (fun x hx => by cases hx)))
          have HN9 := Lib.hid (ft_new (w8.alloc (.cells #[.string zt, .slice aa2 xs2.length ca2, .bool bl2, .slice ak2 kd.len ck2, .int .i64 za] 41)) 0 ra 26)
          have HS9 := Lib.hid (show (w8.heap.size + 1 + 1 : Nat) = ((w8.alloc (.cells #[.string zt, .slice aa2 xs2.length ca2, .bool bl2, .slice ak2 kd.len ck2, .int .i64 za] 41)).alloc (.cells #[.int .i64 0, .int .i64 ra] 26)).heap.size by simp)
          simp only [World.size_alloc] at HN9
          have HK9 := Lib.hid ((cl_new w8 zt (.slice aa2 xs2.length ca2) (.slice ak2 kd.len ck2) bl2 za 41).keep ((Below.refl _ _).alloc (Nat.le_refl _) (.cells #[.int .i64 0, .int .i64 ra] 26)))
          have HX9 := Lib.hid (hsl.keep HB9.out)
          have HQ9 := Lib.hid (hkc.grown (grb_below (r := none) HB9.out) (fun x hx => by cases hx))
          have HXB := Lib.hid (fun h => And.intro (hsb2 h) (hsl.hb (b := ba2) h))
          obtain ⟨k0, k1, k2, k3, k4, kf, kl⟩ := HK9.out
          obtain ⟨g0, g1, gf, gl⟩ := HN9.out
          clear HB8 HO8 HV8 hsl hkc hsb2
          unfold fV
          have hce := cl_cells ((w8.alloc (.cells #[.string zt, .slice aa2 xs2.length ca2, .bool bl2, .slice ak2 kd.len ck2, .int .i64 za] 41)).alloc (.cells #[.int .i64 0, .int .i64 ra] 26)) zt (.slice aa2 xs2.length ca2) (.slice ak2 kd.len ck2) bl2 za
          simp only [World.size_alloc] at hce
          have HCE := Lib.hid hce
          have HW6 := Lib.hid (HO9.out.alloc (.cells #[.string zt, .slice aa2 xs2.length ca2, .bool bl2, .slice ak2 kd.len ck2, .int .i64 za] 41))
          have HB10 := Lib.hid ((Below.refl ((w8.alloc (.cells #[.string zt, .slice aa2 xs2.length ca2, .bool bl2, .slice ak2 kd.len ck2, .int .i64 za] 41)).alloc (.cells #[.int .i64 0, .int .i64 ra] 26)).heap.size ((w8.alloc (.cells #[.string zt, .slice aa2 xs2.length ca2, .bool bl2, .slice ak2 kd.len ck2, .int .i64 za] 41)).alloc (.cells #[.int .i64 0, .int .i64 ra] 26))).alloc (Nat.le_refl _) (.cells #[.string zt, .slice aa2 xs2.length ca2, .bool bl2, .slice ak2 kd.len ck2, .int .i64 za] 41))
          clear hce
          go_wp2_with (at_builtin; go_loud (refine wpList_append_blk _ rfl _ _ 23 rfl sb 41 jz (.agg #[.string ⟨#[]⟩, .slice none 0 0, .bool false, .slice none 0 0, .int .i64 0]) 5 80 Tryz.underlying23 hj hy0 hy1 hy2 rfl (by decide) _ _ _ rfl HW6.out ⟨w8.heap.size + 1 + 1, 0, none⟩ 1 1 (encC zt (.slice aa2 xs2.length ca2) bl2 (.slice ak2 kd.len ck2) za) rfl rfl HCE.out ?n1 ?n2 ?n3 ?n4 (by decide) ?_))
          case n1 => intro u hu; simp only [encC, List.mem_cons, List.not_mem_nil, or_false] at hu; rcases hu with rfl | rfl | rfl | rfl | rfl <;> rfl
          case n2 => unfold maxLen; omega
          case n3 => omega
          case n4 => simp; omega
          intro v' w11 ho hg hbk
          obtain ⟨va3, vc3, rfl⟩ := own_form ho
          clear k0 k1 k2 k3 k4 kf kl g0 g1 gf gl HCE HK9 HN9 HW6
          generalize (w8.alloc (.cells #[.string zt, .slice aa2 xs2.length ca2, .bool bl2, .slice ak2 kd.len ck2, .int .i64 za] 41)).alloc (.cells #[.int .i64 0, .int .i64 ra] 26) = w9 at *
          rw [HS9.out] at hbk
          have hs10 : w9.heap.size + 1 = (w9.alloc (.cells #[.string zt, .slice aa2 xs2.length ca2, .bool bl2, .slice ak2 kd.len ck2, .int .i64 za] 41)).heap.size := by simp
          rw [hs10] at hbk
          have hS9 := HS9.out
          have HBY := Lib.hid (Below.grown (HBX.out.trans (Below.mono HB10.out (by omega))) hg (by rw [← hs10]; omega) (fun j hj => (HVL.out j hj).1))
          have HV11 := Lib.hid ((HV9.out.grown (grb_below (r := none) HB10.out) (Or.inr (fun x hx => by cases hx))).own hg hbk)
          have HX11 := Lib.hid ((HX9.out.keep HB10.out).agree hg.size (fun h j => World.cell?_of_block (a := ⟨ba2, j, none⟩) (hg.block ba2 (by have := (HXB.out h).2; omega) (fun e => absurd (HVL.out _ e.symm).2 (Nat.not_lt.2 (HXB.out h).1)))))
          have HQ11 := Lib.hid ((HQ9.out.grown (grb_below (r := none) HB10.out) (fun x hx => by cases hx)).grow2 (F := fun x => sb ≤ x ∧ (Value.slice va3 (acc.len + 1) vc3).ownBlock ≠ some x) hg (fun x hx => (HVL.out x hx).2) (fun x h1 h2 => ⟨by omega, fun e => by
            rcases hbk with hbk | hbk
            · rw [hbk] at e
              exact absurd (HVL.out _ e).2 (Nat.not_lt.2 h1)
            · have := hbk x e
              exact absurd h2 (Nat.not_lt.2 this)⟩))
          have HXB11 := Lib.hid (fun (h : 0 < xs2.length) => show sb ≤ ba2 ∧ (Value.slice va3 (acc.len + 1) vc3).ownBlock ≠ some ba2 from ⟨by have := (HXB.out h).1; omega, fun e => by
            have h1 := HXB.out h
            rcases hbk with hbk | hbk
            · rw [hbk] at e
              exact absurd (HVL.out _ e).2 (Nat.not_lt.2 h1.1)
            · have := hbk ba2 e
              rw [← hs10] at this
              have := h1.2
              omega⟩)
          have hs11 := hg.size
          have HO11 := Lib.hid ho
          clear ho hg hbk HBX HO9 HV9 HX9 HQ9 HXB HB9 HB10 HVL
          have hla : (acc.app (.cons zt xs2 bl2 kd za .nil)).len = acc.len + 1 := by rw [Cls.len_app]; rfl
          go_wp2_with fail
          go_roundw
          case rel => exact ⟨k9, acc.app (.cons zt xs2 bl2 kd za .nil), _, va3, vc3, by rw [hla], rfl, by omega, by omega, HBY, HHE9, Lib.hid (by rw [hla]; exact HO11.out), Lib.hid (by rw [hla]; exact RdC.snoc HX11.out HXB11.out HQ11.out HV11.out), HP2⟩
          case measure => simp [intOf]; omega
        · have hcb : (rc == 0) = false := by simpa using hc
          have hcn : (rc != 0) = true := by simpa using hc
          have hp := HP1.out
          rw [if_neg hc, comb_bad hc] at hp
          subst hp
          clear HP1 HOK HHM
          have HB9 := Lib.hid (((Below.refl w8.heap.size w8).alloc (Nat.le_refl _) (.cells #[.string wd2, .slice aa2 la2 ca2, .bool bl3, .slice ak2 lk2 ck2, .int .i64 av2] 41)).alloc (by simp) (.cells #[.int .i64 rc, .int .i64 ra] 26))
          have HBX := Lib.hid (HB8.out.trans (Below.mono HB9.out (by omega)))
          have HF9 := Lib.hid (HF3.out.low HBX.out hfs)
          have HBW := Lib.hid (HB3.out.trans (Below.mono HBX.out (by omega)))
          have HG9 := Lib.hid (ft_new (w8.alloc (.cells #[.string wd2, .slice aa2 la2 ca2, .bool bl3, .slice ak2 lk2 ck2, .int .i64 av2] 41)) rc ra 26)
          simp only [World.size_alloc] at HG9
          obtain ⟨g0, g1, gf, gl⟩ := HG9.out
          obtain ⟨f0, f1, ff, fl⟩ := HF9.out
          have hbw := HBX.out.size
          clear HB8 HO8 HV8 HVL
          unfold fV
          go_wp2_with fail
          go_region
          all_goals
            go_wp2_with fail
            obtain ⟨W7, hW7, HFW, hgW⟩ := fin2_ex rc ra HF9.out
            rw [hW7]
            clear hW7 f0 f1 ff fl
            obtain ⟨f0, f1, ff, fl⟩ := HFW
            have hBW := (gr_below HBW.out hgW (by omega) (by omega)).trans ((Below.refl W7.heap.size W7).drew.mono (gr_below HBW.out hgW (by omega) (by omega)).size)
            refine bodyPost_ret (v := .tuple #[.slice none 0 0, .agg #[.int .i64 rc, .int .i64 ra]]) (by simp [results, Tryz.results7, go_sem, f0, f1, ff, fl]) rfl ?_
            rw [HPS2.out]
            exact ⟨.slice none 0 0, [], rfl, World.ownsRow_nil _ _ _ _, rfl, hBW⟩
  · have hcn : (c != 0) = true := by simpa using hc
    have hcb : (c == 0) = false := by simpa using hc
    have hps := HPS.out
    rw [if_neg hc] at hps
    have HPS2 := Lib.hid hps
    clear hps HPS HOK
    obtain ⟨f0, f1, ff, fl⟩ := HF3.out
    go_wp2_with fail
    go_region
    all_goals
      go_wp2_with fail
      obtain ⟨W7, hW7, HFW, hgW⟩ := fin2_ex c fa HF3.out
      rw [hW7]
      clear hW7 f0 f1 ff fl
      obtain ⟨f0, f1, ff, fl⟩ := HFW
      have HBW := (gr_below HB3.out hgW (Nat.le_refl _) (Nat.le_refl _)).trans ((Below.refl W7.heap.size W7).drew.mono (gr_below HB3.out hgW (Nat.le_refl _) (Nat.le_refl _)).size)
      refine bodyPost_ret (v := .tuple #[.slice none 0 0, .agg #[.int .i64 c, .int .i64 fa]]) (by simp [results, Tryz.results7, go_sem, f0, f1, ff, fl]) rfl ?_
      rw [HPS2.out]
      exact ⟨.slice none 0 0, [], rfl, World.ownsRow_nil _ _ _ _, rfl, HBW⟩
end Go.Proofs.YtiofekoadjgjdaaGreatDoor
/- The law of what is read: it is as specified: for every string. -/
namespace Go.Proofs.YtiofekoadjgjdaaGreatDoor
open Go.RowKit

theorem rparl_any (s : ByteArray) (hs : s.size ≤ 65536) (w : World) : Calls Tryz.prog 7 #[.string s] w (PrlPost w (parS s)) :=
  (rparse_any s hs w).mono fun e w' h => by
    obtain ⟨v, vs, rfl, ho, hr, hb⟩ := h
    obtain ⟨a, b, cap, hv, sl⟩ := slC_own ho (hr.mono fun x hx => hx.1) (fun x hx => (ho.lt x hx).1)
    obtain ⟨a', cap', hv', hz⟩ := own_form2 ho
    rw [hv] at hv'
    simp only [Value.slice.injEq, true_and] at hv'
    obtain ⟨rfl, rfl⟩ := hv'
    exact ⟨a, b, cap, by rw [hv], sl.here, hb, hz⟩
set_option maxHeartbeats 8000000 in
set_option maxRecDepth 100000 in
theorem parses_walk (s : ByteArray) (hs : s.size ≤ 9223372036854775807) (w : World) (hT : Tabs w) : Calls Tryz.prog 3 #[.string s] w fun e w' => e = .returned (.bool true) ∧ Below w.heap.size w w' := by
  have HA := Lib.hid (awake_any w hT)
  have HT := Lib.hid hT
  clear hT
  by_cases h1 : 1500 < s.size
  · have k1 : decide ((s.size : Int) > 1500) = true := decide_eq_true (by omega)
    go_enter Tryz.func3, Tryz.ntmps3
    go_wp2_with fail
    refine HA.out.mono ?_
    rintro e w1 ⟨rfl, hb1⟩
    go_wp2_with fail
    go_ret
    exact ⟨rfl, hb1⟩
  have k1 : decide ((s.size : Int) > 1500) = false := decide_eq_false (by omega)
  have hs2 : s.size ≤ 1500 := by omega
  clear hs h1
  have HP := Lib.hid (fun W hW => parl_any s W hW)
  have HR := Lib.hid (fun W => rparl_any s (by omega) W)
  have HEQ := Lib.hid (fun W (F G : Nat → Prop) a b cap a' b' cap' (h : SlC W F a b 0 (parS s).1.len cap (parS s).1) (h' : SlC W G a' b' 0 (parS s).1.len cap' (parS s).1) => eqs_any ((parS s).1.count + 1) (by have := parS_count s; omega) (parS s).1 (Nat.lt_succ_self _) W F G a a' b 0 cap b' 0 cap' h h')
  generalize parS s = P at *
  obtain ⟨c, pc, pa⟩ := P
  unfold PrlPost fV at HP HR
  simp only at HP HR HEQ
  go_enter Tryz.func3, Tryz.ntmps3
  go_wp2_with fail
  refine HA.out.mono ?_
  rintro e w1 ⟨rfl, hb1⟩
  have HB1 := Lib.hid hb1
  clear hb1 HA
  go_wp2_with fail
  refine (HP.out _ (HT.out.below HB1.out)).mono ?_
  rintro e w2 ⟨a2, b2, cap2, rfl, sl2, hb2, _⟩
  have HB2 := Lib.hid (HB1.out.trans (Below.mono hb2 HB1.out.size))
  have HL := Lib.hid (SlC.mono (G := fun y => y < w2.heap.size) (fun y hy => hy.2) sl2)
  have hs2w := HB2.out.size
  clear sl2 hb2 HB1
  have HB3 := Lib.hid (HB2.out.alloc (by omega) (.cells #[.int .i64 pc, .int .i64 pa] 26))
  have HW3 := Lib.hid ((Below.refl w2.heap.size w2).alloc (Nat.le_refl _) (.cells #[.int .i64 pc, .int .i64 pa] 26))
  have HF3 := Lib.hid (ft_new w2 pc pa 26)
  have hz3 : (w2.alloc (.cells #[.int .i64 pc, .int .i64 pa] 26)).heap.size = w2.heap.size + 1 := by simp
  clear HB2
  go_wp2_with fail
  generalize w2.alloc (.cells #[.int .i64 pc, .int .i64 pa] 26) = w3 at *
  refine (HR.out _).mono ?_
  rintro e w4 ⟨a4, b4, cap4, rfl, sl4, hb4, _⟩
  have HB4 := Lib.hid (HB3.out.trans (Below.mono hb4 HB3.out.size))
  have HW4 := Lib.hid (HW3.out.trans (Below.mono hb4 HW3.out.size))
  have HM := Lib.hid (SlC.mono (G := fun y => y < w4.heap.size) (fun y hy => hy.2) sl4)
  have HF4 := Lib.hid (HF3.out.keep hb4)
  have hs4 := HB4.out.size
  have hs4w := HW4.out.size
  have hs43 := hb4.size
  clear sl4 hb4 HB3 HW3 HF3
  have HB5 := Lib.hid (HB4.out.alloc (by omega) (.cells #[.int .i64 pc, .int .i64 pa] 26))
  have HW5 := Lib.hid (HW4.out.alloc (by omega) (.cells #[.int .i64 pc, .int .i64 pa] 26))
  have HM5 := Lib.hid (HM.out.low (fun x hx => hx) ((Below.refl w4.heap.size w4).alloc (Nat.le_refl _) (.cells #[.int .i64 pc, .int .i64 pa] 26)))
  have HF5 := Lib.hid (HF4.out.keep ((Below.refl w4.heap.size w4).alloc (Nat.le_refl _) (.cells #[.int .i64 pc, .int .i64 pa] 26)))
  obtain ⟨f0, f1, ff, fl⟩ := HF5.out
  obtain ⟨g0, g1, gf, gl⟩ := ft_new w4 pc pa 26
  have e1 : (pc == pc) = true := by simp
  have e2 : (pa == pa) = true := by simp
  clear HB4 HF4 HF5
  generalize hcl : c.len = y at *
  go_wp2_with fail
  clear f0 f1 ff fl g0 g1 gf gl
  refine (HEQ.out _ _ _ _ _ _ _ _ _ (HL.out.low (fun x hx => hx) HW5.out) HM5.out).mono ?_
  rintro e w6 ⟨rfl, hb6⟩
  have HB6 := Lib.hid (HB5.out.trans (Below.mono hb6 HB5.out.size))
  clear hb6
  go_wp2_with fail
  go_ret
  exact ⟨rfl, HB6.out⟩
end Go.Proofs.YtiofekoadjgjdaaGreatDoor
/- What the rows list, as the code's contracts want it; a start that lays it; the wrap with the world's shape. -/
namespace Go.Proofs.YtiofekoadjgjdaaGreatDoor
open Go.ChangeShapes Go.WideShapes Go.ChangeAt Go.RowKit

theorem own : ownKnob Tryz.prog.godebug = none := by kernel_rfl
def laidAll9 : List (String × DataW Unit) := [("math/bits.deBruijn32tab", Rows.laid_math_bits_deBruijn32tab), ("math/bits.deBruijn64tab", Rows.laid_math_bits_deBruijn64tab), ("internal/strconv.uint64pow10", Rows.laid_internal_strconv_uint64pow10), ("strconv.ErrRange", Rows.laid_strconv_ErrRange), ("strconv.ErrSyntax", Rows.laid_strconv_ErrSyntax), ("salchow/lexer.kinds", Rows.laid_salchow_lexer_kinds)]
theorem laid_tail {P : Program} {w : World} {n : String} {d : DataW Unit} {r : List (String × DataW Unit)} {ps : List MemPlace} (h : DataW.LaidVars P w ((n, d) :: r) ps) : ∃ q, DataW.LaidVars P w r q := by
  obtain ⟨_, _, _, _, _, q, _, _, _, _, h, _⟩ := h
  exact ⟨q, h⟩
theorem kinds_of_laid {W : World} (h : laidMet Tryz.prog laidAll9 W) : Lib.TabIs Tryz.prog W "salchow/lexer.kinds" .u8 kindsL := by
  obtain ⟨ps, hl, _⟩ := h
  obtain ⟨ps, hl⟩ := laid_tail hl
  obtain ⟨ps, hl⟩ := laid_tail hl
  obtain ⟨ps, hl⟩ := laid_tail hl
  obtain ⟨ps, hl⟩ := laid_tail hl
  obtain ⟨ps, hl⟩ := laid_tail hl
  obtain ⟨g, t, cs, fuel, p, q, hg, ht, hvar, hd, _, _⟩ := hl
  obtain rfl := Option.some.inj ((show Tryz.prog.globalNamed "salchow/lexer.kinds" = some 0 by kernel_rfl).symm.trans hg)
  obtain rfl := Option.some.inj ((show (Tryz.prog.globals[0]?).map (·.type) = some 99 by kernel_rfl).symm.trans ht)
  unfold Lib.TabIs
  rw [hvar, ← Lib.cells_of_tab Tryz.underlying99 Tryz.underlying5 (by kernel_rfl) (by kernel_rfl) hd]
theorem pow_of_laid {W : World} (h : laidMet Tryz.prog laidAll9 W) : Lib.TabIs Tryz.prog W "internal/strconv.uint64pow10" .u64 Lib.pow10Tab := by
  obtain ⟨ps, hl, _⟩ := h
  obtain ⟨ps, hl⟩ := laid_tail hl
  obtain ⟨ps, hl⟩ := laid_tail hl
  obtain ⟨g, t, cs, fuel, p, q, hg, ht, hvar, hd, _, _⟩ := hl
  obtain rfl := Option.some.inj ((show Tryz.prog.globalNamed "internal/strconv.uint64pow10" = some 1 by kernel_rfl).symm.trans hg)
  obtain rfl := Option.some.inj ((show (Tryz.prog.globals[1]?).map (·.type) = some 123 by kernel_rfl).symm.trans ht)
  unfold Lib.TabIs
  rw [hvar, ← Lib.cells_of_tab Tryz.underlying123 Tryz.underlying107 (by kernel_rfl) (by kernel_rfl) hd]
theorem err_of_laid {W : World} (h : laidMet Tryz.prog laidAll9 W) : ∃ tp p, W.var? Tryz.prog "strconv.ErrRange" = some #[.iface tp p] := by
  obtain ⟨ps, hl, _⟩ := h
  obtain ⟨ps, hl⟩ := laid_tail hl
  obtain ⟨ps, hl⟩ := laid_tail hl
  obtain ⟨ps, hl⟩ := laid_tail hl
  obtain ⟨g, t, cs, fuel, p, q, hg, ht, hvar, hd, _, _⟩ := hl
  obtain rfl := Option.some.inj ((show Tryz.prog.globalNamed "strconv.ErrRange" = some 8 by kernel_rfl).symm.trans hg)
  obtain rfl := Option.some.inj ((show (Tryz.prog.globals[8]?).map (·.type) = some 118 by kernel_rfl).symm.trans ht)
  obtain ⟨_, u, v, he, _⟩ := iface_of_trod Tryz.underlying118 hd
  refine ⟨u, v, ?_⟩
  rw [hvar]
  obtain ⟨l⟩ := cs
  simp only at he
  rw [he]
theorem max_of_shape {W : World} (h : W.ShapedOpen Tryz.prog) : ∃ m, W.cell? ⟨2, 0, none⟩ = some (.int .i64 m) :=
  cell_of_shapedOpen_int (P := Tryz.prog) (g := 2) (t := 3) h (of_decide_eq_true (by kernel_rfl)) (zero := #[.int .i64 0]) (by kernel_rfl) rfl (by kernel_rfl) (by kernel_rfl) Tryz.underlying3
theorem tabs_of {W : World} (h : laidMetH Tryz.prog laidAll9 W) (hs : W.ShapedOpen Tryz.prog) : Tabs W := by
  rw [MakeChecks.laidMetH_plain _ _ _ (by kernel_rfl)] at h
  exact ⟨kinds_of_laid h, pow_of_laid h, err_of_laid h, max_of_shape hs⟩
section
variable {H : Type} {enc : TypeId × Value → H}
/-- a row's contract, handed what the row lists and the world's shape -/
theorem handed_shaped {C : Checked} {os : Os} {f : FuncId} {fn : Func} {s : ChangeSpec} {X : World → Prop}
    (hX : ∀ w w' : World, w.heap = w'.heap → X w → X w')
    (own : ownKnob C.prog.godebug = none) (started : os.Started) (noInit : C.prog.inits.idxOf? f = none) (hfn : C.prog.funcs[f]? = some fn)
    (witness : ∃ (w : World) (tape : Tape) (i : Input), w.os = os ∧ (w.forCall tape i).Shaped C.prog ∧ i.vars = [] ∧ Input.okWide C.prog (w.forCall tape i) .any w.heap.size f i ∧
      ((s.pre enc C.prog fn [] false (w.forCall tape i).memory i.args ∧ X (w.forCall tape i).memory) ∧ sizedMet enc C.prog fn (OpenSpec.ofChange s) false (w.forCall tape i).memory i.args) ∧ ({} : Assume).holds C.prog (lone (Frame.enter C.prog f i.args .normal) [] (w.forCall tape i)))
    (contract : ∀ (W : World) (base : Nat) (args : Array Value) (ds gs : List (DataW H)) (before : List MemPlace),
      (∀ (j : Nat) t v, fn.params[j]? = some t → args[j]? = some v → Value.okWide C.prog W .any base t v) →
      DataW.Whole enc C.prog fn.params.toList s.vars false W args.toList ds gs before → X W → W.ShapedOpen C.prog →
      Calls C.prog f args W fun e W' => ∃ v, e = .returned v ∧ s.post enc C.prog fn false true false false W args v W') :
    ReturnsInHanded {} C os f .any (fun w args => (s.pre enc C.prog fn [] false w args ∧ X w) ∧ sizedMet enc C.prog fn (OpenSpec.ofChange s) false w args) (s.post enc C.prog fn false true false false) := by
  refine returnsInHanded_of_calls own started noInit witness fun w tape i _ hsh _ hok hpre _ => ?_
  obtain ⟨_, _, _, fn', hfn', _, _, _, _, hval⟩ := hok
  obtain rfl : fn' = fn := Option.some.inj (hfn'.symm.trans hfn)
  obtain ⟨⟨⟨ds, gs, before, hw, _⟩, hx⟩, _⟩ := hpre
  exact (contract (w.forCall tape i) w.heap.size i.args ds gs before hval (DataW.Whole.of_heap (by rfl) hw) (hX _ _ (by rfl) hx) hsh).mono fun _ _ ⟨v, he, hp⟩ => by subst he; exact ChangeSpec.post_blind hp
end
end Go.Proofs.YtiofekoadjgjdaaGreatDoor
/- What the rows of layer 10 share. -/
namespace Go.Proofs.YtiofekoadjgjdaaGreatDoor
open Go.ChangeShapes Go.WideShapes Go.ChangeAt Go.RowKit Go.Joins

theorem bd8 {a : Int} (h : (Lit.int .u8 a).wf = true) : 0 ≤ a ∧ a ≤ 255 := bounds_u8 h
theorem bd64 {a : Int} (h : (Lit.int .i64 a).wf = true) : -9223372036854775808 ≤ a ∧ a ≤ 9223372036854775807 := bounds_i64 h
end Go.Proofs.YtiofekoadjgjdaaGreatDoor
/- Parse returns the specified entries with their offsets, or the specified fault: for every string. No condition but that the listed tables and errors are as the program's text lays them, which the card ties. -/
namespace Go.Proofs.YtiofekoadjgjdaaGreatDoor
open Go.ChangeShapes Go.WideShapes Go.ChangeAt Go.RowKit Go.Joins

set_option maxRecDepth 100000 in
theorem parses_lifted (os : Os) (started : os.Started) (H : Type) (enc : TypeId × Value → H) :
    ReturnsInHanded {} Tryz.checked os 3 .any (fun w args => (Rows.parserParsesSpec.pre enc Tryz.prog Tryz.f3 [] false w args ∧ laidMetH Tryz.prog laidAll9 w) ∧ sizedMet enc Tryz.prog Tryz.f3 (OpenSpec.ofChange Rows.parserParsesSpec) false w args)
      (Rows.parserParsesSpec.post enc Tryz.prog Tryz.f3 false true false false) := by
  refine handed_shaped (C := Tryz.checked) (X := fun w => laidMetH Tryz.prog laidAll9 w) (fun _ _ hh h => h.of_heap hh) own started (by kernel_rfl) Tryz.func3
    (ChangeSpec.witness_shaped (enc := enc) (C := Tryz.checked) (os := os) (X := fun w _ => laidMetH Tryz.prog laidAll9 w) false (World.laidAll Tryz.prog os laidAll9) #[.string ⟨#[]⟩] 8 (World.laidAll_os _ _ _)
      (World.shaped_of_ZipB (by kernel_rfl) (by kernel_rfl)) (by kernel_rfl) (by kernel_rfl) (by kernel_rfl)
      (by rw [MakeChecks.laidMetH_plain _ _ _ (by kernel_rfl)]; exact laidMet_laidAll _ (by kernel_rfl) (by kernel_rfl))) ?_
  intro W base args ds gs before hval0 hW hL hSh
  have HT := tabs_of hL hSh
  have hval : ∀ (j : Nat) t v, Tryz.f3.params[j]? = some t → args[j]? = some v → Value.okWide Tryz.prog W .any base t v := hval0
  have hW' := hW
  obtain ⟨p, q, hA0, hV, rfl, hfz, hnd⟩ := hW
  have hA : DataW.TrodAll enc Tryz.prog W 0 (fun _ => true) true Tryz.f3.params.toList args.toList ds p := hA0
  rw [Tryz.params3] at hA hval
  obtain ⟨v0, d0, rfl, rfl, h0⟩ := trodAll_one hA
  obtain ⟨rfl, rfl⟩ := trodVars_none hV
  obtain ⟨a0, rfl, rfl, rfl, w0⟩ := Go.ChangeMaps.open_string Tryz.underlying9 (hval 0 9 v0 rfl rfl) h0
  clear hA0 hval0
  simp only [List.append_nil, List.nil_append] at hW'
  refine (parses_walk a0 (by unfold maxLen at w0; omega) W HT).mono fun e W' ⟨he, hb⟩ => ?_
  subst he
  exact ⟨_, rfl, post_of_below (pa := []) (pv := []) hW' (fun _ _ _ => (trodAll_cons_mk (shut_bool Tryz.underlying4 _) trodAll_mk0)) (fun sp hsp => trodAll_mk1 (Go.ChangeMaps.shut_string Tryz.underlying9 w0)) (fun _ _ => rfl) (by simp)
    hb (ok_one (by kernel_rfl) rfl (okWide_bool_mk Tryz.underlying4 _))⟩

theorem parses_said : Rows.ParserParsesSaid :=
  OpenClaim.holds_of_wide 3 Tryz.f3 rfl rfl rfl rfl rfl rfl rfl ⟨rfl, rfl, rfl, rfl, rfl⟩ rfl rfl rfl rfl rfl (by kernel_rfl) Tryz.func3 (by kernel_rfl)
    (of_decide_eq_true (by kernel_rfl)) (by unfold Func.isWrapper; first | (rw [if_pos (by decide +kernel)]; kernel_rfl) | (rw [if_neg (by decide +kernel)]; exact ⟨rfl, rfl⟩))
    (fun os started H enc _ => parses_lifted os started H enc)

theorem parses_card : Rows.ParserParsesCardSaid :=
  Claim7.holds_tied_plain_at .later [] [.data, .data, .data, .sentinel, .sentinel, .data] true (true, "d4665f7a14a584554c4c1c1a6a3edc9032e0d2130fadcb2806f9616c0ba21d64") true
    parses_said (fun _ h => by cases h) (by kernel_rfl) (fun _ h => by cases h) parserParses_row_tie rfl ⟨rfl, rfl⟩ (by kernel_rfl) rfl
    (fun f fn hf hfn => by
      obtain rfl : f = 3 := Option.some.inj ((show Tryz.prog.funcNamed "salchow/salchowlaw10.ParserParses" = some 3 by kernel_rfl).symm.trans hf) |>.symm
      obtain rfl : fn = Tryz.f3 := (Option.some.inj (Tryz.func3.symm.trans hfn)).symm
      exact ⟨by kernel_rfl, fun j t ht => by
        rw [Tryz.params3] at ht
        have hm : t ∈ [9] := by simpa using Array.mem_of_getElem? ht
        have hall : ([9].all fun u => !Tryz.prog.wantsStandIn u) = true := by kernel_rfl
        exact (show Tryz.prog.wantsStandIn t = false by simpa using List.all_eq_true.1 hall t hm)⟩)
    (by kernel_rfl)
#print axioms parses_card
end Go.Proofs.YtiofekoadjgjdaaGreatDoor
