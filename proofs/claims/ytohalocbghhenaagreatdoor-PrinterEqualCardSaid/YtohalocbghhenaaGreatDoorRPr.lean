/- The reference's Parse. -/
import Derived.Test.YtohalocbghhenaaGreatDoorREn
import Derived.Test.YtohalocbghhenaaGreatDoorRefG
import Derived.Test.YtohalocbghhenaaGreatDoorPrl
set_option linter.unusedSimpArgs false
set_option linter.unusedVariables false
namespace Go.Proofs.YtohalocbghhenaaGreatDoor
open Go.RowKit

theorem parL_rnt0 {F : Nat} {t : Tk} {l : List Tk} {rr : List Tk × Bool × Cls × List Tk × Int × Int} (h : (t :: l).length < F) (he : t.k ≠ 5) (hr : rntR F 0 t l = rr) :
    parL F 0 (t :: l) = if rr.2.2.2.2.1 = 0 then consR t rr.1 rr.2.1 rr.2.2.1 (parL F 0 rr.2.2.2.1) else (.nil, [], rr.2.2.2.2) := by
  subst hr
  have he2 : endsB 0 t = false := by unfold endsB; rw [if_pos rfl]; simpa using he
  unfold rntR
  by_cases hk : t.k = 1
  · rw [if_neg (show ¬ (t.k ≠ 1) by simp [hk])]
    exact parL_word h he2 hk
  · rw [if_pos (show t.k ≠ 1 from hk), parL_odd (by omega) he2 hk]
    simp
set_option maxHeartbeats 8000000 in
set_option maxRecDepth 100000 in
theorem rparse_any (s : ByteArray) (hs : s.size ≤ 65536) (w : World) : Calls Tryz.prog 26 #[.string s] w (PrsPost w (parS s)) := by
  have HX := Lib.hid (fun W => rlex_any s hs W)
  have HOK := Lib.hid (fun h => @lexS_ok s h)
  have HPS := Lib.hid (show parS s = if (lexS s).2.1 = 0 then ((parL ((lexS s).1.length + 1) 0 (lexS s).1).1, (parL ((lexS s).1.length + 1) 0 (lexS s).1).2.2) else (.nil, (lexS s).2) from rfl)
  obtain ⟨X, hX⟩ : ∃ X, lexS s = X := ⟨_, rfl⟩
  rw [hX] at HX HOK HPS
  obtain ⟨L, c, fa⟩ := X
  unfold LexPost fV at HX
  simp only at HX HOK HPS
  clear hX
  obtain ⟨jz, hj, hy0, hy1, hy2⟩ := info_parts infoC
  go_enter Tryz.func26, Tryz.ntmps26
  go_wp2_with fail
  have HB1 := Lib.hid (show Below w.heap.size w (w.alloc (.cells #[.int .i64 0, .int .i64 0] 40)) from (by repeat (first | with_reducible exact Below.refl _ _ | (with_reducible refine Below.setCell ?_ (by first | exact Nat.le_refl _ | omega | (simp; done) | (simp; omega)) _) | (with_reducible refine Below.alloc ?_ (by first | exact Nat.le_refl _ | omega | (simp; done) | (simp; omega)) _) | with_reducible refine Below.drew ?_ | with_reducible refine bel_drewN ?_ _ | (with_reducible refine bel_by (by with_reducible assumption) (by first | exact Nat.le_refl _ | omega | (simp; done) | (simp; omega)) ?_))))
  refine (HX.out _).mono ?_
  rintro e w1 ⟨v1, rfl, ho1, hb1⟩
  have HF1 := Lib.hid ((ft_new w 0 0 40).keep hb1)
  have HB2 := Lib.hid (bel_by hb1 (by simp) HB1.out)
  have hs1 := hb1.size
  simp only [World.size_alloc] at hs1
  obtain ⟨a1, b1, cap1, rfl, sl1⟩ := slt_own ho1
  have HSL := Lib.hid sl1
  have HOL := Lib.hid (fun (h : 0 < L.length) => sl1.hb h)
  clear ho1 hb1 HX HB1
  have HB3 := Lib.hid (HB2.out.alloc (by omega) (.cells #[.int .i64 c, .int .i64 fa] 40))
  have HF3 := Lib.hid (HF1.out.keep ((Below.refl _ _).alloc (Nat.le_refl _) (.cells #[.int .i64 c, .int .i64 fa] 40)))
  have HG3 := Lib.hid (ft_new w1 c fa 40)
  have HS3 := Lib.hid (HSL.out.keep ((Below.refl _ _).alloc (Nat.le_refl _) (.cells #[.int .i64 c, .int .i64 fa] 40)))
  obtain ⟨g0, g1, gf, gl⟩ := HG3.out
  by_cases hc : c = 0
  · subst hc
    obtain ⟨hHE, hLl, hca⟩ := HOK.out rfl
    simp only [Prod.mk.injEq, true_and] at hca
    subst hca
    have hps := HPS.out
    rw [if_pos rfl] at hps
    have hpos : 0 < L.length := by
      obtain ⟨y, hy, _⟩ := hHE
      exact List.length_pos_of_mem hy
    have HHE := Lib.hid hHE
    have HEC := Lib.hid (rnt_any (L.length + 1) L a1 b1 0 L.length cap1 (by omega) (Nat.lt_succ_self _) (L.length + 1))
    obtain ⟨P, hP⟩ : ∃ P, parL (L.length + 1) 0 L = P := ⟨_, rfl⟩
    rw [hP] at hps
    have HPS2 := Lib.hid hps
    have HPK := Lib.hid ((comb_nil (L.length + 1) 0 L).trans hP)
    obtain rfl := HS3.out.ha hpos
    clear hps HPS HOK hP hHE HSL HF1 HB2
    go_wp2_with fail
    clear g0 g1 gf gl
    have hsz : (w1.alloc (.cells #[.int .i64 0, .int .i64 0] 40)).heap.size = w1.heap.size + 1 := by simp
    generalize w1.alloc (.cells #[.int .i64 0, .int .i64 0] 40) = W3 at *
    obtain ⟨sb, hsb⟩ : ∃ sb, W3.heap.size = sb := ⟨_, rfl⟩
    obtain ⟨fb, hfb⟩ : ∃ fb, w.heap.size = fb := ⟨_, rfl⟩
    have hfs : fb < sb := by omega
    rw [hfb] at HF3 ⊢
    obtain ⟨F, hFF⟩ : ∃ F, L.length + 1 = F := ⟨_, rfl⟩
    rw [hFF] at HEC HPK
    go_loopw [6, 7] (fun s6 s7 wr => ∃ (kk : Nat) (acc : Cls) (vs : List Value) (va2 : Option Addr) (vc : Nat), s6 = .slice va2 acc.len vc ∧ s7 = .int .i64 (kk : Int) ∧ acc.len ≤ kk ∧ sb ≤ wr.heap.size ∧ Hid (Below sb W3 wr) ∧ Hid (HasE (L.drop kk)) ∧ Hid (wr.ownsRow sb 25 5 (.slice va2 acc.len vc) acc.len vs) ∧ Hid (RdC wr (fun x => sb ≤ x ∧ (Value.slice va2 acc.len vc).ownBlock ≠ some x) vs acc) ∧ Hid (comb acc (parL F 0 (L.drop kk)) = P)) (fun _ s7 _ => L.length - (intOf s7).toNat)
    case atStart => exact ⟨0, .nil, [], none, 0, rfl, rfl, Nat.le_refl _, by omega, Lib.hid (Below.refl _ _), Lib.hid (by rw [List.drop_zero]; exact HHE.out), Lib.hid (World.ownsRow_nil _ _ _ _), Lib.hid rfl, Lib.hid (by rw [List.drop_zero]; exact HPK.out)⟩
    case round =>
      obtain ⟨kk, acc, vs, va2, vc, rfl, rfl, hacc, hzr, HBr, HHr, HOr, HVr, HPr⟩ := hrel
      clear HHE HPK
      have hkL2 := HHr.out.pos
      have hSr := HS3.out.keep (show Below W3.heap.size W3 wr by rw [hsb]; exact HBr.out)
      have HSr := Lib.hid hSr
      have HNL2 := Lib.hid (show L.drop kk = L[kk]'hkL2 :: L.drop (kk + 1) from List.drop_eq_getElem_cons hkL2)
      have p0 := hSr.c0 kk hkL2
      rw [Nat.zero_add] at p0
      have bbr := hSr.hb (by omega)
      have hkl3 : (kk : Int) < (L.length : Int) := by omega
      have HCI := Lib.hid (HEC.out wr kk 0 hkL2 hSr HHr.out (by omega) (by omega))
      rw [show ((0 : Nat) : Int) = 0 from rfl] at HCI
      have hld : (L.drop (kk + 1)).length + 1 < F := by rw [List.length_drop]; omega
      obtain ⟨z, hz⟩ : ∃ z, L[kk]'hkL2 = z := ⟨_, rfl⟩
      rw [hz] at p0 HNL2 HCI
      clear hz hSr
      obtain ⟨zk, zt, zn, za⟩ := z
      simp only at p0
      by_cases h5 : zk = 5
      · subst h5
        have hp := HPr.out
        rw [HNL2.out] at hp
        have hp2 : P = (acc, L.drop (kk + 1), 0, 0) := by
          rw [← hp]
          match F, hFF with
          | F + 1, _ => rw [parL_ends (by unfold endsB; rw [if_pos rfl]; rfl), comb_end]
        subst hp2
        have HFr := Lib.hid (HF3.out.low HBr.out hfs)
        obtain ⟨f0, f1, ff, fl⟩ := HFr.out
        clear hp HPr HCI HEC
        go_wp2_with fail
        obtain ⟨W7, hW7, HFW, hgW⟩ := fin2_ex 0 0 HFr.out
        rw [hW7]
        clear hW7 f0 f1 ff fl
        obtain ⟨f0, f1, ff, fl⟩ := HFW
        refine bodyPost_ret (v := .tuple #[.slice va2 acc.len vc, .agg #[.int .i64 0, .int .i64 0]]) (by simp [results, Tryz.results26, go_sem, f0, f1, ff, fl]) rfl ?_
        rw [HPS2.out]
        have hBw := HB3.out.trans (Below.mono HBr.out (by omega))
        refine ⟨_, vs, rfl, own_low (HOr.out.kept hgW ?_) (by omega), RdC.mono (fun x hx => ⟨by omega, hx.2⟩) (HVr.out.grown hgW (Or.inr (fun x hx => by have := Option.some.inj hx; omega))), gr_below hBw hgW (by omega) (by omega)⟩
        by_cases h : (Value.slice va2 acc.len vc).ownBlock = none
        · exact Or.inl h
        · refine Or.inr (fun e => ?_)
          have := (HOr.out.lt _ e).1
          omega
      · obtain ⟨rr, hrr⟩ : ∃ rr, rntR F 0 ⟨zk, zt, zn, za⟩ (L.drop (kk + 1)) = rr := ⟨_, rfl⟩
        have hp := HPr.out
        rw [HNL2.out, parL_rnt0 (by simpa using hld) h5 hrr] at hp
        have hhe := HHr.out
        rw [HNL2.out] at hhe
        have HHM := Lib.hid (fun (h0 : rr.2.2.2.2.1 = 0) => rnt_hasE hhe (by omega) hrr h0)
        rw [hrr] at HCI
        have HP1 := Lib.hid hp
        obtain ⟨xs2, bl2, kd, mm, rc, ra⟩ := rr
        simp only at HCI HP1 HHM
        have q5 : (zk == 5) = false := by simpa using h5
        have q6 : (zk != 5) = true := by simpa using h5
        clear hp hrr hhe HPr HHr
        go_wp2_with fail
        refine HCI.out.mono ?_
        rintro e w8 ⟨hb8, wd2, aa2, la2, ca2, bl3, ak2, lk2, ck2, av2, nx2, rfl, hok⟩
        have HOK := Lib.hid hok
        have HB8 := Lib.hid (HBr.out.trans (Below.mono hb8 hzr))
        have HO8 := Lib.hid (own_below HOr.out hb8)
        have HV8 := Lib.hid (HVr.out.grown (grb_below (r := none) hb8) (Or.inr (fun x hx => by cases hx)))
        have hs8 := hb8.size
        have HVL := Lib.hid (fun g (h : (Value.slice va2 acc.len vc).ownBlock = some g) => HOr.out.lt g h)
        clear hb8 hok HBr HOr HVr HCI HSr p0
        by_cases hc : rc = 0
        · subst hc
          have hrr := HP1.out
          rw [if_pos rfl, comb_snoc] at hrr
          simp only at hrr
          have HP2 := Lib.hid hrr
          obtain ⟨e1, e2, e3, rfl, rfl, ⟨ba2, oa2, hsl, hsb2⟩, ⟨bk2, ok2, hkc⟩, k9, rfl, hk9, hk10⟩ := HOK.out rfl
          replace e1 := e1.symm
          replace e2 := e2.symm
          replace e3 := e3.symm
          subst e1 e2 e3
          have hHE9 := HHM.out rfl
          rw [← hk9] at hHE9
          have HHE9 := Lib.hid hHE9
          rw [← hk9] at HP2
          clear hrr HP1 HOK HHM hk9 hHE9
          have HB9 := Lib.hid (((Below.refl w8.heap.size w8).alloc (Nat.le_refl _) (.cells #[.string zt, .slice aa2 xs2.length ca2, .bool bl2, .slice ak2 kd.len ck2, .int .i64 za] 25)).alloc (by simp) (.cells #[.int .i64 0, .int .i64 ra] 40))
          have HBX := Lib.hid (HB8.out.trans (Below.mono HB9.out (by omega)))
          have HO9 := Lib.hid (own_below HO8.out HB9.out)
          have HV9 := Lib.hid (HV8.out.grown (grb_below (r := none) HB9.out) (Or.inr (fun x hx => by cases hx)))
          have HN9 := Lib.hid (ft_new (w8.alloc (.cells #[.string zt, .slice aa2 xs2.length ca2, .bool bl2, .slice ak2 kd.len ck2, .int .i64 za] 25)) 0 ra 40)
          have HS9 := Lib.hid (show (w8.heap.size + 1 + 1 : Nat) = ((w8.alloc (.cells #[.string zt, .slice aa2 xs2.length ca2, .bool bl2, .slice ak2 kd.len ck2, .int .i64 za] 25)).alloc (.cells #[.int .i64 0, .int .i64 ra] 40)).heap.size by simp)
          simp only [World.size_alloc] at HN9
          have HK9 := Lib.hid ((cl_new w8 zt (.slice aa2 xs2.length ca2) (.slice ak2 kd.len ck2) bl2 za 25).keep ((Below.refl _ _).alloc (Nat.le_refl _) (.cells #[.int .i64 0, .int .i64 ra] 40)))
          have HX9 := Lib.hid (hsl.keep HB9.out)
          have HQ9 := Lib.hid (hkc.grown (grb_below (r := none) HB9.out) (fun x hx => by cases hx))
          have HXB := Lib.hid (fun h => And.intro (hsb2 h) (hsl.hb (b := ba2) h))
          obtain ⟨k0, k1, k2, k3, k4, kf, kl⟩ := HK9.out
          obtain ⟨g0, g1, gf, gl⟩ := HN9.out
          clear HB8 HO8 HV8 hsl hkc hsb2
          unfold fV
          have hce := cl_cells ((w8.alloc (.cells #[.string zt, .slice aa2 xs2.length ca2, .bool bl2, .slice ak2 kd.len ck2, .int .i64 za] 25)).alloc (.cells #[.int .i64 0, .int .i64 ra] 40)) zt (.slice aa2 xs2.length ca2) (.slice ak2 kd.len ck2) bl2 za
          simp only [World.size_alloc] at hce
          have HCE := Lib.hid hce
          have HW6 := Lib.hid (HO9.out.alloc (.cells #[.string zt, .slice aa2 xs2.length ca2, .bool bl2, .slice ak2 kd.len ck2, .int .i64 za] 25))
          have HB10 := Lib.hid ((Below.refl ((w8.alloc (.cells #[.string zt, .slice aa2 xs2.length ca2, .bool bl2, .slice ak2 kd.len ck2, .int .i64 za] 25)).alloc (.cells #[.int .i64 0, .int .i64 ra] 40)).heap.size ((w8.alloc (.cells #[.string zt, .slice aa2 xs2.length ca2, .bool bl2, .slice ak2 kd.len ck2, .int .i64 za] 25)).alloc (.cells #[.int .i64 0, .int .i64 ra] 40))).alloc (Nat.le_refl _) (.cells #[.string zt, .slice aa2 xs2.length ca2, .bool bl2, .slice ak2 kd.len ck2, .int .i64 za] 25))
          clear hce
          go_wp2_with (at_builtin; go_loud (refine wpList_append_blk _ rfl _ _ 23 rfl sb 25 jz (.agg #[.string ⟨#[]⟩, .slice none 0 0, .bool false, .slice none 0 0, .int .i64 0]) 5 80 Tryz.underlying23 hj hy0 hy1 hy2 rfl (by decide) _ _ _ rfl HW6.out ⟨w8.heap.size + 1 + 1, 0, none⟩ 1 1 (encC zt (.slice aa2 xs2.length ca2) bl2 (.slice ak2 kd.len ck2) za) rfl rfl HCE.out ?n1 ?n2 ?n3 ?n4 (by decide) ?_))
          case n1 => intro u hu; simp only [encC, List.mem_cons, List.not_mem_nil, or_false] at hu; rcases hu with rfl | rfl | rfl | rfl | rfl <;> rfl
          case n2 => unfold maxLen; omega
          case n3 => omega
          case n4 => simp; omega
          intro v' w11 ho hg hbk
          obtain ⟨va3, vc3, rfl⟩ := own_form ho
          clear k0 k1 k2 k3 k4 kf kl g0 g1 gf gl HCE HK9 HN9 HW6
          generalize (w8.alloc (.cells #[.string zt, .slice aa2 xs2.length ca2, .bool bl2, .slice ak2 kd.len ck2, .int .i64 za] 25)).alloc (.cells #[.int .i64 0, .int .i64 ra] 40) = w9 at *
          rw [HS9.out] at hbk
          have hs10 : w9.heap.size + 1 = (w9.alloc (.cells #[.string zt, .slice aa2 xs2.length ca2, .bool bl2, .slice ak2 kd.len ck2, .int .i64 za] 25)).heap.size := by simp
          rw [hs10] at hbk
          have hS9 := HS9.out
          have HBY := Lib.hid (Below.grown (HBX.out.trans (Below.mono HB10.out (by omega))) hg (by rw [← hs10]; omega) (fun j hj => (HVL.out j hj).1))
          have HV11 := Lib.hid ((HV9.out.grown (grb_below (r := none) HB10.out) (Or.inr (fun x hx => by cases hx))).own hg hbk)
          have HX11 := Lib.hid ((HX9.out.keep HB10.out).agree hg.size (fun h j => World.cell?_of_block (a := ⟨ba2, j, none⟩) (hg.block ba2 (by have := (HXB.out h).2; omega) (fun e => absurd (HVL.out _ e.symm).2 (Nat.not_lt.2 (HXB.out h).1)))))
          have HQ11 := Lib.hid ((HQ9.out.grown (grb_below (r := none) HB10.out) (fun x hx => by cases hx)).grow2 (F := fun x => sb ≤ x ∧ (Value.slice va3 (acc.len + 1) vc3).ownBlock ≠ some x) hg (fun x hx => (HVL.out x hx).2) (fun x h1 h2 => ⟨by omega, fun e => by
            rcases hbk with hbk | hbk
            · rw [hbk] at e
              exact absurd (HVL.out _ e).2 (Nat.not_lt.2 h1)
            · have := hbk x e
              exact absurd h2 (Nat.not_lt.2 this)⟩))
          have HXB11 := Lib.hid (fun (h : 0 < xs2.length) => show sb ≤ ba2 ∧ (Value.slice va3 (acc.len + 1) vc3).ownBlock ≠ some ba2 from ⟨by have := (HXB.out h).1; omega, fun e => by
            have h1 := HXB.out h
            rcases hbk with hbk | hbk
            · rw [hbk] at e
              exact absurd (HVL.out _ e).2 (Nat.not_lt.2 h1.1)
            · have := hbk ba2 e
              rw [← hs10] at this
              have := h1.2
              omega⟩)
          have hs11 := hg.size
          have HO11 := Lib.hid ho
          clear ho hg hbk HBX HO9 HV9 HX9 HQ9 HXB HB9 HB10 HVL
          have hla : (acc.app (.cons zt xs2 bl2 kd za .nil)).len = acc.len + 1 := by rw [Cls.len_app]; rfl
          go_wp2_with fail
          go_roundw
          case rel => exact ⟨k9, acc.app (.cons zt xs2 bl2 kd za .nil), _, va3, vc3, by rw [hla], rfl, by omega, by omega, HBY, HHE9, Lib.hid (by rw [hla]; exact HO11.out), Lib.hid (by rw [hla]; exact RdC.snoc HX11.out HXB11.out HQ11.out HV11.out), HP2⟩
          case measure => simp [intOf]; omega
        · have hcb : (rc == 0) = false := by simpa using hc
          have hcn : (rc != 0) = true := by simpa using hc
          have hp := HP1.out
          rw [if_neg hc, comb_bad hc] at hp
          subst hp
          clear HP1 HOK HHM
          have HB9 := Lib.hid (((Below.refl w8.heap.size w8).alloc (Nat.le_refl _) (.cells #[.string wd2, .slice aa2 la2 ca2, .bool bl3, .slice ak2 lk2 ck2, .int .i64 av2] 25)).alloc (by simp) (.cells #[.int .i64 rc, .int .i64 ra] 40))
          have HBX := Lib.hid (HB8.out.trans (Below.mono HB9.out (by omega)))
          have HF9 := Lib.hid (HF3.out.low HBX.out hfs)
          have HBW := Lib.hid (HB3.out.trans (Below.mono HBX.out (by omega)))
          have HG9 := Lib.hid (ft_new (w8.alloc (.cells #[.string wd2, .slice aa2 la2 ca2, .bool bl3, .slice ak2 lk2 ck2, .int .i64 av2] 25)) rc ra 40)
          simp only [World.size_alloc] at HG9
          obtain ⟨g0, g1, gf, gl⟩ := HG9.out
          obtain ⟨f0, f1, ff, fl⟩ := HF9.out
          have hbw := HBX.out.size
          clear HB8 HO8 HV8 HVL
          unfold fV
          go_wp2_with fail
          go_region
          all_goals
            go_wp2_with fail
            obtain ⟨W7, hW7, HFW, hgW⟩ := fin2_ex rc ra HF9.out
            rw [hW7]
            clear hW7 f0 f1 ff fl
            obtain ⟨f0, f1, ff, fl⟩ := HFW
            have hBW := (gr_below HBW.out hgW (by omega) (by omega)).trans ((Below.refl W7.heap.size W7).drew.mono (gr_below HBW.out hgW (by omega) (by omega)).size)
            refine bodyPost_ret (v := .tuple #[.slice none 0 0, .agg #[.int .i64 rc, .int .i64 ra]]) (by simp [results, Tryz.results26, go_sem, f0, f1, ff, fl]) rfl ?_
            rw [HPS2.out]
            exact ⟨.slice none 0 0, [], rfl, World.ownsRow_nil _ _ _ _, rfl, hBW⟩
  · have hcn : (c != 0) = true := by simpa using hc
    have hcb : (c == 0) = false := by simpa using hc
    have hps := HPS.out
    rw [if_neg hc] at hps
    have HPS2 := Lib.hid hps
    clear hps HPS HOK
    obtain ⟨f0, f1, ff, fl⟩ := HF3.out
    go_wp2_with fail
    go_region
    all_goals
      go_wp2_with fail
      obtain ⟨W7, hW7, HFW, hgW⟩ := fin2_ex c fa HF3.out
      rw [hW7]
      clear hW7 f0 f1 ff fl
      obtain ⟨f0, f1, ff, fl⟩ := HFW
      have HBW := (gr_below HB3.out hgW (Nat.le_refl _) (Nat.le_refl _)).trans ((Below.refl W7.heap.size W7).drew.mono (gr_below HB3.out hgW (Nat.le_refl _) (Nat.le_refl _)).size)
      refine bodyPost_ret (v := .tuple #[.slice none 0 0, .agg #[.int .i64 c, .int .i64 fa]]) (by simp [results, Tryz.results26, go_sem, f0, f1, ff, fl]) rfl ?_
      rw [HPS2.out]
      exact ⟨.slice none 0 0, [], rfl, World.ownsRow_nil _ _ _ _, rfl, HBW⟩
end Go.Proofs.YtohalocbghhenaaGreatDoor
