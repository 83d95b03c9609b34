/- Contract of the reference of layer 10: Equal, where offsets don't count, and Same. -/
import Derived.Test.YtohalocbghhenaaGreatDoorSmc
import Derived.Test.YtohalocbghhenaaGreatDoorEqs
import Derived.Test.YtohalocbghhenaaGreatDoorLawNormalizes
import Derived.Test.YtohalocbghhenaaGreatDoorRPr
set_option linter.unusedSimpArgs false
set_option linter.unusedVariables false
namespace Go.Proofs.YtohalocbghhenaaGreatDoor
open Go.RowKit

def QeC (n : Nat) : Prop := ∀ (c d : Cls), c.count < n → d.len ≤ 9223372036854775807 → ∀ (w : World) (F G : Nat → Prop) (a a' : Option Addr) (b o cap b' o' cap' : Nat), SlC w F a b o c.len cap c → SlC w G a' b' o' d.len cap' d →
    Calls Tryz.prog 51 #[.slice a c.len cap, .slice a' d.len cap', .bool false] w fun e w' => e = .returned (.bool (decide (c.zero = d.zero))) ∧ Below w.heap.size w w'
theorem zero_parts {x y : Tk} (h1 : x.k = y.k) (h2 : x.t = y.t) (h3 : x.n = y.n) : zeroA x = zeroA y := by
  obtain ⟨k, t, n, a⟩ := x
  obtain ⟨k', t', n', a'⟩ := y
  simp only at h1 h2 h3
  subst h1 h2 h3
  rfl
set_option maxHeartbeats 4000000 in
set_option maxRecDepth 100000 in
theorem rsm_any (n : Nat) (IH : Hid (QeC n)) (wd wd' : ByteArray) (xs xs' : List Tk) (bl bl' : Bool) (k k' : Cls) (av av' : Int) (hk : k.count < n) (hk' : k'.len ≤ 9223372036854775807) (w : World) (F G : Nat → Prop) (aa ak aa' ak' : Option Addr) (ba oa la ca bk ok ck ba' oa' la' ca' bk' ok' ck' : Nat)
    (hx : SlT w aa ba oa la ca xs) (hc : SlC w F ak bk ok k.len ck k) (hx' : SlT w aa' ba' oa' la' ca' xs') (hc' : SlC w G ak' bk' ok' k'.len ck' k') :
    Calls Tryz.prog 77 #[.agg #[.string wd, .slice aa la ca, .bool bl, .slice ak k.len ck, .int .i64 av], .agg #[.string wd', .slice aa' la' ca', .bool bl', .slice ak' k'.len ck', .int .i64 av'], .bool false] w fun e w' => e = .returned (.bool (smB wd wd' xs xs' bl bl' k k')) ∧ Below w.heap.size w w' := by
  have HS := Lib.hid (fun W (h : SlC W (fun x => F x ∧ x < w.heap.size) ak bk ok k.len ck k) (h' : SlC W (fun x => G x ∧ x < w.heap.size) ak' bk' ok' k'.len ck' k') => IH.out k k' hk hk' W _ _ _ _ _ _ _ _ _ _ h h')
  have HX := Lib.hid hx
  have HX' := Lib.hid hx'
  have HK := Lib.hid hc.here
  have HK' := Lib.hid hc'.here
  have hl := hx.hl
  have hl' := hx'.hl
  have hm := hx.hmax
  have hm' := hx'.hmax
  have hcp := hx.hcap
  have hcp' := hx'.hcap
  unfold maxLen at hm hm'
  have HSB := Lib.hid (show smB wd wd' xs xs' bl bl' k k' = (decide (wd = wd') && (bl == bl') && decide (xs.map zeroA = xs'.map zeroA) && decide (k.zero = k'.zero)) from rfl)
  generalize smB wd wd' xs xs' bl bl' k k' = R at *
  generalize decide (k.zero = k'.zero) = kz at *
  generalize k.len = y at *
  generalize k'.len = y' at *
  clear hx hc hx' hc' IH hk hk'
  have HB := Lib.hid (show Below w.heap.size w ((w.alloc (.cells #[.string wd, .slice aa la ca, .bool bl, .slice ak y ck, .int .i64 av] 25)).alloc (.cells #[.string wd', .slice aa' la' ca', .bool bl', .slice ak' y' ck', .int .i64 av'] 25)) from (by repeat (first | with_reducible exact Below.refl _ _ | (with_reducible refine Below.setCell ?_ (by first | exact Nat.le_refl _ | omega | (simp; done) | (simp; omega)) _) | (with_reducible refine Below.alloc ?_ (by first | exact Nat.le_refl _ | omega | (simp; done) | (simp; omega)) _) | with_reducible refine Below.drew ?_ | with_reducible refine bel_drewN ?_ _ | (with_reducible refine bel_by (by with_reducible assumption) (by first | exact Nat.le_refl _ | omega | (simp; done) | (simp; omega)) ?_))))
  have HCA := Lib.hid ((cl_new w wd (.slice aa la ca) (.slice ak y ck) bl av 25).keep ((Below.refl _ _).alloc (Nat.le_refl _) (.cells #[.string wd', .slice aa' la' ca', .bool bl', .slice ak' y' ck', .int .i64 av'] 25)))
  have HCB := Lib.hid (cl_new (w.alloc (.cells #[.string wd, .slice aa la ca, .bool bl, .slice ak y ck, .int .i64 av] 25)) wd' (.slice aa' la' ca') (.slice ak' y' ck') bl' av' 25)
  simp only [World.size_alloc] at HCB
  have hsz : ((w.alloc (.cells #[.string wd, .slice aa la ca, .bool bl, .slice ak y ck, .int .i64 av] 25)).alloc (.cells #[.string wd', .slice aa' la' ca', .bool bl', .slice ak' y' ck', .int .i64 av'] 25)).heap.size = w.heap.size + 1 + 1 := by simp
  obtain ⟨c0, c1, c2, c3, c4, cf, cl⟩ := HCA.out
  obtain ⟨d0, d1, d2, d3, d4, df, dl⟩ := HCB.out
  by_cases h1 : wd = wd'
  · subst h1
    by_cases h2 : bl = bl'
    · subst h2
      by_cases h3 : la = la'
      · subst h3
        clear c0 c1 c2 c3 c4 cf cl d0 d1 d2 d3 d4 df dl
        obtain ⟨c0, c1, c2, c3, c4, cf, cl⟩ := HCA.out
        obtain ⟨d0, d1, d2, d3, d4, df, dl⟩ := HCB.out
        go_enter Tryz.func77, Tryz.ntmps77
        go_wp2_with fail
        clear c0 c1 c2 c3 c4 cf cl d0 d1 d2 d3 d4 df dl
        generalize (w.alloc (.cells #[.string wd, .slice aa la ca, .bool bl, .slice ak y ck, .int .i64 av] 25)).alloc (.cells #[.string wd, .slice aa' la ca', .bool bl, .slice ak' y' ck', .int .i64 av'] 25) = W at *
        go_loopw [7] (fun s7 wr => ∃ i : Nat, i ≤ la ∧ s7 = .int .i64 (i : Int) ∧ Hid (Below W.heap.size W wr) ∧ Hid ((xs.take i).map zeroA = (xs'.take i).map zeroA)) (fun s7 _ => (la - (intOf s7)).toNat)
        case atStart => exact ⟨0, Nat.zero_le _, rfl, Lib.hid (Below.refl _ _), Lib.hid rfl⟩
        case round =>
          obtain ⟨i, hi, rfl, HBW, HTK⟩ := hrel
          have hbs := HBW.out.size
          have HBr := Lib.hid (HB.out.trans (Below.mono HBW.out HB.out.size))
          obtain ⟨c0, c1, c2, c3, c4, cf, cl⟩ := HCA.out.low HBW.out (by omega)
          obtain ⟨d0, d1, d2, d3, d4, df, dl⟩ := HCB.out.low HBW.out (by omega)
          by_cases hlt : i < la
          · have hlz : (i : Int) < (la : Int) := by omega
            have hiL : i < xs.length := by omega
            have hiL' : i < xs'.length := by omega
            have HXr := Lib.hid (HX.out.keep HBr.out)
            have HXr' := Lib.hid (HX'.out.keep HBr.out)
            obtain rfl := HXr.out.ha (by omega)
            obtain rfl := HXr'.out.ha (by omega)
            have bb := HXr.out.hb (by omega)
            have bb' := HXr'.out.hb (by omega)
            have p0 := HXr.out.c0 i hiL
            have p1 := HXr.out.c1 i hiL
            have p2 := HXr.out.c2 i hiL
            have p3 := HXr.out.c3 i hiL
            have q0 := HXr'.out.c0 i hiL'
            have q1 := HXr'.out.c1 i hiL'
            have q2 := HXr'.out.c2 i hiL'
            have q3 := HXr'.out.c3 i hiL'
            have HEQ := Lib.hid (fun (h : zeroA (xs[i]'hiL) = zeroA (xs'[i]'hiL')) => map_take_step hiL hiL' HTK.out h)
            have HNE := Lib.hid (fun (h : zeroA (xs[i]'hiL) ≠ zeroA (xs'[i]'hiL')) => map_get_ne hiL hiL' h)
            generalize xs[i]'hiL = x at *
            generalize xs'[i]'hiL' = x' at *
            obtain ⟨xk, xt, xn, xa⟩ := x
            obtain ⟨xk', xt', xn', xa'⟩ := x'
            simp only at p0 p1 p2 p3 q0 q1 q2 q3
            have HB2 := Lib.hid (show ∀ U V, Below W.heap.size W ((wr.alloc U).alloc V) from fun U V => (HBW.out.alloc hbs _).alloc (by simp; omega) _)
            have HK1 := Lib.hid (fun U => (tk_new wr ⟨xk, xt, xn, xa⟩ 51).keep ((Below.refl _ _).alloc (Nat.le_refl _) U))
            clear HXr HXr' HBr HTK
            go_wp2_with fail
            go_region
            all_goals
              clear p0 p1 p2 p3 q0 q1 q2 q3
              by_cases e1 : xk = xk'
              · subst e1
                by_cases e2 : xt = xt'
                · subst e2
                  by_cases e3 : xn = xn'
                  · subst e3
                    have HTN := Lib.hid (HEQ.out (zero_parts rfl rfl rfl))
                    have HBD := Lib.hid (fun U V => (HB2.out U V).drew)
                    clear HEQ HNE
                    go_wp2_with fail
                    go_roundw
                    case rel => exact ⟨i + 1, by omega, by go_num, Lib.hid (HBD.out _ _), HTN⟩
                    case measure => simp [intOf]; omega
                  · have z0 : (xn == xn') = false := by simpa using e3
                    have z1 : (xn != xn') = true := by simpa using e3
                    have hne := HNE.out (fun h => e3 (by injection h))
                    have hr := HSB.out
                    rw [decide_eq_false hne] at hr
                    simp only [Bool.and_false, Bool.false_and] at hr
                    subst hr
                    clear HEQ HNE HSB
                    go_wp2_with fail
                    go_ret
                    exact ⟨rfl, HB.out.trans (Below.mono (HB2.out _ _).drew HB.out.size)⟩
                · have z0 : (xt.toList == xt'.toList) = false := by rw [str_beq]; simp [e2]
                  have hne := HNE.out (fun h => e2 (by injection h))
                  have hr := HSB.out
                  rw [decide_eq_false hne] at hr
                  simp only [Bool.and_false, Bool.false_and] at hr
                  subst hr
                  clear HEQ HNE HSB
                  go_wp2_with fail
                  go_ret
                  exact ⟨rfl, HB.out.trans (Below.mono (HB2.out _ _).drew HB.out.size)⟩
              · have z0 : (xk == xk') = false := by simpa using e1
                have z1 : (xk != xk') = true := by simpa using e1
                have hne := HNE.out (fun h => e1 (by injection h))
                have hr := HSB.out
                rw [decide_eq_false hne] at hr
                simp only [Bool.and_false, Bool.false_and] at hr
                subst hr
                clear HEQ HNE HSB
                go_wp2_with fail
                go_ret
                exact ⟨rfl, HB.out.trans (Below.mono (HB2.out _ _).drew HB.out.size)⟩
          · have hlz : ¬ (i : Int) < (la : Int) := by omega
            obtain rfl : i = la := by omega
            have hxz : xs.map zeroA = xs'.map zeroA := by have := HTK.out; rwa [List.take_of_length_le (by omega), List.take_of_length_le (by omega)] at this
            have hr := HSB.out
            rw [decide_eq_true hxz] at hr
            go_wp2_with fail
            refine (HS.out _ (HK.out.low (fun x hx => hx.2) HBr.out) (HK'.out.low (fun x hx => hx.2) HBr.out)).mono ?_
            rintro e w2 ⟨rfl, hb2⟩
            have HB2 := Lib.hid (HBr.out.trans (Below.mono hb2 HBr.out.size))
            clear hb2 c0 c1 c2 c3 c4 cf cl d0 d1 d2 d3 d4 df dl
            subst hr
            go_wp2_with fail
            go_ret
            exact ⟨by simp, HB2.out⟩
      · have hr := HSB.out
        have hne : xs.map zeroA ≠ xs'.map zeroA := fun h => h3 (by have := congrArg List.length h; simp at this; omega)
        rw [decide_eq_false hne] at hr
        simp only [Bool.and_false, Bool.false_and] at hr
        subst hr
        have j3 : ((la : Int) != (la' : Int)) = true := by simp; omega
        have j4 : ((la : Int) == (la' : Int)) = false := by simp; omega
        clear HSB HX HX' HK HK' HS
        go_enter Tryz.func77, Tryz.ntmps77
        go_wp2_with fail
        go_ret
        exact ⟨rfl, HB.out⟩
    · have hr := HSB.out
      have j3 : (bl == bl') = false := by simpa using h2
      have j4 : (bl != bl') = true := by simpa using h2
      rw [j3] at hr
      simp only [Bool.and_false, Bool.false_and] at hr
      subst hr
      clear HSB HX HX' HK HK' HS
      go_enter Tryz.func77, Tryz.ntmps77
      go_wp2_with fail
      go_ret
      exact ⟨rfl, HB.out⟩
  · have hr := HSB.out
    rw [decide_eq_false h1] at hr
    simp only [Bool.false_and] at hr
    subst hr
    have j1 : (wd.toList == wd'.toList) = false := by rw [str_beq]; simp [h1]
    clear HSB HX HX' HK HK' HS
    go_enter Tryz.func77, Tryz.ntmps77
    go_wp2_with fail
    go_ret
    exact ⟨rfl, HB.out⟩
set_option maxHeartbeats 4000000 in
set_option maxRecDepth 100000 in
theorem requal_any : ∀ n : Nat, n ≤ 4611686018427387904 → QeC n
  | 0, _ => fun _ _ h => absurd h (Nat.not_lt_zero _)
  | n + 1, hn => fun c d hc hdl w F G a a' b o cap b' o' cap' hA hA' => by
    have HG := Lib.hid (fun wd wd' xs xs' bl bl' k k' av av' hk hk' W aa ak aa' ak' ba oa la ca bk ok ck ba' oa' la' ca' bk' ok' ck' hx hc hx' hc' => rsm_any n (Lib.hid (requal_any n (by omega))) wd wd' xs xs' bl bl' k k' av av' hk hk' W (fun x => F x ∧ x < w.heap.size) (fun x => G x ∧ x < w.heap.size) aa ak aa' ak' ba oa la ca bk ok ck ba' oa' la' ca' bk' ok' ck' hx hc hx' hc')
    have HA := Lib.hid hA.here
    have HA' := Lib.hid hA'.here
    have HM := Lib.hid (fun i wd xs bl k a r => @drop_count c i wd xs bl k a r)
    have HST := Lib.hid (fun i wd wd' xs xs' bl bl' k k' a a' r r' => @sm_step c d i wd wd' xs xs' bl bl' k k' a a' r r')
    have HNE := Lib.hid (fun i wd wd' xs xs' bl bl' k k' a a' r r' => @sm_ne c d i wd wd' xs xs' bl bl' k k' a a' r r')
    have HE := Lib.hid (show c.zero.take c.len = c.zero by have := take_all c.zero; rwa [zero_len] at this)
    have HE' := Lib.hid (show d.zero.take d.len = d.zero by have := take_all d.zero; rwa [zero_len] at this)
    have hlc : c.len ≤ 4611686018427387904 := by have := kidsN_le c 0; omega
    have HNL := Lib.hid (show c.len ≠ d.len → c.zero ≠ d.zero from fun h e => h (by rw [← zero_len c, ← zero_len d, e]))
    obtain ⟨N, hN⟩ : ∃ N, c.count = N := ⟨_, rfl⟩
    obtain ⟨l, hl⟩ : ∃ l, c.len = l := ⟨_, rfl⟩
    obtain ⟨l', hl'⟩ : ∃ l', d.len = l' := ⟨_, rfl⟩
    obtain ⟨r, hr⟩ : ∃ r, decide (c.zero = d.zero) = r := ⟨_, rfl⟩
    rw [hN] at HM hc
    rw [hl] at HA HE HNL hlc ⊢
    rw [hl'] at HA' HE' HNL hdl ⊢
    rw [hr]
    have HLN := Lib.hid hl
    have HLN' := Lib.hid hl'
    have HR := Lib.hid hr
    clear hA hA' hN hl hl' hr
    by_cases hne : l = l'
    · subst hne
      go_enter Tryz.func51, Tryz.ntmps51
      go_wp2_with fail
      go_loopw [7] (fun s7 wr => ∃ k : Nat, k ≤ l ∧ s7 = .int .i64 (k : Int) ∧ Hid (Below w.heap.size w wr) ∧ Hid (c.zero.take k = d.zero.take k)) (fun s7 _ => (l - (intOf s7)).toNat)
      case atStart => exact ⟨0, Nat.zero_le _, rfl, Lib.hid (Below.refl _ _), Lib.hid (by cases c.zero <;> cases d.zero <;> rfl)⟩
      case round =>
        obtain ⟨i, hi, rfl, HB, HKT⟩ := hrel
        by_cases hlt : i < l
        · have hlz : (i : Int) < (l : Int) := by omega
          have SA := HA.out.low (fun x hx => hx.2) HB.out
          have SA' := HA'.out.low (fun x hx => hx.2) HB.out
          obtain ⟨rfl, bb, _⟩ := SA.2.2.2.1 (by omega)
          obtain ⟨rfl, bbb, _⟩ := SA'.2.2.2.1 (by omega)
          obtain ⟨wd, xs, bl, kd, av, rest, aa, xb, oa, la, ca, ak, bk, ok, ck, hd, c0, c1, c2, c3, c4, SX, _, SK⟩ := AtC.get i (by rw [HLN.out]; exact hlt) SA.2.2.2.2
          obtain ⟨wd', xs', bl', kd', av', rest', aa', xb', oa', la', ca', ak', bk', ok', ck', hd', d0, d1, d2, d3, d4, SX', _, SK'⟩ := AtC.get i (by rw [HLN'.out]; exact hlt) SA'.2.2.2.2
          have hkc := HM.out _ _ _ _ _ _ _ hd
          have HSX2 := Lib.hid (HST.out _ _ _ _ _ _ _ _ _ _ _ _ _ HKT.out hd hd')
          have HNX := Lib.hid (HNE.out _ _ _ _ _ _ _ _ _ _ _ _ _ hd hd')
          have hkm := lenC_max SK'
          unfold maxLen at hkm
          have hbs := HB.out.size
          have HSX := Lib.hid SX
          have HSX' := Lib.hid SX'
          have HSK := Lib.hid SK
          have HSK' := Lib.hid SK'
          have HCC := Lib.hid (fun W (hb : Below wr.heap.size wr W) => HG.out wd wd' xs xs' bl bl' kd kd' av av' (by omega) (by omega) W aa ak aa' ak' xb oa la ca bk ok ck xb' oa' la' ca' bk' ok' ck' (HSX.out.keep hb) (HSK.out.low (fun x hx => Nat.lt_of_lt_of_le hx.2 hbs) hb) (HSX'.out.keep hb) (HSK'.out.low (fun x hx => Nat.lt_of_lt_of_le hx.2 hbs) hb))
          generalize smB wd wd' xs xs' bl bl' kd kd' = q at *
          generalize kd.len = y at *
          generalize kd'.len = y' at *
          clear SA SA' SX SX' SK SK' hd hd' HG HM HSX HSX' HSK HSK' HST HNE hkm
          have hBB : Below wr.heap.size wr wr := Below.refl _ _
          go_wp2_with fail
          go_cut [19, 20, 21, 22, 23, 24, 25, 26, 27, 28, 29] (fun s19 s20 s21 s22 s23 s24 s25 s26 s27 s28 s29 wx => s29 = .bool (!q) ∧ Hid (Below wr.heap.size wr wx))
          case first =>
            go_region_held3 (fun w' => w'.cell? ⟨b, o + i * 5, none⟩ = some (.string wd) ∧ w'.cell? ⟨b, o + i * 5 + 1, none⟩ = some (.slice aa la ca) ∧ w'.cell? ⟨b, o + i * 5 + 2, none⟩ = some (.bool bl) ∧ w'.cell? ⟨b, o + i * 5 + 3, none⟩ = some (.slice ak y ck) ∧ w'.cell? ⟨b, o + i * 5 + 4, none⟩ = some (.int .i64 av) ∧ w'.cell? ⟨b', o' + i * 5, none⟩ = some (.string wd') ∧ w'.cell? ⟨b', o' + i * 5 + 1, none⟩ = some (.slice aa' la' ca') ∧ w'.cell? ⟨b', o' + i * 5 + 2, none⟩ = some (.bool bl') ∧ w'.cell? ⟨b', o' + i * 5 + 3, none⟩ = some (.slice ak' y' ck') ∧ w'.cell? ⟨b', o' + i * 5 + 4, none⟩ = some (.int .i64 av'))
              ((first | (simp [go_sem, c0, c1, c2, c3, c4, d0, d1, d2, d3, d4]; done)))
              (first
                | (go_at_call 77; (refine (HCC.out _ ?tab).mono ?_); (case tab => exact (by repeat (first | with_reducible exact Below.refl _ _ | (with_reducible refine Below.setCell ?_ (by first | exact Nat.le_refl _ | omega | (simp; done) | (simp; omega)) _) | (with_reducible refine Below.alloc ?_ (by first | exact Nat.le_refl _ | omega | (simp; done) | (simp; omega)) _) | with_reducible refine Below.drew ?_ | with_reducible refine bel_drewN ?_ _ | (with_reducible refine bel_by (by with_reducible assumption) (by first | exact Nat.le_refl _ | omega | (simp; done) | (simp; omega)) ?_)))); rintro e v1 ⟨rfl, hb⟩; (repeat (with_reducible replace hb := undrew hb)); have c0 := (hb.cell (p := ⟨b, o + i * 5, none⟩) bb).trans c0; have c1 := (hb.cell (p := ⟨b, o + i * 5 + 1, none⟩) bb).trans c1; have c2 := (hb.cell (p := ⟨b, o + i * 5 + 2, none⟩) bb).trans c2; have c3 := (hb.cell (p := ⟨b, o + i * 5 + 3, none⟩) bb).trans c3; have c4 := (hb.cell (p := ⟨b, o + i * 5 + 4, none⟩) bb).trans c4; have d0 := (hb.cell (p := ⟨b', o' + i * 5, none⟩) bbb).trans d0; have d1 := (hb.cell (p := ⟨b', o' + i * 5 + 1, none⟩) bbb).trans d1; have d2 := (hb.cell (p := ⟨b', o' + i * 5 + 2, none⟩) bbb).trans d2; have d3 := (hb.cell (p := ⟨b', o' + i * 5 + 3, none⟩) bbb).trans d3; have d4 := (hb.cell (p := ⟨b', o' + i * 5 + 4, none⟩) bbb).trans d4; have hBB := hBB.trans (Below.mono (B' := wr.heap.size) hb (by first | exact Nat.le_refl _ | exact hBB.size)); clear hb))
            all_goals
              go_wp2_with fail
              go_meet
              exact ⟨rfl, Lib.hid (by repeat (first | with_reducible exact Below.refl _ _ | (with_reducible refine Below.setCell ?_ (by first | exact Nat.le_refl _ | omega | (simp; done) | (simp; omega)) _) | (with_reducible refine Below.alloc ?_ (by first | exact Nat.le_refl _ | omega | (simp; done) | (simp; omega)) _) | with_reducible refine Below.drew ?_ | with_reducible refine bel_drewN ?_ _ | (with_reducible refine bel_by (by with_reducible assumption) (by first | exact Nat.le_refl _ | omega | (simp; done) | (simp; omega)) ?_)))⟩
          obtain ⟨rfl, HBC⟩ := hcut
          generalize wc = w1 at *
          have HB1 := Lib.hid (bel_by HBC.out (by omega) HB.out)
          clear c0 c1 c2 c3 c4 d0 d1 d2 d3 d4 HBC HCC hBB
          cases q with
          | true =>
            have HS2 := Lib.hid (HSX2.out rfl)
            go_wp2_with fail
            go_roundw
            case rel => exact ⟨i + 1, by omega, by go_num, HB1, HS2⟩
            case measure => simp [intOf]; omega
          | false =>
            have HN2 := Lib.hid (HNX.out rfl)
            go_wp2_with fail
            go_ret
            exact ⟨ret_bool (by rw [← HR.out, decide_eq_false HN2.out]), HB1.out⟩
        · have hlz : ¬ (i : Int) < (l : Int) := by omega
          obtain rfl : i = l := by omega
          have HQ := Lib.hid (show c.zero = d.zero by
            have := HKT.out
            rwa [HE.out, HE'.out] at this)
          clear HG HST HNE
          go_wp2_with fail
          go_ret
          exact ⟨ret_bool (by rw [← HR.out, decide_eq_true HQ.out]), HB.out⟩
    · have hn2 := HNL.out hne
      have j1 : ((l : Int) != (l' : Int)) = true := by simp; omega
      have j2 : ((l : Int) == (l' : Int)) = false := by simp; omega
      clear HG HST HNE HA HA' HM
      go_enter Tryz.func51, Tryz.ntmps51
      go_wp2_with fail
      go_ret
      exact ⟨ret_bool (by rw [← HR.out, decide_eq_false hn2]), Below.refl _ _⟩
set_option maxHeartbeats 2000000 in
set_option maxRecDepth 100000 in
theorem rSame_any (c d : Cls) (hc : c.count < 4611686018427387904) (hd : d.len ≤ 9223372036854775807) (w : World) (F G : Nat → Prop) (a a' : Option Addr) (b o cap b' o' cap' : Nat) (hA : SlC w F a b o c.len cap c) (hA' : SlC w G a' b' o' d.len cap' d) :
    Calls Tryz.prog 27 #[.slice a c.len cap, .slice a' d.len cap'] w fun e w' => e = .returned (.bool (decide (c.zero = d.zero))) ∧ Below w.heap.size w w' := by
  have HE := Lib.hid (requal_any (c.count + 1) (by omega) c d (Nat.lt_succ_self _) hd w F G a a' b o cap b' o' cap' hA hA')
  generalize decide (c.zero = d.zero) = r at *
  generalize c.len = n at *
  generalize d.len = m at *
  clear hA hA'
  go_enter Tryz.func27, Tryz.ntmps27
  go_wp2_with fail
  refine HE.out.mono ?_
  rintro e w1 ⟨rfl, hb1⟩
  go_wp2_with fail
  go_ret
  exact ⟨rfl, hb1⟩
end Go.Proofs.YtohalocbghhenaaGreatDoor
/- The law of equal sources: for every two strings. -/
namespace Go.Proofs.YtohalocbghhenaaGreatDoor
open Go.RowKit

theorem rparl_any (s : ByteArray) (hs : s.size ≤ 65536) (w : World) : Calls Tryz.prog 26 #[.string s] w (PrlPost w (parS s)) :=
  (rparse_any s hs w).mono fun e w' h => by
    obtain ⟨v, vs, rfl, ho, hr, hb⟩ := h
    obtain ⟨a, b, cap, hv, sl⟩ := slC_own ho (hr.mono fun x hx => hx.1) (fun x hx => (ho.lt x hx).1)
    obtain ⟨a', cap', hv', hz⟩ := own_form2 ho
    rw [hv] at hv'
    simp only [Value.slice.injEq, true_and] at hv'
    obtain ⟨rfl, rfl⟩ := hv'
    exact ⟨a, b, cap, by rw [hv], sl.here, hb, hz⟩
theorem eql_comm (a b : ByteArray) : eqlS b a = eqlS a b := by
  unfold eqlS
  cases (parS a).2.1 == 0 <;> cases (parS b).2.1 == 0 <;> simp [eq_comm]
/-- equal canonical sources are those of the same entries -/
theorem lin_inj {c d : Cls} (hc : checkS c = 0) (hd : checkS d = 0) (hlc : (linS c 0).length ≤ 65536) (hld : (linS d 0).length ≤ 65536) : decide (bs (linS c 0) = bs (linS d 0)) = decide (c.zero = d.zero) := by
  by_cases h : c.zero = d.zero
  · rw [decide_eq_true h, decide_eq_true (by rw [lin_same h])]
  · rw [decide_eq_false h, decide_eq_false]
    intro e
    obtain ⟨_, h1, _⟩ := lin_again hc hlc
    obtain ⟨_, h2, _⟩ := lin_again hd hld
    rw [e] at h1
    exact h (h1.symm.trans h2)
set_option maxHeartbeats 4000000 in
set_option maxRecDepth 100000 in
theorem equal_walk (a b : ByteArray) (ha : a.size ≤ 9223372036854775807) (hb : b.size ≤ 9223372036854775807) (w : World) (hT : Tabs w) : Calls Tryz.prog 7 #[.string a, .string b] w fun e w' => e = .returned (.bool true) ∧ Below w.heap.size w w' := by
  have HA := Lib.hid (awake_any w hT)
  have HT := Lib.hid hT
  clear hT
  by_cases h1 : 1500 < a.size
  · have k1 : decide ((a.size : Int) > 1500) = true := decide_eq_true (by omega)
    go_enter Tryz.func7, Tryz.ntmps7
    go_wp2_with fail
    refine HA.out.mono ?_
    rintro e w1 ⟨rfl, hb1⟩
    go_wp2_with fail
    go_ret
    exact ⟨rfl, hb1⟩
  by_cases h2 : 1500 < b.size
  · have k1 : decide ((a.size : Int) > 1500) = false := decide_eq_false (by omega)
    have k2 : decide ((b.size : Int) > 1500) = true := decide_eq_true (by omega)
    go_enter Tryz.func7, Tryz.ntmps7
    go_wp2_with fail
    refine HA.out.mono ?_
    rintro e w1 ⟨rfl, hb1⟩
    go_wp2_with fail
    go_ret
    exact ⟨rfl, hb1⟩
  have k1 : decide ((a.size : Int) > 1500) = false := decide_eq_false (by omega)
  have k2 : decide ((b.size : Int) > 1500) = false := decide_eq_false (by omega)
  have hsa : a.size ≤ 1500 := by omega
  have hsb : b.size ≤ 1500 := by omega
  clear ha hb h1 h2
  have HP := Lib.hid (fun W => rparl_any a (by omega) W)
  have HQ := Lib.hid (fun W => rparl_any b (by omega) W)
  have HE := Lib.hid (fun W hW => equal_any a b W hW)
  have HF := Lib.hid (fun W hW => equal_any b a W hW)
  rw [eql_comm a b] at HF
  have HN := Lib.hid (fun W hW => norm_any a W hW)
  have HM := Lib.hid (fun W hW => norm_any b W hW)
  have HEQ := Lib.hid (show eqlS a b = ((parS a).2.1 == 0 && ((parS b).2.1 == 0 && decide ((parS a).1.zero = (parS b).1.zero))) from rfl)
  have HPC := Lib.hid (parS_count a)
  have HQC := Lib.hid (parS_count b)
  have HSM := Lib.hid (fun W F G x x' y y' z z' (h : SlC W F x y 0 (parS a).1.len z (parS a).1) (h' : SlC W G x' y' 0 (parS b).1.len z' (parS b).1) => rSame_any (parS a).1 (parS b).1 (by have := HPC.out; omega) (by have := HQC.out; have := kidsN_le (parS b).1 0; omega) W F G x x' y 0 z y' 0 z' h h')
  have HGA := Lib.hid (fun (h : (parS a).2.1 = 0) => nrm_good hsa h)
  have HGB := Lib.hid (fun (h : (parS b).2.1 = 0) => nrm_good hsb h)
  have HLI := Lib.hid (fun (h : (parS a).2.1 = 0) (h' : (parS b).2.1 = 0) => lin_inj (parS_room h).2.2.2.2.2 (parS_room h').2.2.2.2.2 (parS_lin a hsa h).2.2 (parS_lin b hsb h').2.2)
  have HZA := Lib.hid (@parS_good a)
  have HZB := Lib.hid (@parS_good b)
  clear HPC HQC
  unfold PrlPost fV at HP HQ
  unfold fV at HN HM
  generalize eqlS a b = R at *
  obtain ⟨N1, hN1⟩ : ∃ N1, nrmS a = N1 := ⟨_, rfl⟩
  obtain ⟨N2, hN2⟩ : ∃ N2, nrmS b = N2 := ⟨_, rfl⟩
  rw [hN1] at HN HGA
  rw [hN2] at HM HGB
  clear hN1 hN2
  generalize parS a = P at *
  generalize parS b = Q at *
  obtain ⟨c, pc, pa⟩ := P
  obtain ⟨d, qc, qa⟩ := Q
  simp only at HP HQ HEQ HSM HGA HGB HLI HZA HZB
  generalize decide (c.zero = d.zero) = r at *
  generalize hcn : c.len = n at *
  generalize hdn : d.len = m at *
  by_cases hp : pc = 0
  · subst hp
    have hza := HZA.out rfl
    simp only [Prod.mk.injEq, true_and] at hza
    subst hza
    by_cases hq : qc = 0
    · subst hq
      have hzb := HZB.out rfl
      simp only [Prod.mk.injEq, true_and] at hzb
      subst hzb
      have hR := HEQ.out
      simp only [beq_self_eq_true, Bool.true_and] at hR
      subst hR
      obtain ⟨na, _⟩ := HGA.out rfl
      obtain ⟨nb, _⟩ := HGB.out rfl
      have hli := HLI.out rfl rfl
      subst na nb
      simp only at HN HM
      generalize bs (linS c 0) = S1 at *
      generalize bs (linS d 0) = S2 at *
      have hst : (S1.toList == S2.toList) = R := by rw [str_beq, hli]
      clear HEQ HGA HGB HLI HZA HZB hli
      go_enter Tryz.func7, Tryz.ntmps7
      go_wp2_with fail
      refine HA.out.mono ?_
      rintro e w1 ⟨rfl, hb1⟩
      have HB1 := Lib.hid hb1
      clear hb1 HA
      go_wp2_with fail
      refine (HP.out _).mono ?_
      rintro e w2 ⟨a2, b2, cap2, rfl, sl2, hb2, _⟩
      have HB2 := Lib.hid (HB1.out.trans (Below.mono hb2 HB1.out.size))
      have HL2 := Lib.hid (SlC.mono (G := fun y => y < w2.heap.size) (fun y hy => hy.2) sl2)
      have hs2 := HB2.out.size
      clear sl2 hb2 HB1 HP
      have HB3 := Lib.hid (HB2.out.alloc hs2 (.cells #[.int .i64 0, .int .i64 0] 40))
      have HW3 := Lib.hid ((Below.refl w2.heap.size w2).alloc (Nat.le_refl _) (.cells #[.int .i64 0, .int .i64 0] 40))
      have HF3 := Lib.hid (ft_new w2 0 0 40)
      clear HB2
      go_wp2_with fail
      refine (HQ.out _).mono ?_
      rintro e w4 ⟨a4, b4, cap4, rfl, sl4, hb4, _⟩
      have HB4 := Lib.hid (HB3.out.trans (Below.mono hb4 HB3.out.size))
      have HW4 := Lib.hid (HW3.out.trans (Below.mono hb4 HW3.out.size))
      have HF4 := Lib.hid (HF3.out.keep hb4)
      have HL4 := Lib.hid (SlC.mono (G := fun y => y < w4.heap.size) (fun y hy => hy.2) sl4)
      have hs4 := HB4.out.size
      have hs4b := HW4.out.size
      clear sl4 hb4 HB3 HW3 HF3 HQ
      have HB5 := Lib.hid (HB4.out.alloc hs4 (.cells #[.int .i64 0, .int .i64 0] 40))
      have HW5 := Lib.hid (HW4.out.alloc hs4b (.cells #[.int .i64 0, .int .i64 0] 40))
      have HV5 := Lib.hid ((Below.refl w4.heap.size w4).alloc (Nat.le_refl _) (.cells #[.int .i64 0, .int .i64 0] 40))
      have HF5 := Lib.hid (HF4.out.keep ((Below.refl _ _).alloc (Nat.le_refl _) (.cells #[.int .i64 0, .int .i64 0] 40)))
      have HG5 := Lib.hid (ft_new w4 0 0 40)
      obtain ⟨f0, f1, ff, fl⟩ := HF5.out
      obtain ⟨g0, g1, gf, gl⟩ := HG5.out
      clear HB4 HW4 HF4
      have HS := Lib.hid (HSM.out _ _ _ _ _ _ _ _ _ (HL2.out.low (fun x hx => hx) HW5.out) (HL4.out.low (fun x hx => hx) HV5.out))
      clear HSM
      go_wp2_with fail
      clear f0 f1 ff fl g0 g1 gf gl
      refine HS.out.mono ?_
      rintro e w6 ⟨rfl, hb6⟩
      have HB6 := Lib.hid (HB5.out.trans (Below.mono hb6 HB5.out.size))
      have HF6 := Lib.hid (HF5.out.keep hb6)
      have HG6 := Lib.hid (HG5.out.keep hb6)
      clear hb6 HB5 HW5 HV5 HF5 HG5 HS
      go_wp2_with fail
      refine (HE.out _ (HT.out.below HB6.out)).mono ?_
      rintro e w7 ⟨rfl, hb7⟩
      have HB7 := Lib.hid (HB6.out.trans (Below.mono hb7 HB6.out.size))
      have HF7 := Lib.hid (HF6.out.keep hb7)
      have HG7 := Lib.hid (HG6.out.keep hb7)
      clear hb7 HE HB6 HF6 HG6
      go_wp2_with fail
      refine (HF.out _ (HT.out.below HB7.out)).mono ?_
      rintro e w8 ⟨rfl, hb8⟩
      have HB8 := Lib.hid (HB7.out.trans (Below.mono hb8 HB7.out.size))
      have HF8 := Lib.hid (HF7.out.keep hb8)
      have HG8 := Lib.hid (HG7.out.keep hb8)
      clear hb8 HF HB7 HF7 HG7
      go_wp2_with fail
      refine (HN.out _ (HT.out.below HB8.out)).mono ?_
      rintro e w9 ⟨rfl, hb9⟩
      have HB9 := Lib.hid (HB8.out.trans (Below.mono hb9 HB8.out.size))
      have HF9 := Lib.hid (HF8.out.keep hb9)
      have HG9 := Lib.hid (HG8.out.keep hb9)
      have hs9 := HB9.out.size
      clear hb9 HN HB8 HF8 HG8
      have HBa := Lib.hid (HB9.out.alloc hs9 (.cells #[.int .i64 0, .int .i64 0] 40))
      have HFa := Lib.hid (HF9.out.keep ((Below.refl _ _).alloc (Nat.le_refl _) (.cells #[.int .i64 0, .int .i64 0] 40)))
      have HGa := Lib.hid (HG9.out.keep ((Below.refl _ _).alloc (Nat.le_refl _) (.cells #[.int .i64 0, .int .i64 0] 40)))
      have HHa := Lib.hid (ft_new w9 0 0 40)
      clear HB9 HF9 HG9
      go_wp2_with fail
      refine (HM.out _ (HT.out.below HBa.out)).mono ?_
      rintro e wb ⟨rfl, hbb⟩
      have HBb := Lib.hid (HBa.out.trans (Below.mono hbb HBa.out.size))
      have HFb := Lib.hid (HFa.out.keep hbb)
      have HGb := Lib.hid (HGa.out.keep hbb)
      have HHb := Lib.hid (HHa.out.keep hbb)
      have hsb2 := HBb.out.size
      clear hbb HM HBa HFa HGa HHa
      have HBc := Lib.hid (HBb.out.alloc hsb2 (.cells #[.int .i64 0, .int .i64 0] 40))
      have HFc := Lib.hid (HFb.out.keep ((Below.refl _ _).alloc (Nat.le_refl _) (.cells #[.int .i64 0, .int .i64 0] 40)))
      have HGc := Lib.hid (HGb.out.keep ((Below.refl _ _).alloc (Nat.le_refl _) (.cells #[.int .i64 0, .int .i64 0] 40)))
      have HHc := Lib.hid (HHb.out.keep ((Below.refl _ _).alloc (Nat.le_refl _) (.cells #[.int .i64 0, .int .i64 0] 40)))
      have HIc := Lib.hid (ft_new wb 0 0 40)
      obtain ⟨f0, f1, ff, fl⟩ := HFc.out
      obtain ⟨g0, g1, gf, gl⟩ := HGc.out
      obtain ⟨h0, h1, hf, hl⟩ := HHc.out
      obtain ⟨i0, i1, i2, il⟩ := HIc.out
      go_wp2_with fail
      go_ret
      exact ⟨by first | rfl | simp, HBc.out⟩
    · have q0 : (qc == 0) = false := by simpa using hq
      have q1 : (qc != 0) = true := by simpa using hq
      have hR := HEQ.out
      rw [q0] at hR
      simp only [beq_self_eq_true, Bool.true_and, Bool.false_and] at hR
      subst hR
      obtain ⟨s1, n1, n2⟩ := N1
      obtain ⟨s2, m1, m2⟩ := N2
      simp only at HN HM
      generalize bs s1 = S1 at *
      generalize bs s2 = S2 at *
      clear HEQ HGA HGB HLI HZA HZB
      go_enter Tryz.func7, Tryz.ntmps7
      go_wp2_with fail
      refine HA.out.mono ?_
      rintro e w1 ⟨rfl, hb1⟩
      have HB1 := Lib.hid hb1
      clear hb1 HA
      go_wp2_with fail
      refine (HP.out _).mono ?_
      rintro e w2 ⟨a2, b2, cap2, rfl, sl2, hb2, _⟩
      have HB2 := Lib.hid (HB1.out.trans (Below.mono hb2 HB1.out.size))
      have HL2 := Lib.hid (SlC.mono (G := fun y => y < w2.heap.size) (fun y hy => hy.2) sl2)
      have hs2 := HB2.out.size
      clear sl2 hb2 HB1 HP
      have HB3 := Lib.hid (HB2.out.alloc hs2 (.cells #[.int .i64 0, .int .i64 0] 40))
      have HW3 := Lib.hid ((Below.refl w2.heap.size w2).alloc (Nat.le_refl _) (.cells #[.int .i64 0, .int .i64 0] 40))
      have HF3 := Lib.hid (ft_new w2 0 0 40)
      clear HB2
      go_wp2_with fail
      refine (HQ.out _).mono ?_
      rintro e w4 ⟨a4, b4, cap4, rfl, sl4, hb4, _⟩
      have HB4 := Lib.hid (HB3.out.trans (Below.mono hb4 HB3.out.size))
      have HW4 := Lib.hid (HW3.out.trans (Below.mono hb4 HW3.out.size))
      have HF4 := Lib.hid (HF3.out.keep hb4)
      have HL4 := Lib.hid (SlC.mono (G := fun y => y < w4.heap.size) (fun y hy => hy.2) sl4)
      have hs4 := HB4.out.size
      have hs4b := HW4.out.size
      clear sl4 hb4 HB3 HW3 HF3 HQ
      have HB5 := Lib.hid (HB4.out.alloc hs4 (.cells #[.int .i64 qc, .int .i64 qa] 40))
      have HW5 := Lib.hid (HW4.out.alloc hs4b (.cells #[.int .i64 qc, .int .i64 qa] 40))
      have HV5 := Lib.hid ((Below.refl w4.heap.size w4).alloc (Nat.le_refl _) (.cells #[.int .i64 qc, .int .i64 qa] 40))
      have HF5 := Lib.hid (HF4.out.keep ((Below.refl _ _).alloc (Nat.le_refl _) (.cells #[.int .i64 qc, .int .i64 qa] 40)))
      have HG5 := Lib.hid (ft_new w4 qc qa 40)
      obtain ⟨f0, f1, ff, fl⟩ := HF5.out
      obtain ⟨g0, g1, gf, gl⟩ := HG5.out
      clear HB4 HW4 HF4
      clear HSM
      go_wp2_with fail
      clear f0 f1 ff fl g0 g1 gf gl
      refine (HE.out _ (HT.out.below HB5.out)).mono ?_
      rintro e w7 ⟨rfl, hb7⟩
      have HB7 := Lib.hid (HB5.out.trans (Below.mono hb7 HB5.out.size))
      have HF7 := Lib.hid (HF5.out.keep hb7)
      have HG7 := Lib.hid (HG5.out.keep hb7)
      clear hb7 HE HB5 HF5 HG5
      go_wp2_with fail
      refine (HF.out _ (HT.out.below HB7.out)).mono ?_
      rintro e w8 ⟨rfl, hb8⟩
      have HB8 := Lib.hid (HB7.out.trans (Below.mono hb8 HB7.out.size))
      have HF8 := Lib.hid (HF7.out.keep hb8)
      have HG8 := Lib.hid (HG7.out.keep hb8)
      clear hb8 HF HB7 HF7 HG7
      go_wp2_with fail
      refine (HN.out _ (HT.out.below HB8.out)).mono ?_
      rintro e w9 ⟨rfl, hb9⟩
      have HB9 := Lib.hid (HB8.out.trans (Below.mono hb9 HB8.out.size))
      have HF9 := Lib.hid (HF8.out.keep hb9)
      have HG9 := Lib.hid (HG8.out.keep hb9)
      have hs9 := HB9.out.size
      clear hb9 HN HB8 HF8 HG8
      have HBa := Lib.hid (HB9.out.alloc hs9 (.cells #[.int .i64 n1, .int .i64 n2] 40))
      have HFa := Lib.hid (HF9.out.keep ((Below.refl _ _).alloc (Nat.le_refl _) (.cells #[.int .i64 n1, .int .i64 n2] 40)))
      have HGa := Lib.hid (HG9.out.keep ((Below.refl _ _).alloc (Nat.le_refl _) (.cells #[.int .i64 n1, .int .i64 n2] 40)))
      have HHa := Lib.hid (ft_new w9 n1 n2 40)
      clear HB9 HF9 HG9
      go_wp2_with fail
      refine (HM.out _ (HT.out.below HBa.out)).mono ?_
      rintro e wb ⟨rfl, hbb⟩
      have HBb := Lib.hid (HBa.out.trans (Below.mono hbb HBa.out.size))
      have HFb := Lib.hid (HFa.out.keep hbb)
      have HGb := Lib.hid (HGa.out.keep hbb)
      have HHb := Lib.hid (HHa.out.keep hbb)
      have hsb2 := HBb.out.size
      clear hbb HM HBa HFa HGa HHa
      have HBc := Lib.hid (HBb.out.alloc hsb2 (.cells #[.int .i64 m1, .int .i64 m2] 40))
      have HFc := Lib.hid (HFb.out.keep ((Below.refl _ _).alloc (Nat.le_refl _) (.cells #[.int .i64 m1, .int .i64 m2] 40)))
      have HGc := Lib.hid (HGb.out.keep ((Below.refl _ _).alloc (Nat.le_refl _) (.cells #[.int .i64 m1, .int .i64 m2] 40)))
      have HHc := Lib.hid (HHb.out.keep ((Below.refl _ _).alloc (Nat.le_refl _) (.cells #[.int .i64 m1, .int .i64 m2] 40)))
      have HIc := Lib.hid (ft_new wb m1 m2 40)
      obtain ⟨f0, f1, ff, fl⟩ := HFc.out
      obtain ⟨g0, g1, gf, gl⟩ := HGc.out
      obtain ⟨h0, h1, hf, hl⟩ := HHc.out
      obtain ⟨i0, i1, i2, il⟩ := HIc.out
      go_wp2_with fail
      go_ret
      exact ⟨by first | rfl | simp, HBc.out⟩
  · have q0 : (pc == 0) = false := by simpa using hp
    have q1 : (pc != 0) = true := by simpa using hp
    have hR := HEQ.out
    rw [q0] at hR
    simp only [Bool.false_and] at hR
    subst hR
    obtain ⟨s1, n1, n2⟩ := N1
    obtain ⟨s2, m1, m2⟩ := N2
    simp only at HN HM
    generalize bs s1 = S1 at *
    generalize bs s2 = S2 at *
    clear HEQ HGA HGB HLI HZA HZB
    go_enter Tryz.func7, Tryz.ntmps7
    go_wp2_with fail
    refine HA.out.mono ?_
    rintro e w1 ⟨rfl, hb1⟩
    have HB1 := Lib.hid hb1
    clear hb1 HA
    go_wp2_with fail
    refine (HP.out _).mono ?_
    rintro e w2 ⟨a2, b2, cap2, rfl, sl2, hb2, _⟩
    have HB2 := Lib.hid (HB1.out.trans (Below.mono hb2 HB1.out.size))
    have HL2 := Lib.hid (SlC.mono (G := fun y => y < w2.heap.size) (fun y hy => hy.2) sl2)
    have hs2 := HB2.out.size
    clear sl2 hb2 HB1 HP
    have HB3 := Lib.hid (HB2.out.alloc hs2 (.cells #[.int .i64 pc, .int .i64 pa] 40))
    have HW3 := Lib.hid ((Below.refl w2.heap.size w2).alloc (Nat.le_refl _) (.cells #[.int .i64 pc, .int .i64 pa] 40))
    have HF3 := Lib.hid (ft_new w2 pc pa 40)
    clear HB2
    go_wp2_with fail
    refine (HQ.out _).mono ?_
    rintro e w4 ⟨a4, b4, cap4, rfl, sl4, hb4, _⟩
    have HB4 := Lib.hid (HB3.out.trans (Below.mono hb4 HB3.out.size))
    have HW4 := Lib.hid (HW3.out.trans (Below.mono hb4 HW3.out.size))
    have HF4 := Lib.hid (HF3.out.keep hb4)
    have HL4 := Lib.hid (SlC.mono (G := fun y => y < w4.heap.size) (fun y hy => hy.2) sl4)
    have hs4 := HB4.out.size
    have hs4b := HW4.out.size
    clear sl4 hb4 HB3 HW3 HF3 HQ
    have HB5 := Lib.hid (HB4.out.alloc hs4 (.cells #[.int .i64 qc, .int .i64 qa] 40))
    have HW5 := Lib.hid (HW4.out.alloc hs4b (.cells #[.int .i64 qc, .int .i64 qa] 40))
    have HV5 := Lib.hid ((Below.refl w4.heap.size w4).alloc (Nat.le_refl _) (.cells #[.int .i64 qc, .int .i64 qa] 40))
    have HF5 := Lib.hid (HF4.out.keep ((Below.refl _ _).alloc (Nat.le_refl _) (.cells #[.int .i64 qc, .int .i64 qa] 40)))
    have HG5 := Lib.hid (ft_new w4 qc qa 40)
    obtain ⟨f0, f1, ff, fl⟩ := HF5.out
    obtain ⟨g0, g1, gf, gl⟩ := HG5.out
    clear HB4 HW4 HF4
    clear HSM
    go_wp2_with fail
    clear f0 f1 ff fl g0 g1 gf gl
    refine (HE.out _ (HT.out.below HB5.out)).mono ?_
    rintro e w7 ⟨rfl, hb7⟩
    have HB7 := Lib.hid (HB5.out.trans (Below.mono hb7 HB5.out.size))
    have HF7 := Lib.hid (HF5.out.keep hb7)
    have HG7 := Lib.hid (HG5.out.keep hb7)
    clear hb7 HE HB5 HF5 HG5
    go_wp2_with fail
    refine (HF.out _ (HT.out.below HB7.out)).mono ?_
    rintro e w8 ⟨rfl, hb8⟩
    have HB8 := Lib.hid (HB7.out.trans (Below.mono hb8 HB7.out.size))
    have HF8 := Lib.hid (HF7.out.keep hb8)
    have HG8 := Lib.hid (HG7.out.keep hb8)
    clear hb8 HF HB7 HF7 HG7
    go_wp2_with fail
    refine (HN.out _ (HT.out.below HB8.out)).mono ?_
    rintro e w9 ⟨rfl, hb9⟩
    have HB9 := Lib.hid (HB8.out.trans (Below.mono hb9 HB8.out.size))
    have HF9 := Lib.hid (HF8.out.keep hb9)
    have HG9 := Lib.hid (HG8.out.keep hb9)
    have hs9 := HB9.out.size
    clear hb9 HN HB8 HF8 HG8
    have HBa := Lib.hid (HB9.out.alloc hs9 (.cells #[.int .i64 n1, .int .i64 n2] 40))
    have HFa := Lib.hid (HF9.out.keep ((Below.refl _ _).alloc (Nat.le_refl _) (.cells #[.int .i64 n1, .int .i64 n2] 40)))
    have HGa := Lib.hid (HG9.out.keep ((Below.refl _ _).alloc (Nat.le_refl _) (.cells #[.int .i64 n1, .int .i64 n2] 40)))
    have HHa := Lib.hid (ft_new w9 n1 n2 40)
    clear HB9 HF9 HG9
    go_wp2_with fail
    refine (HM.out _ (HT.out.below HBa.out)).mono ?_
    rintro e wb ⟨rfl, hbb⟩
    have HBb := Lib.hid (HBa.out.trans (Below.mono hbb HBa.out.size))
    have HFb := Lib.hid (HFa.out.keep hbb)
    have HGb := Lib.hid (HGa.out.keep hbb)
    have HHb := Lib.hid (HHa.out.keep hbb)
    have hsb2 := HBb.out.size
    clear hbb HM HBa HFa HGa HHa
    have HBc := Lib.hid (HBb.out.alloc hsb2 (.cells #[.int .i64 m1, .int .i64 m2] 40))
    have HFc := Lib.hid (HFb.out.keep ((Below.refl _ _).alloc (Nat.le_refl _) (.cells #[.int .i64 m1, .int .i64 m2] 40)))
    have HGc := Lib.hid (HGb.out.keep ((Below.refl _ _).alloc (Nat.le_refl _) (.cells #[.int .i64 m1, .int .i64 m2] 40)))
    have HHc := Lib.hid (HHb.out.keep ((Below.refl _ _).alloc (Nat.le_refl _) (.cells #[.int .i64 m1, .int .i64 m2] 40)))
    have HIc := Lib.hid (ft_new wb m1 m2 40)
    obtain ⟨f0, f1, ff, fl⟩ := HFc.out
    obtain ⟨g0, g1, gf, gl⟩ := HGc.out
    obtain ⟨h0, h1, hf, hl⟩ := HHc.out
    obtain ⟨i0, i1, i2, il⟩ := HIc.out
    go_wp2_with fail
    go_ret
    exact ⟨by first | rfl | simp, HBc.out⟩
end Go.Proofs.YtohalocbghhenaaGreatDoor
