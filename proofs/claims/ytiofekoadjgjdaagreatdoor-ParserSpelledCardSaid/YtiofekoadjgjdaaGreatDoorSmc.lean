/- Contracts of layer 10: Same. -/
import Derived.Test.YtiofekoadjgjdaaGreatDoorSme
import Derived.Test.YtiofekoadjgjdaaGreatDoorWf
set_option linter.unusedSimpArgs false
set_option linter.unusedVariables false
namespace Go.Proofs.YtiofekoadjgjdaaGreatDoor
open Go.RowKit

theorem zero_drop : ∀ (c : Cls) (i : Nat) {wd : ByteArray} {xs : List Tk} {bl : Bool} {k : Cls} {a : Int} {r : Cls}, c.drop i = .cons wd xs bl k a r → c.zero.drop i = .cons wd (xs.map zeroA) bl k.zero 0 r.zero
  | .nil, 0, _, _, _, _, _, _, h => by simp [Cls.drop] at h
  | .nil, _ + 1, _, _, _, _, _, _, h => by simp [Cls.drop] at h
  | .cons _ _ _ _ _ _, 0, _, _, _, _, _, _, h => by
    simp only [Cls.drop, Cls.cons.injEq] at h
    obtain ⟨rfl, rfl, rfl, rfl, rfl, rfl⟩ := h
    rfl
  | .cons w' xs' b' k' a' r', i + 1, _, _, _, _, _, _, h => zero_drop r' i h
theorem take_step : ∀ (c d : Cls) (i : Nat) {wd : ByteArray} {xs : List Tk} {bl : Bool} {k : Cls} {a : Int} {r r' : Cls}, c.take i = d.take i → c.drop i = .cons wd xs bl k a r → d.drop i = .cons wd xs bl k a r' → c.take (i + 1) = d.take (i + 1)
  | .nil, _, 0, _, _, _, _, _, _, _, _, h, _ => by simp [Cls.drop] at h
  | .nil, _, _ + 1, _, _, _, _, _, _, _, _, h, _ => by simp [Cls.drop] at h
  | .cons _ _ _ _ _ _, .nil, 0, _, _, _, _, _, _, _, _, _, h => by simp [Cls.drop] at h
  | .cons _ _ _ _ _ _, .nil, _ + 1, _, _, _, _, _, _, _, _, _, h => by simp [Cls.drop] at h
  | .cons _ _ _ _ _ r1, .cons _ _ _ _ _ r2, 0, _, _, _, _, _, _, _, _, h1, h2 => by
    simp only [Cls.drop, Cls.cons.injEq] at h1 h2
    obtain ⟨rfl, rfl, rfl, rfl, rfl, rfl⟩ := h1
    obtain ⟨rfl, rfl, rfl, rfl, rfl, rfl⟩ := h2
    cases r1 <;> cases r2 <;> rfl
  | .cons _ _ _ _ _ r1, .cons _ _ _ _ _ r2, i + 1, _, _, _, _, _, _, _, h, h1, h2 => by
    simp only [Cls.take, Cls.cons.injEq] at h
    obtain ⟨rfl, rfl, rfl, rfl, rfl, h⟩ := h
    have := take_step r1 r2 i h h1 h2
    rw [Cls.take, Cls.take, this]
theorem zero_len : ∀ (c : Cls), c.zero.len = c.len
  | .nil => rfl
  | .cons _ _ _ _ _ r => by simp only [Cls.zero, Cls.len, zero_len r]
/-- are two entries the same -/
def smB (wd wd' : ByteArray) (xs xs' : List Tk) (bl bl' : Bool) (k k' : Cls) : Bool := decide (wd = wd') && (bl == bl') && decide (xs.map zeroA = xs'.map zeroA) && decide (k.zero = k'.zero)
theorem sm_step (c d : Cls) (i : Nat) {wd wd' : ByteArray} {xs xs' : List Tk} {bl bl' : Bool} {k k' : Cls} {a a' : Int} {r r' : Cls} (h : c.zero.take i = d.zero.take i) (h1 : c.drop i = .cons wd xs bl k a r) (h2 : d.drop i = .cons wd' xs' bl' k' a' r') (hs : smB wd wd' xs xs' bl bl' k k' = true) : c.zero.take (i + 1) = d.zero.take (i + 1) := by
  have e1 := zero_drop c i h1
  have e2 := zero_drop d i h2
  unfold smB at hs
  simp only [Bool.and_eq_true, decide_eq_true_eq, beq_iff_eq] at hs
  obtain ⟨⟨⟨rfl, rfl⟩, hx⟩, hk⟩ := hs
  rw [← hx, ← hk] at e2
  exact take_step c.zero d.zero i h e1 e2
theorem sm_ne (c d : Cls) (i : Nat) {wd wd' : ByteArray} {xs xs' : List Tk} {bl bl' : Bool} {k k' : Cls} {a a' : Int} {r r' : Cls} (h1 : c.drop i = .cons wd xs bl k a r) (h2 : d.drop i = .cons wd' xs' bl' k' a' r') (hs : smB wd wd' xs xs' bl bl' k k' = false) : c.zero ≠ d.zero := by
  intro e
  have e1 := zero_drop c i h1
  have e2 := zero_drop d i h2
  rw [e, e2] at e1
  simp only [Cls.cons.injEq] at e1
  obtain ⟨rfl, hx, rfl, hk, _⟩ := e1
  unfold smB at hs
  rw [decide_eq_true rfl, decide_eq_true hx.symm, decide_eq_true hk.symm] at hs
  simp at hs
def SmC (n : Nat) : Prop := ∀ (c d : Cls), c.count < n → d.len ≤ 9223372036854775807 → ∀ (w : World) (F G : Nat → Prop) (a a' : Option Addr) (b o cap b' o' cap' : Nat), SlC w F a b o c.len cap c → SlC w G a' b' o' d.len cap' d →
    Calls Tryz.prog 13 #[.slice a c.len cap, .slice a' d.len cap'] w fun e w' => e = .returned (.bool (decide (c.zero = d.zero))) ∧ Below w.heap.size w w'
theorem lenC_max {w : World} {F : Nat → Prop} {a : Option Addr} {b o cap : Nat} {c : Cls} (h : SlC w F a b o c.len cap c) : c.len ≤ maxLen := Nat.le_trans h.2.1 h.2.2.1
set_option maxHeartbeats 4000000 in
set_option maxRecDepth 100000 in
theorem sm1_any (n : Nat) (hn : n ≤ 4611686018427387904) (IH : Hid (SmC n)) (wd wd' : ByteArray) (xs xs' : List Tk) (bl bl' : Bool) (k k' : Cls) (av av' : Int) (hk : k.count < n) (hk' : k'.len ≤ 9223372036854775807) (w : World) (F G : Nat → Prop) (aa ak aa' ak' : Option Addr) (ba oa la ca bk ok ck ba' oa' la' ca' bk' ok' ck' : Nat)
    (hx : SlT w aa ba oa la ca xs) (hc : SlC w F ak bk ok k.len ck k) (hx' : SlT w aa' ba' oa' la' ca' xs') (hc' : SlC w G ak' bk' ok' k'.len ck' k') :
    Calls Tryz.prog 26 #[.agg #[.string wd, .slice aa la ca, .bool bl, .slice ak k.len ck, .int .i64 av], .agg #[.string wd', .slice aa' la' ca', .bool bl', .slice ak' k'.len ck', .int .i64 av']] w fun e w' => e = .returned (.bool (smB wd wd' xs xs' bl bl' k k')) ∧ Below w.heap.size w w' := by
  have HC := Lib.hid (fun W (h : SlT W aa ba oa la ca xs) (h' : SlT W aa' ba' oa' la' ca' xs') => eqT_any h h')
  have HS := Lib.hid (fun W (h : SlC W (fun x => F x ∧ x < w.heap.size) ak bk ok k.len ck k) (h' : SlC W (fun x => G x ∧ x < w.heap.size) ak' bk' ok' k'.len ck' k') => IH.out k k' hk hk' W _ _ _ _ _ _ _ _ _ _ h h')
  have HX := Lib.hid hx
  have HX' := Lib.hid hx'
  have HK := Lib.hid hc.here
  have HK' := Lib.hid hc'.here
  obtain ⟨r, hr⟩ : ∃ r, smB wd wd' xs xs' bl bl' k k' = r := ⟨_, rfl⟩
  rw [hr]
  unfold smB at hr
  have HR := Lib.hid hr
  clear hx hc hx' hc' IH hr
  generalize decide (xs.map zeroA = xs'.map zeroA) = p at *
  generalize decide (k.zero = k'.zero) = q at *
  have HB := Lib.hid (show Below w.heap.size w ((w.alloc (.cells #[.string wd, .slice aa la ca, .bool bl, .slice ak k.len ck, .int .i64 av] 41)).alloc (.cells #[.string wd', .slice aa' la' ca', .bool bl', .slice ak' k'.len ck', .int .i64 av'] 41)) from (by repeat (first | with_reducible exact Below.refl _ _ | (with_reducible refine Below.setCell ?_ (by first | exact Nat.le_refl _ | omega | (simp; done) | (simp; omega)) _) | (with_reducible refine Below.alloc ?_ (by first | exact Nat.le_refl _ | omega | (simp; done) | (simp; omega)) _) | with_reducible refine Below.drew ?_ | with_reducible refine bel_drewN ?_ _ | (with_reducible refine bel_by (by with_reducible assumption) (by first | exact Nat.le_refl _ | omega | (simp; done) | (simp; omega)) ?_))))
  by_cases hw : wd = wd'
  · subst hw
    by_cases hb : bl = bl'
    · subst hb
      go_enter Tryz.func26, Tryz.ntmps26
      go_wp2_with fail
      refine (HC.out _ (HX.out.keep HB.out) (HX'.out.keep HB.out)).mono ?_
      rintro e w1 ⟨rfl, hb1⟩
      have HCA := Lib.hid (((cl_new w wd (.slice aa la ca) (.slice ak k.len ck) bl av 41).keep ((Below.refl _ _).alloc (Nat.le_refl _) (.cells #[.string wd, .slice aa' la' ca', .bool bl, .slice ak' k'.len ck', .int .i64 av'] 41))).keep hb1)
      have HCB := Lib.hid ((cl_new (w.alloc (.cells #[.string wd, .slice aa la ca, .bool bl, .slice ak k.len ck, .int .i64 av] 41)) wd (.slice aa' la' ca') (.slice ak' k'.len ck') bl av' 41).keep hb1)
      simp only [World.size_alloc] at HCB
      have HB1 := Lib.hid (HB.out.trans (Below.mono hb1 HB.out.size))
      clear hb1 HB
      cases p with
      | false =>
        have HQ := Lib.hid (show r = false by rw [← HR.out]; simp)
        clear HR
        go_wp2_with fail
        go_ret
        exact ⟨ret_bool HQ.out.symm, HB1.out⟩
      | true =>
        have HQ := Lib.hid (show q = r by rw [← HR.out]; simp)
        clear HR
        obtain ⟨c0, c1, c2, c3, c4, cf, cl⟩ := HCA.out
        obtain ⟨d0, d1, d2, d3, d4, df, dl⟩ := HCB.out
        go_wp2_with fail
        refine (HS.out _ (HK.out.low (fun x hx => hx.2) HB1.out) (HK'.out.low (fun x hx => hx.2) HB1.out)).mono ?_
        rintro e w2 ⟨rfl, hb2⟩
        have HB2 := Lib.hid (HB1.out.trans (Below.mono hb2 HB1.out.size))
        clear hb2 c0 c1 c2 c3 c4 cf cl d0 d1 d2 d3 d4 df dl
        go_wp2_with fail
        go_ret
        exact ⟨ret_bool HQ.out, HB2.out⟩
    · have HQ := Lib.hid (show r = false by rw [← HR.out]; cases bl <;> cases bl' <;> simp_all)
      have hbw := HB.out
      have hbe : (bl == bl') = false := by cases bl <;> cases bl' <;> simp_all
      clear HR
      go_enter Tryz.func26, Tryz.ntmps26
      go_wp2_with fail
      go_ret
      exact ⟨ret_bool HQ.out.symm, (by repeat (first | with_reducible exact Below.refl _ _ | (with_reducible refine Below.setCell ?_ (by first | exact Nat.le_refl _ | omega | (simp; done) | (simp; omega)) _) | (with_reducible refine Below.alloc ?_ (by first | exact Nat.le_refl _ | omega | (simp; done) | (simp; omega)) _) | with_reducible refine Below.drew ?_ | with_reducible refine bel_drewN ?_ _ | (with_reducible refine bel_by (by with_reducible assumption) (by first | exact Nat.le_refl _ | omega | (simp; done) | (simp; omega)) ?_)))⟩
  · have hwl : ¬ wd.toList = wd'.toList := fun e => hw (bs_inj (by rwa [empty_list, empty_list] at e))
    have HQ := Lib.hid (show r = false by rw [← HR.out, decide_eq_false hw]; rfl)
    have hbw := HB.out
    clear HR hw
    go_enter Tryz.func26, Tryz.ntmps26
    go_wp2_with fail
    go_ret
    exact ⟨ret_bool HQ.out.symm, (by repeat (first | with_reducible exact Below.refl _ _ | (with_reducible refine Below.setCell ?_ (by first | exact Nat.le_refl _ | omega | (simp; done) | (simp; omega)) _) | (with_reducible refine Below.alloc ?_ (by first | exact Nat.le_refl _ | omega | (simp; done) | (simp; omega)) _) | with_reducible refine Below.drew ?_ | with_reducible refine bel_drewN ?_ _ | (with_reducible refine bel_by (by with_reducible assumption) (by first | exact Nat.le_refl _ | omega | (simp; done) | (simp; omega)) ?_)))⟩
set_option maxHeartbeats 4000000 in
set_option maxRecDepth 100000 in
theorem same_any : ∀ n : Nat, n ≤ 4611686018427387904 → SmC n
  | 0, _ => fun _ _ h => absurd h (Nat.not_lt_zero _)
  | n + 1, hn => fun c d hc hdl w F G a a' b o cap b' o' cap' hA hA' => by
    have HG := Lib.hid (fun wd wd' xs xs' bl bl' k k' av av' hk hk' W aa ak aa' ak' ba oa la ca bk ok ck ba' oa' la' ca' bk' ok' ck' hx hc hx' hc' => sm1_any n (by omega) (Lib.hid (same_any n (by omega))) wd wd' xs xs' bl bl' k k' av av' hk hk' W (fun x => F x ∧ x < w.heap.size) (fun x => G x ∧ x < w.heap.size) aa ak aa' ak' ba oa la ca bk ok ck ba' oa' la' ca' bk' ok' ck' hx hc hx' hc')
    have HA := Lib.hid hA.here
    have HA' := Lib.hid hA'.here
    have HM := Lib.hid (fun i wd xs bl k a r => @drop_count c i wd xs bl k a r)
    have HST := Lib.hid (fun i wd wd' xs xs' bl bl' k k' a a' r r' => @sm_step c d i wd wd' xs xs' bl bl' k k' a a' r r')
    have HNE := Lib.hid (fun i wd wd' xs xs' bl bl' k k' a a' r r' => @sm_ne c d i wd wd' xs xs' bl bl' k k' a a' r r')
    have HE := Lib.hid (show c.zero.take c.len = c.zero by have := take_all c.zero; rwa [zero_len] at this)
    have HE' := Lib.hid (show d.zero.take d.len = d.zero by have := take_all d.zero; rwa [zero_len] at this)
    have hlc : c.len ≤ 4611686018427387904 := by have := kidsN_le c 0; omega
    have HNL := Lib.hid (show c.len ≠ d.len → c.zero ≠ d.zero from fun h e => h (by rw [← zero_len c, ← zero_len d, e]))
    obtain ⟨N, hN⟩ : ∃ N, c.count = N := ⟨_, rfl⟩
    obtain ⟨l, hl⟩ : ∃ l, c.len = l := ⟨_, rfl⟩
    obtain ⟨l', hl'⟩ : ∃ l', d.len = l' := ⟨_, rfl⟩
    obtain ⟨r, hr⟩ : ∃ r, decide (c.zero = d.zero) = r := ⟨_, rfl⟩
    rw [hN] at HM hc
    rw [hl] at HA HE HNL hlc ⊢
    rw [hl'] at HA' HE' HNL hdl ⊢
    rw [hr]
    have HLN := Lib.hid hl
    have HLN' := Lib.hid hl'
    have HR := Lib.hid hr
    clear hA hA' hN hl hl' hr
    have HEQ := Lib.hid (show Calls Tryz.prog 25 #[.slice a l cap, .slice a' l' cap', .func (.func 26) #[] #[]] w (fun e w' => e = .returned (.bool r) ∧ Below w.heap.size w w') from by
      by_cases hne : l = l'
      · subst hne
        go_enter Tryz.func25, Tryz.ntmps25
        go_wp2_with fail
        go_loopw [17] (fun s17 wr => ∃ k : Nat, k ≤ l ∧ s17 = .int .i64 (k : Int) ∧ Hid (Below w.heap.size w wr) ∧ Hid (c.zero.take k = d.zero.take k)) (fun s17 _ => (l - (intOf s17)).toNat)
        case atStart => exact ⟨0, Nat.zero_le _, rfl, Lib.hid (Below.refl _ _), Lib.hid (by cases c.zero <;> cases d.zero <;> rfl)⟩
        case round =>
          obtain ⟨k, hk, rfl, HB, HK⟩ := hrel
          by_cases hlt : k < l
          · have hlz : (k : Int) < (l : Int) := by omega
            have SA := HA.out.low (fun x hx => hx.2) HB.out
            have SA' := HA'.out.low (fun x hx => hx.2) HB.out
            obtain ⟨rfl, ba, _⟩ := SA.2.2.2.1 (by omega)
            obtain ⟨rfl, ba', _⟩ := SA'.2.2.2.1 (by omega)
            obtain ⟨wd, xs, bl, kd, av, rest, aa, xb, oa, la, ca, ak, bk, ok, ck, hd, c0, c1, c2, c3, c4, SX, _, SK⟩ := AtC.get k (by rw [HLN.out]; exact hlt) SA.2.2.2.2
            obtain ⟨wd', xs', bl', kd', av', rest', aa', xb', oa', la', ca', ak', bk', ok', ck', hd', d0, d1, d2, d3, d4, SX', _, SK'⟩ := AtC.get k (by rw [HLN'.out]; exact hlt) SA'.2.2.2.2
            have hkc := HM.out _ _ _ _ _ _ _ hd
            have HSX := Lib.hid (HST.out _ _ _ _ _ _ _ _ _ _ _ _ _ HK.out hd hd')
            have HNX := Lib.hid (HNE.out _ _ _ _ _ _ _ _ _ _ _ _ _ hd hd')
            have hkm := lenC_max SK'
            unfold maxLen at hkm
            have HSXX := Lib.hid SX
            have HSXX' := Lib.hid SX'
            have HSKK := Lib.hid SK
            have HSKK' := Lib.hid SK'
            have HCC := Lib.hid (fun W => HG.out wd wd' xs xs' bl bl' kd kd' av av' (by omega) (by omega) W aa ak aa' ak' xb oa la ca bk ok ck xb' oa' la' ca' bk' ok' ck')
            generalize smB wd wd' xs xs' bl bl' kd kd' = q at *
            have hbs := HB.out.size
            have hbw := HB.out
            have HBA := Lib.hid (show Below w.heap.size w ((wr.alloc (.cells #[.string wd, .slice aa la ca, .bool bl, .slice ak kd.len ck, .int .i64 av] 41)).alloc (.cells #[.string wd', .slice aa' la' ca', .bool bl', .slice ak' kd'.len ck', .int .i64 av'] 41)) from (by repeat (first | with_reducible exact Below.refl _ _ | (with_reducible refine Below.setCell ?_ (by first | exact Nat.le_refl _ | omega | (simp; done) | (simp; omega)) _) | (with_reducible refine Below.alloc ?_ (by first | exact Nat.le_refl _ | omega | (simp; done) | (simp; omega)) _) | with_reducible refine Below.drew ?_ | with_reducible refine bel_drewN ?_ _ | (with_reducible refine bel_by (by with_reducible assumption) (by first | exact Nat.le_refl _ | omega | (simp; done) | (simp; omega)) ?_))))
            have HBR := Lib.hid (show Below wr.heap.size wr ((wr.alloc (.cells #[.string wd, .slice aa la ca, .bool bl, .slice ak kd.len ck, .int .i64 av] 41)).alloc (.cells #[.string wd', .slice aa' la' ca', .bool bl', .slice ak' kd'.len ck', .int .i64 av'] 41)) from ((Below.refl _ _).alloc (Nat.le_refl _) _).alloc (by simp) _)
            clear hbw SA SA' SX SX' SK SK' hd hd' HST HNE HM
            go_wp2_with fail
            refine (HCC.out _ (HSXX.out.keep HBR.out) (HSKK.out.low (fun x hx => Nat.lt_of_lt_of_le hx.2 hbs) HBR.out) (HSXX'.out.keep HBR.out) (HSKK'.out.low (fun x hx => Nat.lt_of_lt_of_le hx.2 hbs) HBR.out)).mono ?_
            rintro e w1 ⟨rfl, hb1⟩
            have HB1 := Lib.hid (bel_by hb1 (by simp; omega) HBA.out)
            clear c0 c1 c2 c3 c4 d0 d1 d2 d3 d4 hb1 HBA HBR HCC
            cases q with
            | true =>
              have HS2 := Lib.hid (HSX.out rfl)
              go_wp2_with fail
              go_roundw
              case rel => exact ⟨k + 1, by omega, by go_num, HB1, HS2⟩
              case measure => simp [intOf]; omega
            | false =>
              have HN2 := Lib.hid (HNX.out rfl)
              go_wp2_with fail
              go_ret
              exact ⟨ret_bool (by rw [← HR.out, decide_eq_false HN2.out]), HB1.out⟩
          · have hlz : ¬ (k : Int) < (l : Int) := by omega
            obtain rfl : k = l := by omega
            have HQ := Lib.hid (show c.zero = d.zero by
              have := HK.out
              rwa [HE.out, HE'.out] at this)
            go_wp2_with fail
            go_ret
            exact ⟨ret_bool (by rw [← HR.out, decide_eq_true HQ.out]), HB.out⟩
      · have hn1 : ((l : Int) != (l' : Int)) = true := by simp; omega
        have hn2 : ((l : Int) == (l' : Int)) = false := by simp; omega
        have hn3 : ¬ (l : Int) = (l' : Int) := by omega
        have HQ := Lib.hid (HNL.out hne)
        go_enter Tryz.func25, Tryz.ntmps25
        go_wp2_with fail
        go_ret
        exact ⟨ret_bool (by rw [← HR.out, decide_eq_false HQ.out]), Below.refl _ _⟩)
    go_enter Tryz.func13, Tryz.ntmps13
    go_wp2_with fail
    refine HEQ.out.mono ?_
    rintro e w1 ⟨rfl, hb1⟩
    go_wp2_with fail
    go_ret
    exact ⟨rfl, hb1⟩
end Go.Proofs.YtiofekoadjgjdaaGreatDoor
