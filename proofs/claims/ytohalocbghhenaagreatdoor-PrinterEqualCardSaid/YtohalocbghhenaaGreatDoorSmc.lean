/- Contracts of layer 10: Same. -/
import Derived.Test.YtohalocbghhenaaGreatDoorSign
import Derived.Test.YtohalocbghhenaaGreatDoorDepth
import Derived.Test.YtohalocbghhenaaGreatDoorParZ
import Derived.Test.YtohalocbghhenaaGreatDoorWf
set_option linter.unusedSimpArgs false
set_option linter.unusedVariables false
namespace Go.Proofs.YtohalocbghhenaaGreatDoor
open Go.RowKit

theorem zeroA_mk (k : Int) (t : ByteArray) (n a : Int) : zeroA ⟨k, t, n, a⟩ = ⟨k, t, n, 0⟩ := rfl
theorem zero_same (x y : Tk) : decide (zeroA x = zeroA y) = ((x.k == y.k) && (decide (x.t = y.t) && (x.n == y.n))) := by
  obtain ⟨xk, xt, xn, xa⟩ := x
  obtain ⟨yk, yt, yn, ya⟩ := y
  rw [zeroA_mk, zeroA_mk]
  by_cases h1 : xk = yk <;> by_cases h2 : xt = yt <;> by_cases h3 : xn = yn <;> simp [h1, h2, h3]
set_option maxHeartbeats 4000000 in
set_option maxRecDepth 100000 in
theorem sameAtom_any (x y : Tk) (w : World) : Calls Tryz.prog 48 #[x.val, y.val] w fun e w' => e = .returned (.bool (decide (zeroA x = zeroA y))) ∧ Below w.heap.size w w' := by
  have HR := Lib.hid (zero_same x y)
  generalize decide (zeroA x = zeroA y) = r at *
  obtain ⟨xk, xt, xn, xa⟩ := x
  obtain ⟨yk, yt, yn, ya⟩ := y
  simp only [Tk.val] at HR ⊢
  by_cases h1 : xk = yk
  · by_cases h2 : xt = yt
    · by_cases h3 : xn = yn
      · subst h1 h2 h3
        have HQ := Lib.hid (show r = true by rw [HR.out]; simp)
        clear HR
        go_enter Tryz.func48, Tryz.ntmps48
        go_wp2_with fail
        go_ret
        exact ⟨ret_bool HQ.out.symm, (by repeat (first | with_reducible exact Below.refl _ _ | (with_reducible refine Below.setCell ?_ (by first | exact Nat.le_refl _ | omega | (simp; done) | (simp; omega)) _) | (with_reducible refine Below.alloc ?_ (by first | exact Nat.le_refl _ | omega | (simp; done) | (simp; omega)) _) | with_reducible refine Below.drew ?_ | with_reducible refine bel_drewN ?_ _ | (with_reducible refine bel_by (by with_reducible assumption) (by first | exact Nat.le_refl _ | omega | (simp; done) | (simp; omega)) ?_)))⟩
      · subst h1 h2
        have HQ := Lib.hid (show r = false by rw [HR.out]; simp [h3])
        clear HR
        go_enter Tryz.func48, Tryz.ntmps48
        go_wp2_with fail
        go_ret
        exact ⟨ret_bool HQ.out.symm, (by repeat (first | with_reducible exact Below.refl _ _ | (with_reducible refine Below.setCell ?_ (by first | exact Nat.le_refl _ | omega | (simp; done) | (simp; omega)) _) | (with_reducible refine Below.alloc ?_ (by first | exact Nat.le_refl _ | omega | (simp; done) | (simp; omega)) _) | with_reducible refine Below.drew ?_ | with_reducible refine bel_drewN ?_ _ | (with_reducible refine bel_by (by with_reducible assumption) (by first | exact Nat.le_refl _ | omega | (simp; done) | (simp; omega)) ?_)))⟩
    · subst h1
      have h2l : ¬ xt.toList = yt.toList := fun e => h2 (bs_inj (by rwa [empty_list, empty_list] at e))
      have HQ := Lib.hid (show r = false by rw [HR.out]; simp [h2])
      clear HR h2
      go_enter Tryz.func48, Tryz.ntmps48
      go_wp2_with fail
      go_ret
      exact ⟨ret_bool HQ.out.symm, (by repeat (first | with_reducible exact Below.refl _ _ | (with_reducible refine Below.setCell ?_ (by first | exact Nat.le_refl _ | omega | (simp; done) | (simp; omega)) _) | (with_reducible refine Below.alloc ?_ (by first | exact Nat.le_refl _ | omega | (simp; done) | (simp; omega)) _) | with_reducible refine Below.drew ?_ | with_reducible refine bel_drewN ?_ _ | (with_reducible refine bel_by (by with_reducible assumption) (by first | exact Nat.le_refl _ | omega | (simp; done) | (simp; omega)) ?_)))⟩
  · have HQ := Lib.hid (show r = false by rw [HR.out]; simp [h1])
    clear HR
    go_enter Tryz.func48, Tryz.ntmps48
    go_wp2_with fail
    go_ret
    exact ⟨ret_bool HQ.out.symm, (by repeat (first | with_reducible exact Below.refl _ _ | (with_reducible refine Below.setCell ?_ (by first | exact Nat.le_refl _ | omega | (simp; done) | (simp; omega)) _) | (with_reducible refine Below.alloc ?_ (by first | exact Nat.le_refl _ | omega | (simp; done) | (simp; omega)) _) | with_reducible refine Below.drew ?_ | with_reducible refine bel_drewN ?_ _ | (with_reducible refine bel_by (by with_reducible assumption) (by first | exact Nat.le_refl _ | omega | (simp; done) | (simp; omega)) ?_)))⟩
theorem map_take_step {L M : List Tk} {k : Nat} (hk : k < L.length) (hm : k < M.length) (h : (L.take k).map zeroA = (M.take k).map zeroA) (he : zeroA (L[k]'hk) = zeroA (M[k]'hm)) : (L.take (k + 1)).map zeroA = (M.take (k + 1)).map zeroA := by
  rw [List.take_succ_eq_append_getElem hk, List.take_succ_eq_append_getElem hm, List.map_append, List.map_append, h, List.map_singleton, List.map_singleton, he]
theorem map_get_ne {L M : List Tk} {k : Nat} (hk : k < L.length) (hm : k < M.length) (he : zeroA (L[k]'hk) ≠ zeroA (M[k]'hm)) : L.map zeroA ≠ M.map zeroA := by
  intro e
  apply he
  have h1 : (L.map zeroA)[k]? = (M.map zeroA)[k]? := by rw [e]
  rw [List.getElem?_map, List.getElem?_map, List.getElem?_eq_getElem hk, List.getElem?_eq_getElem hm] at h1
  simpa using h1
set_option maxHeartbeats 4000000 in
set_option maxRecDepth 100000 in
theorem eqT_any {a a' : Option Addr} {b off len cap b' off' len' cap' : Nat} {L M : List Tk} {w : World} (hL : SlT w a b off len cap L) (hM : SlT w a' b' off' len' cap' M) :
    Calls Tryz.prog 47 #[.slice a len cap, .slice a' len' cap', .func (.func 48) #[] #[]] w fun e w' => e = .returned (.bool (decide (L.map zeroA = M.map zeroA))) ∧ Below w.heap.size w w' := by
  have HG := Lib.hid (fun k t n a k' t' n' a' W => sameAtom_any ⟨k, t, n, a⟩ ⟨k', t', n', a'⟩ W)
  simp only [Tk.val] at HG
  have HL := Lib.hid hL
  have HM := Lib.hid hM
  have hm := hL.hmax
  have hcp := hL.hcap
  have hm' := hM.hmax
  have hcp' := hM.hcap
  have hl := hL.hl
  have hl' := hM.hl
  unfold maxLen at hm hm'
  obtain ⟨r, hr⟩ : ∃ r, decide (L.map zeroA = M.map zeroA) = r := ⟨_, rfl⟩
  rw [hr]
  have HR := Lib.hid hr
  clear hL hM hr
  by_cases hne : len = len'
  · subst hne
    go_enter Tryz.func47, Tryz.ntmps47
    go_wp2_with fail
    go_loopw [17] (fun s17 wr => ∃ k : Nat, k ≤ len ∧ s17 = .int .i64 (k : Int) ∧ Hid (Below w.heap.size w wr) ∧ Hid ((L.take k).map zeroA = (M.take k).map zeroA)) (fun s17 _ => (len - (intOf s17)).toNat)
    case atStart => exact ⟨0, Nat.zero_le _, rfl, Lib.hid (Below.refl _ _), Lib.hid rfl⟩
    case round =>
      obtain ⟨k, hk, rfl, HB, HK⟩ := hrel
      by_cases hlt : k < len
      · have hlz : (k : Int) < (len : Int) := by omega
        have hkL : k < L.length := by omega
        have hkM : k < M.length := by omega
        have HLr := Lib.hid (HL.out.keep HB.out)
        have HMr := Lib.hid (HM.out.keep HB.out)
        obtain rfl := HLr.out.ha (by omega)
        obtain rfl := HMr.out.ha (by omega)
        have bb := HLr.out.hb (by omega)
        have bb' := HMr.out.hb (by omega)
        have c0 := HLr.out.c0 k hkL
        have c1 := HLr.out.c1 k hkL
        have c2 := HLr.out.c2 k hkL
        have c3 := HLr.out.c3 k hkL
        have d0 := HMr.out.c0 k hkM
        have d1 := HMr.out.c1 k hkM
        have d2 := HMr.out.c2 k hkM
        have d3 := HMr.out.c3 k hkM
        have HST := Lib.hid (fun he => map_take_step hkL hkM HK.out he)
        have HNE := Lib.hid (fun he => map_get_ne hkL hkM he)
        generalize L[k]'hkL = x at *
        generalize M[k]'hkM = y at *
        obtain ⟨xk, xt, xn, xa⟩ := x
        obtain ⟨yk, yt, yn, ya⟩ := y
        simp only at c0 c1 c2 c3 d0 d1 d2 d3
        have hbs := HB.out.size
        have hbw := HB.out
        have HBA := Lib.hid (show Below w.heap.size w ((wr.alloc (.cells #[.int .i64 xk, .string xt, .int .i64 xn, .int .i64 xa] 51)).alloc (.cells #[.int .i64 yk, .string yt, .int .i64 yn, .int .i64 ya] 51)) from (by repeat (first | with_reducible exact Below.refl _ _ | (with_reducible refine Below.setCell ?_ (by first | exact Nat.le_refl _ | omega | (simp; done) | (simp; omega)) _) | (with_reducible refine Below.alloc ?_ (by first | exact Nat.le_refl _ | omega | (simp; done) | (simp; omega)) _) | with_reducible refine Below.drew ?_ | with_reducible refine bel_drewN ?_ _ | (with_reducible refine bel_by (by with_reducible assumption) (by first | exact Nat.le_refl _ | omega | (simp; done) | (simp; omega)) ?_))))
        clear hbw HLr HMr
        go_wp2_with fail
        refine (HG.out _ _ _ _ _ _ _ _ _).mono ?_
        rintro e w1 ⟨rfl, hb1⟩
        have HB1 := Lib.hid (bel_by hb1 (by simp; omega) HBA.out)
        clear c0 c1 c2 c3 d0 d1 d2 d3 hb1 HBA
        by_cases hq : zeroA ⟨xk, xt, xn, xa⟩ = zeroA ⟨yk, yt, yn, ya⟩
        · rw [decide_eq_true hq]
          have HST2 := Lib.hid (HST.out hq)
          clear hq HST HNE
          go_wp2_with fail
          go_roundw
          case rel => exact ⟨k + 1, by omega, by go_num, HB1, HST2⟩
          case measure => simp [intOf]; omega
        · rw [decide_eq_false hq]
          have HN2 := Lib.hid (HNE.out hq)
          clear hq HST HNE
          go_wp2_with fail
          go_ret
          exact ⟨ret_bool (by rw [← HR.out, decide_eq_false HN2.out]), HB1.out⟩
      · have hlz : ¬ (k : Int) < (len : Int) := by omega
        obtain rfl : k = len := by omega
        have HQ := Lib.hid (show L.map zeroA = M.map zeroA by
          have := HK.out
          rwa [List.take_of_length_le (by omega), List.take_of_length_le (by omega)] at this)
        go_wp2_with fail
        go_ret
        exact ⟨ret_bool (by rw [← HR.out, decide_eq_true HQ.out]), HB.out⟩
  · have hn1 : ((len : Int) != (len' : Int)) = true := by simp; omega
    have hn2 : ((len : Int) == (len' : Int)) = false := by simp; omega
    have hn3 : ¬ (len : Int) = (len' : Int) := by omega
    have HQ := Lib.hid (show L.map zeroA ≠ M.map zeroA by
      intro e
      have := congrArg List.length e
      simp at this
      omega)
    go_enter Tryz.func47, Tryz.ntmps47
    go_wp2_with fail
    go_ret
    exact ⟨ret_bool (by rw [← HR.out, decide_eq_false HQ.out]), Below.refl _ _⟩
end Go.Proofs.YtohalocbghhenaaGreatDoor
/- Contracts of layer 10: Same. -/
namespace Go.Proofs.YtohalocbghhenaaGreatDoor
open Go.RowKit

theorem zero_drop : ∀ (c : Cls) (i : Nat) {wd : ByteArray} {xs : List Tk} {bl : Bool} {k : Cls} {a : Int} {r : Cls}, c.drop i = .cons wd xs bl k a r → c.zero.drop i = .cons wd (xs.map zeroA) bl k.zero 0 r.zero
  | .nil, 0, _, _, _, _, _, _, h => by simp [Cls.drop] at h
  | .nil, _ + 1, _, _, _, _, _, _, h => by simp [Cls.drop] at h
  | .cons _ _ _ _ _ _, 0, _, _, _, _, _, _, h => by
    simp only [Cls.drop, Cls.cons.injEq] at h
    obtain ⟨rfl, rfl, rfl, rfl, rfl, rfl⟩ := h
    rfl
  | .cons w' xs' b' k' a' r', i + 1, _, _, _, _, _, _, h => zero_drop r' i h
theorem take_step : ∀ (c d : Cls) (i : Nat) {wd : ByteArray} {xs : List Tk} {bl : Bool} {k : Cls} {a : Int} {r r' : Cls}, c.take i = d.take i → c.drop i = .cons wd xs bl k a r → d.drop i = .cons wd xs bl k a r' → c.take (i + 1) = d.take (i + 1)
  | .nil, _, 0, _, _, _, _, _, _, _, _, h, _ => by simp [Cls.drop] at h
  | .nil, _, _ + 1, _, _, _, _, _, _, _, _, h, _ => by simp [Cls.drop] at h
  | .cons _ _ _ _ _ _, .nil, 0, _, _, _, _, _, _, _, _, _, h => by simp [Cls.drop] at h
  | .cons _ _ _ _ _ _, .nil, _ + 1, _, _, _, _, _, _, _, _, _, h => by simp [Cls.drop] at h
  | .cons _ _ _ _ _ r1, .cons _ _ _ _ _ r2, 0, _, _, _, _, _, _, _, _, h1, h2 => by
    simp only [Cls.drop, Cls.cons.injEq] at h1 h2
    obtain ⟨rfl, rfl, rfl, rfl, rfl, rfl⟩ := h1
    obtain ⟨rfl, rfl, rfl, rfl, rfl, rfl⟩ := h2
    cases r1 <;> cases r2 <;> rfl
  | .cons _ _ _ _ _ r1, .cons _ _ _ _ _ r2, i + 1, _, _, _, _, _, _, _, h, h1, h2 => by
    simp only [Cls.take, Cls.cons.injEq] at h
    obtain ⟨rfl, rfl, rfl, rfl, rfl, h⟩ := h
    have := take_step r1 r2 i h h1 h2
    rw [Cls.take, Cls.take, this]
theorem zero_len : ∀ (c : Cls), c.zero.len = c.len
  | .nil => rfl
  | .cons _ _ _ _ _ r => by simp only [Cls.zero, Cls.len, zero_len r]
/-- are two entries the same -/
def smB (wd wd' : ByteArray) (xs xs' : List Tk) (bl bl' : Bool) (k k' : Cls) : Bool := decide (wd = wd') && (bl == bl') && decide (xs.map zeroA = xs'.map zeroA) && decide (k.zero = k'.zero)
theorem sm_step (c d : Cls) (i : Nat) {wd wd' : ByteArray} {xs xs' : List Tk} {bl bl' : Bool} {k k' : Cls} {a a' : Int} {r r' : Cls} (h : c.zero.take i = d.zero.take i) (h1 : c.drop i = .cons wd xs bl k a r) (h2 : d.drop i = .cons wd' xs' bl' k' a' r') (hs : smB wd wd' xs xs' bl bl' k k' = true) : c.zero.take (i + 1) = d.zero.take (i + 1) := by
  have e1 := zero_drop c i h1
  have e2 := zero_drop d i h2
  unfold smB at hs
  simp only [Bool.and_eq_true, decide_eq_true_eq, beq_iff_eq] at hs
  obtain ⟨⟨⟨rfl, rfl⟩, hx⟩, hk⟩ := hs
  rw [← hx, ← hk] at e2
  exact take_step c.zero d.zero i h e1 e2
theorem sm_ne (c d : Cls) (i : Nat) {wd wd' : ByteArray} {xs xs' : List Tk} {bl bl' : Bool} {k k' : Cls} {a a' : Int} {r r' : Cls} (h1 : c.drop i = .cons wd xs bl k a r) (h2 : d.drop i = .cons wd' xs' bl' k' a' r') (hs : smB wd wd' xs xs' bl bl' k k' = false) : c.zero ≠ d.zero := by
  intro e
  have e1 := zero_drop c i h1
  have e2 := zero_drop d i h2
  rw [e, e2] at e1
  simp only [Cls.cons.injEq] at e1
  obtain ⟨rfl, hx, rfl, hk, _⟩ := e1
  unfold smB at hs
  rw [decide_eq_true rfl, decide_eq_true hx.symm, decide_eq_true hk.symm] at hs
  simp at hs
def SmC (n : Nat) : Prop := ∀ (c d : Cls), c.count < n → d.len ≤ 9223372036854775807 → ∀ (w : World) (F G : Nat → Prop) (a a' : Option Addr) (b o cap b' o' cap' : Nat), SlC w F a b o c.len cap c → SlC w G a' b' o' d.len cap' d →
    Calls Tryz.prog 23 #[.slice a c.len cap, .slice a' d.len cap'] w fun e w' => e = .returned (.bool (decide (c.zero = d.zero))) ∧ Below w.heap.size w w'
theorem lenC_max {w : World} {F : Nat → Prop} {a : Option Addr} {b o cap : Nat} {c : Cls} (h : SlC w F a b o c.len cap c) : c.len ≤ maxLen := Nat.le_trans h.2.1 h.2.2.1
set_option maxHeartbeats 4000000 in
set_option maxRecDepth 100000 in
theorem sm1_any (n : Nat) (hn : n ≤ 4611686018427387904) (IH : Hid (SmC n)) (wd wd' : ByteArray) (xs xs' : List Tk) (bl bl' : Bool) (k k' : Cls) (av av' : Int) (hk : k.count < n) (hk' : k'.len ≤ 9223372036854775807) (w : World) (F G : Nat → Prop) (aa ak aa' ak' : Option Addr) (ba oa la ca bk ok ck ba' oa' la' ca' bk' ok' ck' : Nat)
    (hx : SlT w aa ba oa la ca xs) (hc : SlC w F ak bk ok k.len ck k) (hx' : SlT w aa' ba' oa' la' ca' xs') (hc' : SlC w G ak' bk' ok' k'.len ck' k') :
    Calls Tryz.prog 46 #[.agg #[.string wd, .slice aa la ca, .bool bl, .slice ak k.len ck, .int .i64 av], .agg #[.string wd', .slice aa' la' ca', .bool bl', .slice ak' k'.len ck', .int .i64 av']] w fun e w' => e = .returned (.bool (smB wd wd' xs xs' bl bl' k k')) ∧ Below w.heap.size w w' := by
  have HC := Lib.hid (fun W (h : SlT W aa ba oa la ca xs) (h' : SlT W aa' ba' oa' la' ca' xs') => eqT_any h h')
  have HS := Lib.hid (fun W (h : SlC W (fun x => F x ∧ x < w.heap.size) ak bk ok k.len ck k) (h' : SlC W (fun x => G x ∧ x < w.heap.size) ak' bk' ok' k'.len ck' k') => IH.out k k' hk hk' W _ _ _ _ _ _ _ _ _ _ h h')
  have HX := Lib.hid hx
  have HX' := Lib.hid hx'
  have HK := Lib.hid hc.here
  have HK' := Lib.hid hc'.here
  obtain ⟨r, hr⟩ : ∃ r, smB wd wd' xs xs' bl bl' k k' = r := ⟨_, rfl⟩
  rw [hr]
  unfold smB at hr
  have HR := Lib.hid hr
  clear hx hc hx' hc' IH hr
  generalize decide (xs.map zeroA = xs'.map zeroA) = p at *
  generalize decide (k.zero = k'.zero) = q at *
  have HB := Lib.hid (show Below w.heap.size w ((w.alloc (.cells #[.string wd, .slice aa la ca, .bool bl, .slice ak k.len ck, .int .i64 av] 25)).alloc (.cells #[.string wd', .slice aa' la' ca', .bool bl', .slice ak' k'.len ck', .int .i64 av'] 25)) from (by repeat (first | with_reducible exact Below.refl _ _ | (with_reducible refine Below.setCell ?_ (by first | exact Nat.le_refl _ | omega | (simp; done) | (simp; omega)) _) | (with_reducible refine Below.alloc ?_ (by first | exact Nat.le_refl _ | omega | (simp; done) | (simp; omega)) _) | with_reducible refine Below.drew ?_ | with_reducible refine bel_drewN ?_ _ | (with_reducible refine bel_by (by with_reducible assumption) (by first | exact Nat.le_refl _ | omega | (simp; done) | (simp; omega)) ?_))))
  by_cases hw : wd = wd'
  · subst hw
    by_cases hb : bl = bl'
    · subst hb
      go_enter Tryz.func46, Tryz.ntmps46
      go_wp2_with fail
      refine (HC.out _ (HX.out.keep HB.out) (HX'.out.keep HB.out)).mono ?_
      rintro e w1 ⟨rfl, hb1⟩
      have HCA := Lib.hid (((cl_new w wd (.slice aa la ca) (.slice ak k.len ck) bl av 25).keep ((Below.refl _ _).alloc (Nat.le_refl _) (.cells #[.string wd, .slice aa' la' ca', .bool bl, .slice ak' k'.len ck', .int .i64 av'] 25))).keep hb1)
      have HCB := Lib.hid ((cl_new (w.alloc (.cells #[.string wd, .slice aa la ca, .bool bl, .slice ak k.len ck, .int .i64 av] 25)) wd (.slice aa' la' ca') (.slice ak' k'.len ck') bl av' 25).keep hb1)
      simp only [World.size_alloc] at HCB
      have HB1 := Lib.hid (HB.out.trans (Below.mono hb1 HB.out.size))
      clear hb1 HB
      cases p with
      | false =>
        have HQ := Lib.hid (show r = false by rw [← HR.out]; simp)
        clear HR
        go_wp2_with fail
        go_ret
        exact ⟨ret_bool HQ.out.symm, HB1.out⟩
      | true =>
        have HQ := Lib.hid (show q = r by rw [← HR.out]; simp)
        clear HR
        obtain ⟨c0, c1, c2, c3, c4, cf, cl⟩ := HCA.out
        obtain ⟨d0, d1, d2, d3, d4, df, dl⟩ := HCB.out
        go_wp2_with fail
        refine (HS.out _ (HK.out.low (fun x hx => hx.2) HB1.out) (HK'.out.low (fun x hx => hx.2) HB1.out)).mono ?_
        rintro e w2 ⟨rfl, hb2⟩
        have HB2 := Lib.hid (HB1.out.trans (Below.mono hb2 HB1.out.size))
        clear hb2 c0 c1 c2 c3 c4 cf cl d0 d1 d2 d3 d4 df dl
        go_wp2_with fail
        go_ret
        exact ⟨ret_bool HQ.out, HB2.out⟩
    · have HQ := Lib.hid (show r = false by rw [← HR.out]; cases bl <;> cases bl' <;> simp_all)
      have hbw := HB.out
      have hbe : (bl == bl') = false := by cases bl <;> cases bl' <;> simp_all
      clear HR
      go_enter Tryz.func46, Tryz.ntmps46
      go_wp2_with fail
      go_ret
      exact ⟨ret_bool HQ.out.symm, (by repeat (first | with_reducible exact Below.refl _ _ | (with_reducible refine Below.setCell ?_ (by first | exact Nat.le_refl _ | omega | (simp; done) | (simp; omega)) _) | (with_reducible refine Below.alloc ?_ (by first | exact Nat.le_refl _ | omega | (simp; done) | (simp; omega)) _) | with_reducible refine Below.drew ?_ | with_reducible refine bel_drewN ?_ _ | (with_reducible refine bel_by (by with_reducible assumption) (by first | exact Nat.le_refl _ | omega | (simp; done) | (simp; omega)) ?_)))⟩
  · have hwl : ¬ wd.toList = wd'.toList := fun e => hw (bs_inj (by rwa [empty_list, empty_list] at e))
    have HQ := Lib.hid (show r = false by rw [← HR.out, decide_eq_false hw]; rfl)
    have hbw := HB.out
    clear HR hw
    go_enter Tryz.func46, Tryz.ntmps46
    go_wp2_with fail
    go_ret
    exact ⟨ret_bool HQ.out.symm, (by repeat (first | with_reducible exact Below.refl _ _ | (with_reducible refine Below.setCell ?_ (by first | exact Nat.le_refl _ | omega | (simp; done) | (simp; omega)) _) | (with_reducible refine Below.alloc ?_ (by first | exact Nat.le_refl _ | omega | (simp; done) | (simp; omega)) _) | with_reducible refine Below.drew ?_ | with_reducible refine bel_drewN ?_ _ | (with_reducible refine bel_by (by with_reducible assumption) (by first | exact Nat.le_refl _ | omega | (simp; done) | (simp; omega)) ?_)))⟩
set_option maxHeartbeats 4000000 in
set_option maxRecDepth 100000 in
theorem same_any : ∀ n : Nat, n ≤ 4611686018427387904 → SmC n
  | 0, _ => fun _ _ h => absurd h (Nat.not_lt_zero _)
  | n + 1, hn => fun c d hc hdl w F G a a' b o cap b' o' cap' hA hA' => by
    have HG := Lib.hid (fun wd wd' xs xs' bl bl' k k' av av' hk hk' W aa ak aa' ak' ba oa la ca bk ok ck ba' oa' la' ca' bk' ok' ck' hx hc hx' hc' => sm1_any n (by omega) (Lib.hid (same_any n (by omega))) wd wd' xs xs' bl bl' k k' av av' hk hk' W (fun x => F x ∧ x < w.heap.size) (fun x => G x ∧ x < w.heap.size) aa ak aa' ak' ba oa la ca bk ok ck ba' oa' la' ca' bk' ok' ck' hx hc hx' hc')
    have HA := Lib.hid hA.here
    have HA' := Lib.hid hA'.here
    have HM := Lib.hid (fun i wd xs bl k a r => @drop_count c i wd xs bl k a r)
    have HST := Lib.hid (fun i wd wd' xs xs' bl bl' k k' a a' r r' => @sm_step c d i wd wd' xs xs' bl bl' k k' a a' r r')
    have HNE := Lib.hid (fun i wd wd' xs xs' bl bl' k k' a a' r r' => @sm_ne c d i wd wd' xs xs' bl bl' k k' a a' r r')
    have HE := Lib.hid (show c.zero.take c.len = c.zero by have := take_all c.zero; rwa [zero_len] at this)
    have HE' := Lib.hid (show d.zero.take d.len = d.zero by have := take_all d.zero; rwa [zero_len] at this)
    have hlc : c.len ≤ 4611686018427387904 := by have := kidsN_le c 0; omega
    have HNL := Lib.hid (show c.len ≠ d.len → c.zero ≠ d.zero from fun h e => h (by rw [← zero_len c, ← zero_len d, e]))
    obtain ⟨N, hN⟩ : ∃ N, c.count = N := ⟨_, rfl⟩
    obtain ⟨l, hl⟩ : ∃ l, c.len = l := ⟨_, rfl⟩
    obtain ⟨l', hl'⟩ : ∃ l', d.len = l' := ⟨_, rfl⟩
    obtain ⟨r, hr⟩ : ∃ r, decide (c.zero = d.zero) = r := ⟨_, rfl⟩
    rw [hN] at HM hc
    rw [hl] at HA HE HNL hlc ⊢
    rw [hl'] at HA' HE' HNL hdl ⊢
    rw [hr]
    have HLN := Lib.hid hl
    have HLN' := Lib.hid hl'
    have HR := Lib.hid hr
    clear hA hA' hN hl hl' hr
    have HEQ := Lib.hid (show Calls Tryz.prog 45 #[.slice a l cap, .slice a' l' cap', .func (.func 46) #[] #[]] w (fun e w' => e = .returned (.bool r) ∧ Below w.heap.size w w') from by
      by_cases hne : l = l'
      · subst hne
        go_enter Tryz.func45, Tryz.ntmps45
        go_wp2_with fail
        go_loopw [17] (fun s17 wr => ∃ k : Nat, k ≤ l ∧ s17 = .int .i64 (k : Int) ∧ Hid (Below w.heap.size w wr) ∧ Hid (c.zero.take k = d.zero.take k)) (fun s17 _ => (l - (intOf s17)).toNat)
        case atStart => exact ⟨0, Nat.zero_le _, rfl, Lib.hid (Below.refl _ _), Lib.hid (by cases c.zero <;> cases d.zero <;> rfl)⟩
        case round =>
          obtain ⟨k, hk, rfl, HB, HK⟩ := hrel
          by_cases hlt : k < l
          · have hlz : (k : Int) < (l : Int) := by omega
            have SA := HA.out.low (fun x hx => hx.2) HB.out
            have SA' := HA'.out.low (fun x hx => hx.2) HB.out
            obtain ⟨rfl, ba, _⟩ := SA.2.2.2.1 (by omega)
            obtain ⟨rfl, ba', _⟩ := SA'.2.2.2.1 (by omega)
            obtain ⟨wd, xs, bl, kd, av, rest, aa, xb, oa, la, ca, ak, bk, ok, ck, hd, c0, c1, c2, c3, c4, SX, _, SK⟩ := AtC.get k (by rw [HLN.out]; exact hlt) SA.2.2.2.2
            obtain ⟨wd', xs', bl', kd', av', rest', aa', xb', oa', la', ca', ak', bk', ok', ck', hd', d0, d1, d2, d3, d4, SX', _, SK'⟩ := AtC.get k (by rw [HLN'.out]; exact hlt) SA'.2.2.2.2
            have hkc := HM.out _ _ _ _ _ _ _ hd
            have HSX := Lib.hid (HST.out _ _ _ _ _ _ _ _ _ _ _ _ _ HK.out hd hd')
            have HNX := Lib.hid (HNE.out _ _ _ _ _ _ _ _ _ _ _ _ _ hd hd')
            have hkm := lenC_max SK'
            unfold maxLen at hkm
            have HSXX := Lib.hid SX
            have HSXX' := Lib.hid SX'
            have HSKK := Lib.hid SK
            have HSKK' := Lib.hid SK'
            have HCC := Lib.hid (fun W => HG.out wd wd' xs xs' bl bl' kd kd' av av' (by omega) (by omega) W aa ak aa' ak' xb oa la ca bk ok ck xb' oa' la' ca' bk' ok' ck')
            generalize smB wd wd' xs xs' bl bl' kd kd' = q at *
            have hbs := HB.out.size
            have hbw := HB.out
            have HBA := Lib.hid (show Below w.heap.size w ((wr.alloc (.cells #[.string wd, .slice aa la ca, .bool bl, .slice ak kd.len ck, .int .i64 av] 25)).alloc (.cells #[.string wd', .slice aa' la' ca', .bool bl', .slice ak' kd'.len ck', .int .i64 av'] 25)) from (by repeat (first | with_reducible exact Below.refl _ _ | (with_reducible refine Below.setCell ?_ (by first | exact Nat.le_refl _ | omega | (simp; done) | (simp; omega)) _) | (with_reducible refine Below.alloc ?_ (by first | exact Nat.le_refl _ | omega | (simp; done) | (simp; omega)) _) | with_reducible refine Below.drew ?_ | with_reducible refine bel_drewN ?_ _ | (with_reducible refine bel_by (by with_reducible assumption) (by first | exact Nat.le_refl _ | omega | (simp; done) | (simp; omega)) ?_))))
            have HBR := Lib.hid (show Below wr.heap.size wr ((wr.alloc (.cells #[.string wd, .slice aa la ca, .bool bl, .slice ak kd.len ck, .int .i64 av] 25)).alloc (.cells #[.string wd', .slice aa' la' ca', .bool bl', .slice ak' kd'.len ck', .int .i64 av'] 25)) from ((Below.refl _ _).alloc (Nat.le_refl _) _).alloc (by simp) _)
            clear hbw SA SA' SX SX' SK SK' hd hd' HST HNE HM
            go_wp2_with fail
            refine (HCC.out _ (HSXX.out.keep HBR.out) (HSKK.out.low (fun x hx => Nat.lt_of_lt_of_le hx.2 hbs) HBR.out) (HSXX'.out.keep HBR.out) (HSKK'.out.low (fun x hx => Nat.lt_of_lt_of_le hx.2 hbs) HBR.out)).mono ?_
            rintro e w1 ⟨rfl, hb1⟩
            have HB1 := Lib.hid (bel_by hb1 (by simp; omega) HBA.out)
            clear c0 c1 c2 c3 c4 d0 d1 d2 d3 d4 hb1 HBA HBR HCC
            cases q with
            | true =>
              have HS2 := Lib.hid (HSX.out rfl)
              go_wp2_with fail
              go_roundw
              case rel => exact ⟨k + 1, by omega, by go_num, HB1, HS2⟩
              case measure => simp [intOf]; omega
            | false =>
              have HN2 := Lib.hid (HNX.out rfl)
              go_wp2_with fail
              go_ret
              exact ⟨ret_bool (by rw [← HR.out, decide_eq_false HN2.out]), HB1.out⟩
          · have hlz : ¬ (k : Int) < (l : Int) := by omega
            obtain rfl : k = l := by omega
            have HQ := Lib.hid (show c.zero = d.zero by
              have := HK.out
              rwa [HE.out, HE'.out] at this)
            go_wp2_with fail
            go_ret
            exact ⟨ret_bool (by rw [← HR.out, decide_eq_true HQ.out]), HB.out⟩
      · have hn1 : ((l : Int) != (l' : Int)) = true := by simp; omega
        have hn2 : ((l : Int) == (l' : Int)) = false := by simp; omega
        have hn3 : ¬ (l : Int) = (l' : Int) := by omega
        have HQ := Lib.hid (HNL.out hne)
        go_enter Tryz.func45, Tryz.ntmps45
        go_wp2_with fail
        go_ret
        exact ⟨ret_bool (by rw [← HR.out, decide_eq_false HQ.out]), Below.refl _ _⟩)
    go_enter Tryz.func23, Tryz.ntmps23
    go_wp2_with fail
    refine HEQ.out.mono ?_
    rintro e w1 ⟨rfl, hb1⟩
    go_wp2_with fail
    go_ret
    exact ⟨rfl, hb1⟩
end Go.Proofs.YtohalocbghhenaaGreatDoor
