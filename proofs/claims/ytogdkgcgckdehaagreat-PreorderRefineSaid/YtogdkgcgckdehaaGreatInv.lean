/- preorder.ties at integers: the pairs of equal elements, counted by a map. -/
import Derived.Test.YtogdkgcgckdehaaGreatPcP
import Derived.Test.YtogdkgcgckdehaaGreatPlq
import Derived.Maps.OwnOps
import Derived.Test.YtogdkgcgckdehaaGreatInt
import Derived.Test.YtogdkgcgckdehaaGreatClnI
import Derived.Test.YtogdkgcgckdehaaGreatPrs
import Derived.DeepKeys4
import Derived.WideKeyEntry
import Derived.Deep.RegionLaw
import Derived.BigRegion
import Derived.Test.YtogdkgcgckdehaaGreatLis
set_option linter.unusedSimpArgs false
set_option linter.unusedVariables false
namespace Go.Proofs.YtogdkgcgckdehaaGreat
open Go.RowKit Go.Sort Go.Maps

theorem lawI : Keyed Tryz.prog 3 := int_keyed Tryz.underlying3
theorem zeroI (w : World) : (zeroValue 3).run Tryz.prog w = .ok (.int .i64 0) w := by kernel_rfl
abbrev D64 (n : Int) : DataW Unit := .lit (.int .i64 n)
/-- a map that counts those of which q holds -/
def CntD {α : Type} (q : α → Prop) (kl : α → Lit) (D : DataW Unit) (cnt : α → Nat) : Prop := IsMap D ∧ ∀ x, q x → D.atKey (kl x) (D64 0) = D64 (cnt x : Int)
theorem cntD_empty {α : Type} (q : α → Prop) (kl : α → Lit) : CntD q kl (.map []) (fun _ => 0) := ⟨isMap_empty, fun _ _ => rfl⟩
theorem CntD.put {α : Type} [DecidableEq α] {q : α → Prop} {kl : α → Lit} (hk : ∀ x, WideAt.IsKeyLit (kl x)) (hi : ∀ x y, q x → q y → kl x = kl y → x = y) {D : DataW Unit} {L : List α} (h : CntD q kl D (fun x => L.countP fun y => decide (y = x))) (x : α) (hx : q x) {c : Int} (hc : c = ((L.countP fun y => decide (y = x) : Nat) : Int) + 1) :
    CntD q kl (D.put (kl x) (D64 c)) (fun z => (L ++ [x]).countP fun y => decide (y = z)) := by
  refine ⟨h.1.put _ _, fun z hz => ?_⟩
  show (D.put (kl x) (D64 c)).atKey (kl z) (D64 0) = D64 (((L ++ [x]).countP fun y => decide (y = z) : Nat) : Int)
  rw [List.countP_append, List.countP_singleton]
  by_cases e : x = z
  · subst e
    rw [atKey_put_same h.1 (hk x), hc, decide_eq_true rfl, if_pos rfl]
    rfl
  · rw [atKey_put_other (fun he => e (hi _ _ hz hx he).symm), show D.atKey (kl z) (D64 0) = D64 ((L.countP fun y => decide (y = z) : Nat) : Int) from h.2 z hz, decide_eq_false e, if_neg (by simp)]
    rfl
def eqP {α : Type} [DecidableEq α] (x y : α) : Bool := decide (x = y)
theorem tie_step {α : Type} [DecidableEq α] (L : List α) (k : Nat) (h : k < L.length) : pcN eqP (L.take (k + 1)) = pcN eqP (L.take k) + (L.take k).countP fun y => decide (y = L[k]'h) := by
  rw [List.take_succ_eq_append_getElem h, pc_snoc]
  rfl
theorem D64_inj {a b : Int} (h : D64 a = D64 b) : a = b := by
  simp only [D64, DataW.lit.injEq, Lit.int.injEq, true_and] at h
  exact h
set_option maxHeartbeats 1000000 in
set_option maxRecDepth 100000 in
theorem tiesI_any {a : Option Addr} {b off len cap : Nat} {L : List Int} {w : World} (h : SlI w a b off len cap L) (hlen : len ≤ 1000000) (hwf : ∀ x ∈ L, (Lit.int .i64 x).wf = true) :
    Calls Tryz.prog 37 #[.slice a len cap] w fun e w' => e = .returned (.int .i64 (pcN eqP L : Nat)) ∧ Below w.heap.size w w' := by
  have hmm := @run_makeMap Tryz.prog
  have HS := Lib.hid h
  have HW := Lib.hid hwf
  clear h hwf
  go_enter Tryz.func37, Tryz.ntmps37
  go_wp2_with fail
  go_loopw [3, 10] (fun s3 s10 wr => ∃ (k : Nat) (D : DataW Unit), k ≤ len ∧ s3 = .int .i64 (pcN eqP (L.take k) : Nat) ∧ s10 = .int .i64 (k : Int) ∧ Hid (wr.ownsMap Tryz.prog 3 (plainElem Tryz.prog 3) w.heap.size k D) ∧ Hid (CntD (fun _ => True) (Lit.int .i64) D (fun x => (L.take k).countP fun y => decide (y = x))) ∧ Hid (Below w.heap.size w wr)) (fun _ s10 _ => (len - (intOf s10)).toNat)
  case atStart => exact ⟨0, _, Nat.zero_le _, rfl, rfl, Lib.hid (World.ownsMap_made _ _ _ _), Lib.hid (cntD_empty _ _), Lib.hid ((Below.refl _ _).alloc (Nat.le_refl _) _)⟩
  case round =>
    obtain ⟨k, D, hk, rfl, rfl, HO, HC, HB⟩ := hrel
    by_cases hlt : k < len
    · have l1 : (k : Int) < (len : Int) := by omega
      obtain rfl := HS.out.ha (by omega)
      have hkL : k < L.length := by rw [HS.out.hl]; exact hlt
      have cx : wr.cell? ⟨b, off + k, none⟩ = some (.int .i64 (L[k]'hkL)) := (HS.out.keep HB.out).cell k hkL
      have HWX := Lib.hid (HW.out _ (List.getElem_mem hkL))
      have hat0 : D.atKey (.int .i64 (L[k]'hkL)) (D64 0) = D64 (((L.take k).countP fun y => decide (y = L[k]'hkL) : Nat) : Int) := HC.out.2 (L[k]'hkL) trivial
      have htie := tie_step L k hkL
      have HPUT := Lib.hid (fun c hc => CntD.put (kl := Lit.int .i64) (fun _ => trivial) (fun x y _ _ e => by simpa using e) HC.out (L[k]'hkL) trivial (c := c) hc)
      rw [← List.take_succ_eq_append_getElem hkL] at HPUT
      have hn1 := pc_bound eqP (L.take k)
      have hn2 : (L.take k).length ≤ k := List.length_take_le _ _
      have hn3 : (L.take k).countP (fun y => decide (y = L[k]'hkL)) ≤ (L.take k).length := List.countP_le_length
      have hn4 : (L.take k).length * (L.take k).length ≤ 1000000 * 1000000 := Nat.mul_le_mul (by omega) (by omega)
      have hcap := HS.out.hcap
      have hmax := HS.out.hmax
      unfold maxLen at hmax
      have HT := Lib.hid htie
      obtain ⟨x, hx⟩ : ∃ x, L[k]'hkL = x := ⟨_, rfl⟩
      rw [hx] at cx HWX hat0 HPUT HT hn3
      obtain ⟨m, hm⟩ : ∃ m, ((L.take k).countP fun y => decide (y = x)) = m := ⟨_, rfl⟩
      rw [hm] at hat0 HPUT HT hn3
      have HAT := Lib.hid hat0
      obtain ⟨n, hn⟩ : ∃ n, pcN eqP (L.take k) = n := ⟨_, rfl⟩
      rw [hn] at HT hn1 ⊢
      have b1 : n ≤ 1000000000000 := by omega
      have b2 : m ≤ 1000000 := by omega
      clear hx hm hn hat0 htie hn1 hn2 hn3 hn4 HC
      go_wp2_with (first
        | (at_lookup; refine wpList_lookup_own_int _ rfl _ _ 81 rfl 3 3 .i64 lawI Tryz.underlying81 Tryz.underlying3 (zeroI _) w.heap.size k _ rfl HO.out _ _ rfl (keyOf_int_mk Tryz.underlying3 HWX.out) ?_; intro c hat _; obtain rfl := D64_inj (hat.symm.trans HAT.out); clear hat)
        | (at_mapUpdate; refine wpList_mapUpdate_own _ rfl _ _ _ 81 rfl 3 3 lawI Tryz.underlying81 _ w.heap.size k _ rfl HO.out (by unfold maxLen; omega) _ _ _ rfl rfl (keyOf_int_mk Tryz.underlying3 HWX.out) _ [] (plainElem_int Tryz.underlying3 (WalkArith.wf_i64 (by omega))) ?_; intro w1 hown1 hgrow1; have HO1 := Lib.hid hown1; have HB1 := Lib.hid (HB.out.grown hgrow1 HB.out.size (fun j hj => by cases hj; exact Nat.le_refl _)); clear hown1 hgrow1))
      go_roundw
      case rel => exact ⟨k + 1, _, by omega, by rw [HT.out]; go_num, by go_num, HO1, Lib.hid (HPUT.out _ rfl), HB1⟩
      case measure => simp [intOf]; omega
    · obtain rfl : k = len := by omega
      have l1 : ¬ (k : Int) < (k : Int) := by omega
      have HE := Lib.hid (show L.take k = L from List.take_of_length_le (by rw [HS.out.hl]; exact Nat.le_refl _))
      go_wp2
      go_ret
      exact ⟨by rw [HE.out]; rfl, HB.out⟩
end Go.Proofs.YtogdkgcgckdehaaGreat
/- preorder.descents: the pairs in descending order. -/
namespace Go.Proofs.YtogdkgcgckdehaaGreat
open Go.RowKit Go.Sort

def dscP (x y : Int) : Bool := decide (y < x)
def dscN (L : List Int) : Nat := pcN dscP L
theorem dsc_short {L : List Int} (h : L.length < 2) : dscN L = 0 := by
  match L, h with
  | [], _ => rfl
  | [x], _ => rfl
/-- how many of A are greater, of the first k of R -/
def sumK (A R : List Int) (k : Nat) : Nat := ((R.take k).map fun y => A.countP fun x => decide (y < x)).sum
theorem sumK_step (A R : List Int) (k : Nat) (h : k < R.length) : sumK A R (k + 1) = sumK A R k + A.countP fun x => decide (R[k]'h < x) := by
  unfold sumK
  rw [List.take_succ_eq_append_getElem h, List.map_append, List.sum_append]
  simp
theorem sumK_le (A R : List Int) : ∀ k, sumK A R k ≤ k * A.length
  | 0 => by simp [sumK]
  | k + 1 => by
    have ih := sumK_le A R k
    by_cases h : k < R.length
    · rw [sumK_step A R k h, Nat.add_mul, Nat.one_mul]
      have : (A.countP fun x => decide (R[k]'h < x)) ≤ A.length := List.countP_le_length
      omega
    · have : sumK A R (k + 1) = sumK A R k := by unfold sumK; rw [List.take_of_length_le (by omega), List.take_of_length_le (by omega)]
      rw [this, Nat.add_mul]
      omega
theorem dsc_split (A R : List Int) : dscN (A ++ R) = dscN A + dscN R + sumK A R R.length := by
  unfold dscN sumK
  rw [pc_append, List.take_length]
  rfl
theorem dsc_le (L : List Int) (h : L.length ≤ 1000000) : dscN L ≤ 1000000000000 := by
  have h1 := pc_bound dscP L
  have h2 : L.length * L.length ≤ 1000000 * 1000000 := Nat.mul_le_mul h h
  unfold dscN
  omega
theorem sli_take {α : Type} {enc : α → Value} {w : World} {a : Option Addr} {b off len cap m : Nat} {L : List α} (h : SlG enc w a b off len cap L) (hm : m ≤ len) : SlG enc w a b off m cap (L.take m) :=
  ⟨by rw [List.length_take, h.hl]; omega, fun h0 => h.ha (by omega), fun h0 => h.hb (by omega), Nat.le_trans hm h.hcap, h.hmax, fun k hk => by
    have hk' : k < L.length := by rw [List.length_take] at hk; omega
    rw [List.getElem_take]; exact h.cell k hk'⟩
theorem sli_drop {α : Type} {enc : α → Value} {w : World} {b off len cap m : Nat} {L : List α} (h : SlG enc w (some ⟨b, off, none⟩) b off len cap L) (hm : m ≤ len) : SlG enc w (some ⟨b, off + m, none⟩) b (off + m) (len - m) (cap - m) (L.drop m) :=
  ⟨by rw [List.length_drop, h.hl], fun _ => rfl, fun h0 => h.hb (by omega), by have := h.hcap; omega, by have := h.hmax; omega, fun k hk => by
    have hk' : m + k < L.length := by rw [List.length_drop] at hk; omega
    rw [List.getElem_drop, Nat.add_assoc]; exact h.cell (m + k) hk'⟩
def dscC (x y : Int) : Int := cmpI y x
theorem tot_dscC : Tot dscC := ⟨fun x y => tot_cmpI.three y x, fun x y => tot_cmpI.turn y x, fun x y z h1 h2 => tot_cmpI.trans z y x h2 h1⟩
theorem dsc1_any (x y : Int) (w : World) : Calls Tryz.prog 60 #[.int .i64 x, .int .i64 y] w fun e w' => e = .returned (.int .i64 (dscC x y)) ∧ w = w' := by
  have H := Lib.hid (fun W => cmpI_any y x W)
  unfold dscC
  generalize cmpI y x = c at *
  go_enter Tryz.func60, Tryz.ntmps60
  go_wp2_with fail
  refine (H.out _).mono ?_
  rintro e w1 ⟨rfl, rfl⟩
  go_wp2
  go_ret
  exact ⟨rfl, rfl⟩
theorem dsc2_any {bx : Nat} {x : Int} {W : World} (h : W.cell? ⟨bx, 0, none⟩ = some (.int .i64 x)) (y : Int) : Calls Tryz.prog 61 #[.int .i64 y, .pointer (some ⟨bx, 0, none⟩)] W fun e w' => e = .returned (.bool (decide (x < y))) ∧ W = w' := by
  go_enter Tryz.func61, Tryz.ntmps61
  go_wp2
  go_ret
  exact ⟨rfl, rfl⟩
theorem dsc_mono {L : List Int} (h : SrtG dscC L) (x : Int) (i j : Nat) (hi : i < L.length) (hj : j < L.length) (hij : i ≤ j) (hf : decide (x < L[i]'hi) = false) : decide (x < L[j]'hj) = false := by
  rcases Nat.lt_or_eq_of_le hij with h1 | h1
  · have := h i j (Nat.zero_le _) h1 hj
    rw [getL hi, getL hj] at this
    unfold ltOf dscC at this
    rw [cmpI_less] at this
    rw [decide_eq_false_iff_not] at *
    omega
  · subst h1; exact hf
def DscC (n : Nat) : Prop := ∀ {a : Option Addr} {b off len cap : Nat} {L : List Int} {w : World}, len ≤ n → SlI w a b off len cap L → len ≤ 1000000 →
    Calls Tryz.prog 42 #[.slice a len cap] w fun e w' => e = .returned (.int .i64 (dscN L : Nat)) ∧ Below w.heap.size w w'
set_option maxHeartbeats 4000000 in
set_option maxRecDepth 100000 in
theorem dsc_all : ∀ (n : Nat), DscC n := by
  intro n
  induction n with
  | zero =>
    intro a b off len cap L w hn h _
    have h0 : len = 0 := by omega
    have HD := Lib.hid (dsc_short (L := L) (by rw [h.hl]; omega))
    have k1 : (len : Int) < 2 := by omega
    have k2 : decide ((len : Int) < 2) = true := decide_eq_true k1
    clear h
    go_enter Tryz.func42, Tryz.ntmps42
    go_wp2_with fail
    go_ret
    exact ⟨by rw [HD.out]; rfl, Below.refl _ _⟩
  | succ n ih =>
    intro a b off len cap L w hn h hlen
    by_cases h2 : len < 2
    · have HD := Lib.hid (dsc_short (L := L) (by rw [h.hl]; omega))
      have k1 : (len : Int) < 2 := by omega
      have k2 : decide ((len : Int) < 2) = true := decide_eq_true k1
      clear h ih
      go_enter Tryz.func42, Tryz.ntmps42
      go_wp2_with fail
      go_ret
      exact ⟨by rw [HD.out]; rfl, Below.refl _ _⟩
    · obtain rfl := h.ha (by omega)
      have k1 : ¬ (len : Int) < 2 := by omega
      have k2 : decide ((len : Int) < 2) = false := decide_eq_false k1
      have hcap := h.hcap
      have hmax := h.hmax
      unfold maxLen at hmax
      obtain ⟨m, hm⟩ : ∃ m, len / 2 = m := ⟨_, rfl⟩
      have m1 : 1 ≤ m := by omega
      have m2 : m < len := by omega
      have HA := Lib.hid (sli_take h (m := m) (by omega))
      have HR := Lib.hid (sli_drop h (m := m) (by omega))
      have HE := Lib.hid (show dscN L = dscN (L.take m) + dscN (L.drop m) + sumK (L.take m) (L.drop m) (L.drop m).length by
        rw [← dsc_split, List.take_append_drop])
      have q1 : IntKind.i64.wrap ((len : Int) / 2) = (m : Int) := by rw [IntWalk.i64_in _ (by omega)]; omega
      have q2 : IntKind.i64.wrap ((len : Int).tdiv 2) = (m : Int) := by rw [Int.tdiv_eq_ediv_of_nonneg (by omega), IntWalk.i64_in _ (by omega)]; omega
      have q3 : (len : Int).tdiv 2 = (m : Int) := by rw [Int.tdiv_eq_ediv_of_nonneg (by omega)]; omega
      have q4 : (len : Int) / 2 = (m : Int) := by omega
      have c1 : ¬ cap = m := by omega
      have c2 : (m : Int) ≤ (len : Int) := by omega
      have c3 : (m : Int) ≤ (cap : Int) := by omega
      have HIH : Hid (DscC n) := Lib.hid ih
      clear h ih hm
      go_enter Tryz.func42, Tryz.ntmps42
      go_wp2_with fail
      go_quiet (fail)
      go_wp2_with fail
      have HB1 := Lib.hid (bel_drewN (Below.refl w.heap.size w) nq)
      have HA1 := Lib.hid (HA.out.drewN nq)
      have HR1 := Lib.hid (HR.out.drewN nq)
      clear HA HR
      generalize w.drewN nq = w1 at *
      refine (HIH.out (show m ≤ n by omega) HA1.out (by omega)).mono ?_
      rintro e w2 ⟨rfl, hb⟩
      have HB2 := Lib.hid (HB1.out.trans (hb.mono HB1.out.size))
      have HA2 := Lib.hid (HA1.out.keep hb)
      have HR2 := Lib.hid (HR1.out.keep hb)
      clear hb HA1 HR1 HB1
      have d1 := dsc_le (L.take m) (by rw [HA2.out.hl]; omega)
      have d2 := dsc_le (L.drop m) (by rw [HR2.out.hl]; omega)
      go_wp2_with fail
      refine (HIH.out (show len - m ≤ n by omega) HR2.out (by omega)).mono ?_
      rintro e w3 ⟨rfl, hb⟩
      have HB3 := Lib.hid (HB2.out.trans (hb.mono HB2.out.size))
      have HA3 := Lib.hid (HA2.out.keep hb)
      have HR3 := Lib.hid (HR2.out.keep hb)
      clear hb HA2 HR2 HB2 HIH
      obtain ⟨A, hA⟩ : ∃ A, L.take m = A := ⟨_, rfl⟩
      obtain ⟨R, hR⟩ : ∃ R, L.drop m = R := ⟨_, rfl⟩
      rw [hA] at HA3 HE d1
      rw [hR] at HR3 HE d2
      rw [hA, hR]
      clear hA hR q1 q2 q3 q4 c1 c2 c3
      have HAl := Lib.hid HA3.out.hl
      have HRl := Lib.hid HR3.out.hl
      generalize dscN A = dA at *
      generalize dscN R = dR at *
      go_wp2_with fail
      refine (clnI_any (fun _ => rfl) HA3.out (by omega)).mono ?_
      rintro e w4 ⟨v, rfl, hown, hB4⟩
      have hsr := srtI_any (enc := Value.int .i64) (fun _ => rfl) tot_dscC HAl.out hown (by omega) hB4.size 60 #[] (enters_of Tryz.func60 (by kernel_rfl) rfl) (fun _ W _ x y => grw_same (dsc1_any x y W))
      have HSR := Lib.hid hsr
      have HB4 := Lib.hid hB4
      clear hsr hown hB4
      go_wp2_with fail
      refine HSR.out.mono ?_
      rintro e w5 ⟨rfl, A', hp, hso, hown5, hB5⟩
      have hl' : A'.length = m := hp.length_eq.trans HAl.out
      obtain ⟨aS, bS, cS, rfl, hsS, _, _⟩ := own_sl hl' hown5
      have HP := Lib.hid hp
      have HSO := Lib.hid hso
      have HSS := Lib.hid hsS
      have HB35 := Lib.hid (HB4.out.trans hB5)
      have HR5 := Lib.hid (HR3.out.keep HB35.out)
      have HB5 := Lib.hid (HB3.out.trans (HB35.out.mono HB3.out.size))
      clear hp hso hl' hsS hown5 hB5 HSR HB4 HB35 HA3 HR3 HB3
      go_wp2_with fail
      go_loopw [5, 33] (fun s5 s33 wr => ∃ (k : Nat), k ≤ len - m ∧ s5 = .int .i64 ((dA + dR + sumK A R k : Nat) : Int) ∧ s33 = .int .i64 (k : Int) ∧ Hid (Below w5.heap.size w5 wr)) (fun _ s33 _ => ((len - m : Nat) - (intOf s33)).toNat)
      case atStart => exact ⟨0, Nat.zero_le _, by simp [sumK], rfl, Lib.hid (Below.refl _ _)⟩
      case round =>
        obtain ⟨k, hk, rfl, rfl, HB⟩ := hrel
        by_cases hlt : k < len - m
        · have l1 : (k : Int) < ((len - m : Nat) : Int) := by omega
          have hkR : k < R.length := by rw [HRl.out]; exact hlt
          have cx := (HR5.out.keep HB.out).cell k hkR
          have hcap5 := HR5.out.hcap
          have HST := Lib.hid (sumK_step A R k hkR)
          have hs0 := sumK_le A R k
          have hs1 : k * A.length ≤ 1000000 * 1000000 := Nat.mul_le_mul (by omega) (by rw [HAl.out]; omega)
          have hs2 : sumK A R k ≤ 1000000000000 := by omega
          have hce : A'.countP (fun y => decide (R[k]'hkR < y)) = A.countP fun y => decide (R[k]'hkR < y) := HP.out.countP_eq _
          have hcl : (A.countP fun y => decide (R[k]'hkR < y)) ≤ 1000000 := Nat.le_trans List.countP_le_length (by rw [HAl.out]; omega)
          have hcnt := fun (W5 : World) (h5 : Below wr.heap.size wr W5) (hx5 : W5.cell? ⟨wr.heap.size, 0, none⟩ = some (.int .i64 (R[k]'hkR))) (hs5 : wr.heap.size < W5.heap.size) =>
            cntI_any (sel := fun y => decide (R[k]'hkR < y)) ((HSS.out.keep HB.out).keep h5) 61 #[.pointer (some ⟨wr.heap.size, 0, none⟩)]
              (enters_of Tryz.func61 (by kernel_rfl) rfl) (by omega) (fun i j hi hj hij => dsc_mono HSO.out _ i j hi hj hij)
              (fun W6 h6 y _ => grw_same (dsc2_any ((h6.cell (p := ⟨wr.heap.size, 0, none⟩) hs5).trans hx5) y))
          rw [hce] at hcnt
          generalize R[k]'hkR = x at *
          generalize (A.countP fun y => decide (x < y)) = c at *
          generalize sumK A R k = sk at *
          have HCN := Lib.hid hcnt
          clear hcnt hce hs0 hs1
          go_wp2_with fail
          refine (HCN.out _ ((Below.refl _ _).alloc (Nat.le_refl _) _) ?hx ?hs).mono ?_
          case hx => exact box1_cell wr _ _
          case hs => simp
          rintro e w6 ⟨rfl, hG⟩
          have HB6 := Lib.hid (HB.out.trans ((((Below.refl wr.heap.size wr).alloc (Nat.le_refl _) (.cells #[.int .i64 x] 3)).trans (hG.below.mono (by simp))).mono HB.out.size))
          clear hG HCN HB cx
          go_wp2_with fail
          go_roundw
          case rel => exact ⟨k + 1, by omega, by rw [HST.out]; go_num, by go_num, HB6⟩
          case measure => simp [intOf]; omega
        · obtain rfl : k = len - m := by omega
          have l1 : ¬ ((len - m : Nat) : Int) < ((len - m : Nat) : Int) := by omega
          go_wp2
          go_ret
          exact ⟨by rw [HE.out, HRl.out]; rfl, HB5.out.trans (HB.out.mono HB5.out.size)⟩
theorem dsc_any {a : Option Addr} {b off len cap : Nat} {L : List Int} {w : World} (h : SlI w a b off len cap L) (hlen : len ≤ 1000000) :
    Calls Tryz.prog 42 #[.slice a len cap] w fun e w' => e = .returned (.int .i64 (dscN L : Nat)) ∧ Below w.heap.size w w' := dsc_all len (Nat.le_refl _) h hlen
end Go.Proofs.YtogdkgcgckdehaaGreat
/- preorder.ties at pairs: the keys of the map, and a round's two steps. -/
namespace Go.Proofs.YtogdkgcgckdehaaGreat
open Go.RowKit Go.Sort Go.Maps Go.MapKept Go.ChangeMaps

theorem laidP : laidOutB Tryz.prog = true := by kernel_rfl
theorem rowP : 52 < Tryz.prog.types.size := of_decide_eq_true (by kernel_rfl)
theorem wideP : (match Tryz.prog.underlying 52 with | some (.array _ _) | some (.struct _) => true | _ => false) = true := by rw [Tryz.underlying52]
set_option maxRecDepth 100000 in
theorem keyLawP : WideMaps.KeyLaw Tryz.prog 52 := deep_law_laid laidP (m := 2) (by omega) rowP (by kernel_rfl) wideP
theorem lawP : Keyed Tryz.prog 52 := Keyed.of_law keyLawP
def Wf2 (p : Int × Int) : Prop := (Lit.int .i64 p.1).wf = true ∧ (Lit.int .i64 p.2).wf = true
def klP (p : Int × Int) : Lit := .string (keyBytes [.int .i64 p.1, .int .i64 p.2])
def valP (p : Int × Int) : Value := .agg #[.int .i64 p.1, .int .i64 p.2]
theorem cellsP : Tryz.prog.cellsOf 52 = 2 := by kernel_rfl
theorem cellsI : Tryz.prog.cellsOf 3 = 1 := by kernel_rfl
theorem keyP (p : Int × Int) (h : Wf2 p) : keyOf Tryz.prog 52 (valP p) = some (klP p) := by
  obtain ⟨h1, h2⟩ := h
  have hs : ∃ n, Tryz.prog.types.size + 1 = n + 1 + 1 := ⟨Tryz.prog.types.size - 1, by have := rowP; omega⟩
  obtain ⟨n, hn⟩ := hs
  have hf : (valP p).formed Tryz.prog 52 = true := by simp [valP, Value.formed, Tryz.underlying52, cellsP]
  have hk : Tryz.prog.keyType 52 = true := by kernel_rfl
  unfold keyOf
  rw [Tryz.underlying52]
  simp only [hk, hf, Bool.and_self, if_true, hn]
  have e1 : ∀ (x : Int), (Lit.int .i64 x).wf = true → Tryz.prog.keyLits (n + 1) 3 [.int .i64 x] = some [.int .i64 x] := fun x hx => by
    unfold Program.keyLits
    simp [Tryz.underlying3, hx]
  have e2 : Tryz.prog.keyLits (n + 1 + 1) 52 (valP p).cells.toList = some [.int .i64 p.1, .int .i64 p.2] := by
    unfold Program.keyLits
    simp [Tryz.underlying52, valP, Value.cells, cellsP, cellsI, List.range, List.range.loop, e1 p.1 h1, e1 p.2 h2]
  rw [e2]
  rfl
theorem klP_inj (p q : Int × Int) (hp : Wf2 p) (hq : Wf2 q) (h : klP p = klP q) : p = q := by
  have h1 := keyP p hp
  rw [h] at h1
  have := keyLawP.inj h1 (keyP q hq)
  obtain ⟨p1, p2⟩ := p
  obtain ⟨q1, q2⟩ := q
  unfold valP at this
  simpa using this
/-- 'seen[x]++' at a key of several cells: what its three operations do, whichever comes first -/
theorem entry_round {w : World} {b k : Nat} {D : DataW Unit} (h : w.ownsMap Tryz.prog 52 (plainElem Tryz.prog 3) b k D) (hk : k < maxLen) (p : Int × Int) (hp : Wf2 p) {c : Int} (hc : D.atKey (klP p) (D64 0) = D64 c) (hw : (Lit.int .i64 (c + 1)).wf = true) :
    ∃ (v0 : Value) (st : Nat) (w1 w2 : World), (Instr.mapEntry 82 (.map (some b)) (valP p)).run Tryz.prog w = .ok (.tuple #[v0, goInt st]) w1 ∧
      (Instr.lookup 82 (.map (some b)) (valP p) false).run Tryz.prog w = .ok (.int .i64 c) w ∧ (Instr.lookup 82 (.map (some b)) (valP p) false).run Tryz.prog w1 = .ok (.int .i64 c) w1 ∧
      (Instr.entryStore 82 (.map (some b)) (goInt st) (.int .i64 (c + 1))).run Tryz.prog w1 = .ok () w2 ∧
      w2.ownsMap Tryz.prog 52 (plainElem Tryz.prog 3) b (k + 1) (D.put (klP p) (D64 (c + 1))) ∧ w.grownBy w2 (some b) ∧ w.grownBy w1 (some b) := by
  have hkey := keyP p hp
  have hz : ∀ u : World, (zeroValue 3).run Tryz.prog u = .ok (.int .i64 0) u := fun u => zeroI u
  have hown := h
  obtain ⟨es, clock, hb, F, hs, hD⟩ := h
  have ht := Tryz.underlying82
  obtain ⟨v0, st, es1, clock1, hrun, hv0, hst⟩ := WideElems.entry_then_store keyLawP ht hz hb F hkey
  obtain ⟨c0, hl0, hc0, _⟩ := hown.lookup_int lawP ht Tryz.underlying3 (hz w) hkey
  obtain rfl := D64_inj (hc0.symm.trans hc)
  have hw1 : (setBlock w b (.map es1 clock1)).heap[b]? = some (.map es1 clock1) := heap_setBlock_same hb _
  obtain ⟨es', clock', hes, hmu⟩ := hst (setBlock w b (.map es1 clock1)) (.int .i64 (c0 + 1)) hw1
  obtain ⟨w2, hup, ho2, hg2⟩ := hown.update lawP ht hk hkey (plainElem_int Tryz.underlying3 hw)
  have e2 : w2 = setBlock w b (.map es' clock') := by
    have := hup.symm.trans hmu
    simpa using this
  have e3 : setBlock (setBlock w b (.map es1 clock1)) b (.map es' clock') = setBlock w b (.map es' clock') := by
    unfold setBlock
    simp
  have hlook : ∃ D1, (setBlock w b (.map es1 clock1)).ownsMap Tryz.prog 52 (plainElem Tryz.prog 3) b (k + 1) D1 ∧ D1.atKey (klP p) (D64 0) = D64 c0 := by
    rcases keyLawP.find w hkey es.toList F.keys with ⟨h1, h2⟩ | ⟨j, e0, h1, h2, h3⟩
    · have hr : (Instr.mapEntry 82 (.map (some b)) (valP p)).run Tryz.prog w = .ok (.tuple #[.int .i64 0, goInt clock]) (setBlock w b (.map (es.push ⟨valP p, .int .i64 0, clock⟩) (clock + 1))) := by
        simp [Instr.mapEntry, run_underlying ht, MapKept.run_getObj_map hb, keyLawP.check w false hkey, h1, hz, MapKept.run_setObj_map _ hb, Result.andThen, setBlock]
      have hu : (Instr.mapUpdate 82 (.map (some b)) (valP p) (.int .i64 0)).run Tryz.prog w = .ok () (setBlock w b (.map (es.push ⟨valP p, .int .i64 0, clock⟩) (clock + 1))) := by
        simp [Instr.mapUpdate, run_underlying ht, MapKept.run_getObj_map hb, keyLawP.check w false hkey, h1, MapKept.run_setObj_map _ hb, Result.andThen, setBlock]
      obtain ⟨w3, hup3, ho3, _⟩ := hown.update lawP ht hk hkey (plainElem_int Tryz.underlying3 (by decide : (Lit.int .i64 0).wf = true))
      have e4 : w3 = setBlock w b (.map es1 clock1) := by
        have a1 := hup3.symm.trans hu
        have a2 := hr.symm.trans hrun
        simp only [Result.ok.injEq, true_and] at a1
        simp only [Result.ok.injEq] at a2
        rw [a1, a2.2]
      rw [e4] at ho3
      refine ⟨_, ho3, ?_⟩
      rw [atKey_put_same ⟨_, hD⟩ (show WideAt.IsKeyLit (klP p) from trivial)]
      have hno : D.atKey (klP p) (D64 0) = D64 0 := by
        have hlz : (Instr.lookup 82 (.map (some b)) (valP p) false).run Tryz.prog w = .ok (.int .i64 0) w := by
          simp [Instr.lookup, run_underlying ht, MapKept.run_getObj_map hb, keyLawP.check w es.isEmpty hkey, h1, hz, Result.andThen]
        have := hl0.symm.trans hlz
        simp only [Result.ok.injEq, Value.int.injEq, true_and, and_true] at this
        rw [hc0, this]
      exact hno.symm.trans hc
    · have hj : es[j]? = some e0 := by simpa using h2
      have hsame : es.modify j (fun e => { e with key := valP p }) = es := by
        apply Array.ext'
        rw [Array.toList_modify]
        apply List.ext_getElem?
        intro i
        rw [List.getElem?_modify]
        by_cases e : j = i
        · subst e
          simp [h2]
          rw [← h3]
        · simp [e]
      have hr : ∃ v1 n1, (Instr.mapEntry 82 (.map (some b)) (valP p)).run Tryz.prog w = .ok (.tuple #[v1, n1]) (setBlock w b (.map es clock)) := by
        refine ⟨e0.val, goInt e0.born, ?_⟩
        simp [Instr.mapEntry, run_underlying ht, MapKept.run_getObj_map hb, keyLawP.check w false hkey, h1, hj, h3, keyLawP.stays w hkey, hsame, MapKept.run_setObj_map _ hb, Result.andThen, setBlock]
      obtain ⟨v1, n1, hr⟩ := hr
      have a2 := hr.symm.trans hrun
      simp only [Result.ok.injEq] at a2
      rw [← a2.2]
      exact ⟨D, ⟨es, clock, heap_setBlock_same hb _, F, by omega, hD⟩, hc⟩
  obtain ⟨D1, ho1, hc1⟩ := hlook
  obtain ⟨c1, hl1, hc1', _⟩ := ho1.lookup_int lawP ht Tryz.underlying3 (hz _) hkey
  obtain rfl := D64_inj (hc1'.symm.trans hc1)
  refine ⟨v0, st, setBlock w b (.map es1 clock1), w2, hrun, hl0, hl1, ?_, ho2, hg2, ⟨rfl, rfl, rfl, by simp [setBlock], fun i _ hi => heap_setBlock_other hb _ (fun e => hi (by rw [e]))⟩⟩
  rw [hes, e3, e2]
end Go.Proofs.YtogdkgcgckdehaaGreat
/- preorder.ties at pairs: the walk. -/
namespace Go.Proofs.YtogdkgcgckdehaaGreat
open Go.RowKit Go.Sort Go.Maps

set_option maxHeartbeats 2000000 in
set_option maxRecDepth 100000 in
theorem tiesP_any {g n : Nat} {L : List (Int × Int)} {w : World} (h : PrA w g n L) (hlen : n ≤ 1000000) (hwf : ∀ x ∈ L, Wf2 x) :
    Calls Tryz.prog 38 #[.slice (some ⟨g, 0, none⟩) n n] w fun e w' => e = .returned (.int .i64 (pcN eqP L : Nat)) ∧ Below w.heap.size w w' := by
  have hmm := @run_makeMap Tryz.prog
  have HS := Lib.hid h
  have HW := Lib.hid hwf
  clear h hwf
  go_enter Tryz.func38, Tryz.ntmps38
  go_wp2_with fail
  go_loopw [3, 10] (fun s3 s10 wr => ∃ (k : Nat) (D : DataW Unit), k ≤ n ∧ s3 = .int .i64 (pcN eqP (L.take k) : Nat) ∧ s10 = .int .i64 (k : Int) ∧ Hid (wr.ownsMap Tryz.prog 52 (plainElem Tryz.prog 3) w.heap.size k D) ∧ Hid (CntD Wf2 klP D (fun x => (L.take k).countP fun y => decide (y = x))) ∧ Hid (Below w.heap.size w wr)) (fun _ s10 _ => (n - (intOf s10)).toNat)
  case atStart => exact ⟨0, _, Nat.zero_le _, rfl, rfl, Lib.hid (World.ownsMap_made _ _ _ _), Lib.hid (cntD_empty _ _), Lib.hid ((Below.refl _ _).alloc (Nat.le_refl _) _)⟩
  case round =>
    obtain ⟨k, D, hk, rfl, rfl, HO, HC, HB⟩ := hrel
    by_cases hlt : k < n
    · have l1 : (k : Int) < (n : Int) := by omega
      have hkL : k < L.length := by rw [HS.out.hl]; exact hlt
      obtain ⟨x1, x2⟩ := (HS.out.keep HB.out).cell k hkL
      have HWX := Lib.hid (HW.out _ (List.getElem_mem hkL))
      have hat0 : D.atKey (klP (L[k]'hkL)) (D64 0) = D64 (((L.take k).countP fun y => decide (y = L[k]'hkL) : Nat) : Int) := HC.out.2 (L[k]'hkL) HWX.out
      have htie := tie_step L k hkL
      have HPUT := Lib.hid (fun c hc => CntD.put (kl := klP) (fun _ => (trivial : True)) klP_inj HC.out (L[k]'hkL) HWX.out (c := c) hc)
      rw [← List.take_succ_eq_append_getElem hkL] at HPUT
      have hn1 := pc_bound eqP (L.take k)
      have hn2 : (L.take k).length ≤ k := List.length_take_le _ _
      have hn3 : (L.take k).countP (fun y => decide (y = L[k]'hkL)) ≤ (L.take k).length := List.countP_le_length
      have hn4 : (L.take k).length * (L.take k).length ≤ 1000000 * 1000000 := Nat.mul_le_mul (by omega) (by omega)
      have HT := Lib.hid htie
      obtain ⟨x, hx⟩ : ∃ x, L[k]'hkL = x := ⟨_, rfl⟩
      rw [hx] at x1 x2 HWX hat0 HPUT HT hn3
      obtain ⟨m, hm⟩ : ∃ m, ((L.take k).countP fun y => decide (y = x)) = m := ⟨_, rfl⟩
      rw [hm] at hat0 HPUT HT hn3
      have HAT := Lib.hid hat0
      obtain ⟨t, ht⟩ : ∃ t, pcN eqP (L.take k) = t := ⟨_, rfl⟩
      rw [ht] at HT hn1 ⊢
      have b1 : t ≤ 1000000000000 := by omega
      have b2 : m ≤ 1000000 := by omega
      clear hx hm ht hat0 htie hn1 hn2 hn3 hn4 HC
      obtain ⟨xa, xb⟩ := x
      simp only at x1 x2
      go_wp2_with (first
        | (at_lookup; refine wpList_lookup_own_int _ rfl _ _ 82 rfl 52 3 .i64 lawP Tryz.underlying82 Tryz.underlying3 (zeroI _) w.heap.size k _ rfl (HO.out.alloc _) _ _ rfl (keyP (xa, xb) HWX.out) ?_; intro c hat _; obtain rfl := D64_inj (hat.symm.trans HAT.out); clear hat))
      have hz0 : wr.heap.size < (wr.alloc (.cells #[.int .i64 xa, .int .i64 xb] 52)).heap.size := by simp
      have hz1 : w.heap.size < wr.heap.size := HO.out.lt
      have hB1 : Below w.heap.size w (wr.alloc (.cells #[.int .i64 xa, .int .i64 xb] 52)) := HB.out.alloc HB.out.size _
      have y1 : (wr.alloc (.cells #[.int .i64 xa, .int .i64 xb] 52)).cell? ⟨wr.heap.size, 0, none⟩ = some (.int .i64 xa) := by unfold World.cell?; rw [heap_alloc_new]; rfl
      have y2 : (wr.alloc (.cells #[.int .i64 xa, .int .i64 xb] 52)).cell? ⟨wr.heap.size, 1, none⟩ = some (.int .i64 xb) := by unfold World.cell?; rw [heap_alloc_new]; rfl
      have hoA := HO.out.alloc (.cells #[.int .i64 xa, .int .i64 xb] 52)
      generalize wr.alloc (.cells #[.int .i64 xa, .int .i64 xb] 52) = W at *
      generalize wr.heap.size = bx at *
      obtain ⟨v0, st, wA, wB, r1, r2, r3, r4, ho2, hg2, hg1⟩ := entry_round (w := W.drew) hoA (by unfold maxLen; omega) (xa, xb) HWX.out HAT.out (WalkArith.wf_i64 (by omega))
      have z1 : wA.cell? ⟨bx, 0, none⟩ = some (.int .i64 xa) := (World.cell?_of_block (hg1.block bx hz0 (by simp; omega))).trans y1
      have z2 : wA.cell? ⟨bx, 1, none⟩ = some (.int .i64 xb) := (World.cell?_of_block (hg1.block bx hz0 (by simp; omega))).trans y2
      have HO2 := Lib.hid ho2
      have HB2 := Lib.hid ((bel_drewN hB1 1).grown hg2 (bel_drewN hB1 1).size (fun j hj => by cases hj; exact Nat.le_refl _))
      simp only [valP] at r1 r2 r3 r4
      replace r4 : (Instr.entryStore 82 (.map (some w.heap.size)) (.int .i64 (st : Int)) (.int .i64 ((m : Int) + 1))).run Tryz.prog wA = .ok () wB := r4
      clear ho2 hg2 hg1 hoA hB1 HO HB hz0 hz1 x1 x2
      have wm : IntKind.i64.wrap ((m : Int) + 1) = (m : Int) + 1 := IntWalk.i64_in _ (by omega)
      go_region
      all_goals
        go_wp2_with fail
        go_roundw
        case rel => exact ⟨k + 1, _, by omega, by rw [HT.out]; go_num, by go_num, HO2, Lib.hid (HPUT.out _ rfl), HB2⟩
        case measure => simp [intOf]; omega
    · obtain rfl : k = n := by omega
      have l1 : ¬ (k : Int) < (k : Int) := by omega
      have HE := Lib.hid (show L.take k = L from List.take_of_length_le (by rw [HS.out.hl]; exact Nat.le_refl _))
      go_wp2
      go_ret
      exact ⟨by rw [HE.out]; rfl, HB.out⟩
end Go.Proofs.YtogdkgcgckdehaaGreat
/- preorder.Inversions. -/
namespace Go.Proofs.YtogdkgcgckdehaaGreat
open Go.RowKit Go.Sort

theorem infoP : (Tryz.prog.info? 52).map (fun i => (i.zero, i.size, i.bytes)) = some (some (.agg #[.int .i64 0, .int .i64 0]), 2, 16) := by kernel_rfl
theorem flat_rep (n : Nat) : (madeCells (Value.agg #[.int .i64 0, .int .i64 0]).cells (n * 2)).toList = flatP (List.replicate n (0, 0)) := by
  have h : (madeCells (Value.agg #[.int .i64 0, .int .i64 0]).cells (n * 2)).toList = List.replicate (n * 2) (Value.int .i64 0) := by
    apply List.ext_getElem?
    intro j
    unfold madeCells
    by_cases hj : j < n * 2
    · simp [hj, Value.cells]
      rcases Nat.mod_two_eq_zero_or_one j with e | e <;> simp [e]
    · simp [hj, Value.cells]
  rw [h]
  induction n with
  | zero => rfl
  | succ n ih =>
    rw [show (n + 1) * 2 = n * 2 + 2 by omega, List.replicate_succ, List.replicate_succ]
    have e1 : flatP (List.replicate (n + 1) ((0 : Int), (0 : Int))) = .int .i64 0 :: .int .i64 0 :: flatP (List.replicate n (0, 0)) := rfl
    rw [e1, ← ih]
    · apply List.ext_getElem?
      intro j
      unfold madeCells
      by_cases hj : j < n * 2
      · simp [hj, Value.cells]
        rcases Nat.mod_two_eq_zero_or_one j with e | e <;> simp [e]
      · simp [hj, Value.cells]
theorem zip_get {A B : List Int} {k : Nat} (h : A.length = B.length) (hk : k < A.length) : (A.zip B).getD k (0, 0) = (A.getD k 0, B.getD k 0) := by
  have h1 : k < (A.zip B).length := by rw [List.length_zip]; omega
  simp [List.getD, List.getElem?_eq_getElem h1, hk, show k < B.length by omega]
theorem setP_next {len k : Nat} {Z P : List (Int × Int)} {v : Int × Int} (hZ : Z.length = len) (hk : k < len) (hv : P.getD k (0, 0) = v) (h : ∀ j, j < k → Z.getD j (0, 0) = P.getD j (0, 0)) : ∀ j, j < k + 1 → (Z.set k v).getD j (0, 0) = P.getD j (0, 0) := by
  intro j hj
  by_cases e : j = k
  · subst e
    simp [List.getD, hZ, hk]
    rw [← hv]
    rfl
  · have := h j (by omega)
    simp only [List.getD] at this ⊢
    rw [List.getElem?_set_ne (by omega)]
    exact this
theorem eq_getDP {A B : List (Int × Int)} (hl : A.length = B.length) (h : ∀ j, j < A.length → A.getD j (0, 0) = B.getD j (0, 0)) : A = B := by
  apply List.ext_getElem hl
  intro j h1 h2
  have := h j h1
  simpa [List.getD, h1, h2] using this
theorem own2_blk {w : World} {base g e n cap : Nat} {xs : List Value} (h : w.ownsRow base e 2 (.slice (some ⟨g, 0, none⟩) n cap) n xs) : g < w.heap.size := (h.lt g rfl).2
theorem sl2_any {a a' : Option Addr} {b b' off off' len len' cap cap' : Nat} {A B : List Int} {w : World} (hA : SlI w a b off len cap A) (hB : SlI w a' b' off' len' cap' B) :
    SlL (w.alloc (.cells #[.slice a len cap, .slice a' len' cap'] 28)) (some ⟨w.heap.size, 0, none⟩) w.heap.size 0 2 2 [⟨a, b, off, cap, A⟩, ⟨a', b', off', cap', B⟩] := by
  have hBe : Below w.heap.size w (w.alloc (.cells #[.slice a len cap, .slice a' len' cap'] 28)) := (by repeat (first | with_reducible exact Below.refl _ _ | (with_reducible refine Below.setCell ?_ (by first | exact Nat.le_refl _ | omega | (simp; done) | (simp; omega)) _) | (with_reducible refine Below.alloc ?_ (by first | exact Nat.le_refl _ | omega | (simp; done) | (simp; omega)) _) | with_reducible refine Below.drew ?_ | with_reducible refine bel_drewN ?_ _ | (with_reducible refine bel_by (by with_reducible assumption) (by first | exact Nat.le_refl _ | omega | (simp; done) | (simp; omega)) ?_)))
  have e1 := hA.hl
  have e2 := hB.hl
  refine ⟨⟨rfl, fun _ => rfl, fun _ => by simp, Nat.le_refl _, by decide, fun k hk => ?_⟩, fun r hr => ?_⟩
  · match k, hk with
    | 0, _ =>
      show _ = some (Li.val ⟨a, b, off, cap, A⟩)
      unfold World.cell? Li.val
      rw [heap_alloc_new]
      simp [e1]
    | 1, _ =>
      show _ = some (Li.val ⟨a', b', off', cap', B⟩)
      unfold World.cell? Li.val
      rw [heap_alloc_new]
      simp [e2]
  · simp only [List.mem_cons, List.not_mem_nil, or_false] at hr
    rcases hr with rfl | rfl
    · unfold Li.ok; simp only; rw [e1]; exact hA.keep hBe
    · unfold Li.ok; simp only; rw [e2]; exact hB.keep hBe
theorem lis2 (a a' : Option Addr) (b b' off off' cap cap' : Nat) (A B : List Int) : lis [⟨a, b, off, cap, A⟩, ⟨a', b', off', cap', B⟩] = [A, B] := rfl
set_option maxHeartbeats 2000000 in
set_option maxRecDepth 100000 in
theorem inv_no {a a' : Option Addr} {b b' off off' len len' cap cap' : Nat} {A B : List Int} {w : World} (hA : SlI w a b off len cap A) (hB : SlI w a' b' off' len' cap' B) (hz : len ≤ 1000000) (hz' : len' ≤ 1000000) {c : Int} (hc : crkL [A, B] = c) (h0 : c ≠ 0) :
    Calls Tryz.prog 19 #[.slice a len cap, .slice a' len' cap'] w fun e w' => e = .returned (.tuple #[.int .i64 0, .int .i64 0, .int .i64 c]) ∧ Below w.heap.size w w' := by
  have hck := crk_any (sl2_any hA hB) (fun r hr => by
    simp only [List.mem_cons, List.not_mem_nil, or_false] at hr
    rcases hr with rfl | rfl
    · simp only; rw [hA.hl]; exact hz
    · simp only; rw [hB.hl]; exact hz')
  rw [lis2, hc] at hck
  have HC := Lib.hid hck
  have hBe : Below w.heap.size w (w.alloc (.cells #[.slice a len cap, .slice a' len' cap'] 28)) := (by repeat (first | with_reducible exact Below.refl _ _ | (with_reducible refine Below.setCell ?_ (by first | exact Nat.le_refl _ | omega | (simp; done) | (simp; omega)) _) | (with_reducible refine Below.alloc ?_ (by first | exact Nat.le_refl _ | omega | (simp; done) | (simp; omega)) _) | with_reducible refine Below.drew ?_ | with_reducible refine bel_drewN ?_ _ | (with_reducible refine bel_by (by with_reducible assumption) (by first | exact Nat.le_refl _ | omega | (simp; done) | (simp; omega)) ?_)))
  have HB := Lib.hid hBe
  have k0 : (c != 0) = true := by simpa using h0
  have k1 : (c == 0) = false := by simpa using h0
  clear hck hBe hA hB hc h0
  go_enter Tryz.func19, Tryz.ntmps19
  go_wp2_with fail
  refine HC.out.mono ?_
  rintro e w1 ⟨rfl, hb⟩
  have HB1 := Lib.hid (HB.out.trans (hb.mono HB.out.size))
  clear hb HB HC
  go_wp2
  go_ret3
  exact ⟨rfl, HB1.out⟩
/-- the pairs of two rankings, laid one behind the other -/
def InvPost (w : World) (A B : List Int) (e : Ending) (w' : World) : Prop :=
  e = .returned (.tuple #[.int .i64 (pcN oppP (A.zip B) : Nat), .int .i64 (pcN halfP (A.zip B) : Nat), .int .i64 0]) ∧ Below w.heap.size w w'
theorem inv_nums {A B : List Int} {L' : List (Int × Int)} (hl : A.length = B.length) (hp : L'.Perm (A.zip B)) (hs : SrtG cmpP L') : dscN (L'.map Prod.snd) = pcN oppP (A.zip B) := by
  rw [← pc_perm opp_comm hp]
  refine opp_sorted (L := L') ?_
  rw [List.pairwise_iff_getElem]
  intro i j hi hj hij
  have := hs i j (Nat.zero_le _) hij hj
  rw [getL hi, getL hj] at this
  unfold ltOf at this
  simpa using this
set_option maxHeartbeats 4000000 in
set_option maxRecDepth 100000 in
theorem inv_ok {a a' : Option Addr} {b b' off off' len cap cap' : Nat} {A B : List Int} {w : World} (hA : SlI w a b off len cap A) (hB : SlI w a' b' off' len cap' B) (hz : len ≤ 1000000) (hwA : ∀ x ∈ A, (Lit.int .i64 x).wf = true) (hwB : ∀ x ∈ B, (Lit.int .i64 x).wf = true) (hc : crkL [A, B] = 0) :
    Calls Tryz.prog 19 #[.slice a len cap, .slice a' len cap'] w (InvPost w A B) := by
  have hck := crk_any (sl2_any hA hB) (fun r hr => by
    simp only [List.mem_cons, List.not_mem_nil, or_false] at hr
    rcases hr with rfl | rfl
    · simp only; rw [hA.hl]; exact hz
    · simp only; rw [hB.hl]; exact hz)
  rw [lis2, hc] at hck
  have HC := Lib.hid hck
  have hBe : Below w.heap.size w (w.alloc (.cells #[.slice a len cap, .slice a' len cap'] 28)) := (by repeat (first | with_reducible exact Below.refl _ _ | (with_reducible refine Below.setCell ?_ (by first | exact Nat.le_refl _ | omega | (simp; done) | (simp; omega)) _) | (with_reducible refine Below.alloc ?_ (by first | exact Nat.le_refl _ | omega | (simp; done) | (simp; omega)) _) | with_reducible refine Below.drew ?_ | with_reducible refine bel_drewN ?_ _ | (with_reducible refine bel_by (by with_reducible assumption) (by first | exact Nat.le_refl _ | omega | (simp; done) | (simp; omega)) ?_)))
  have HB := Lib.hid hBe
  have HSA := Lib.hid hA
  have HSB := Lib.hid hB
  have HWA := Lib.hid hwA
  have HWB := Lib.hid hwB
  have HLL := Lib.hid (show A.length = B.length by rw [hA.hl, hB.hl])
  obtain ⟨ip, hip, hp0, hp1, hp2⟩ := info_parts infoP
  obtain ⟨iz, hi, hz0, hz1, hz2⟩ := info_parts infoI
  clear hck hBe hA hB hc hwA hwB
  go_enter Tryz.func19, Tryz.ntmps19
  go_wp2_with fail
  refine HC.out.mono ?_
  rintro e w1 ⟨rfl, hb⟩
  have HB1 := Lib.hid (HB.out.trans (hb.mono HB.out.size))
  have HSA1 := Lib.hid (HSA.out.keep HB1.out)
  have HSB1 := Lib.hid (HSB.out.keep HB1.out)
  clear hb HB HC HSA HSB
  obtain ⟨w2, hrun, hown, hgrow⟩ := run_make_full (P := Tryz.prog) w1 w1.heap.size 49 52 ip (.agg #[.int .i64 0, .int .i64 0]) 2 Tryz.underlying49 hip hp0 hp1 .i64 .i64 len (by rw [hp2]; omega) (by unfold maxLen; omega) (Nat.le_refl _)
  have hB2 : Below w1.heap.size w1 w2 := (Below.refl _ _).grown hgrow (Nat.le_refl _) (by simp)
  rw [flat_rep] at hown
  have HO2 := Lib.hid hown
  have HB2 := Lib.hid hB2
  clear hown hgrow hB2
  obtain ⟨gz, hgz⟩ : ∃ gz, w1.heap.size = gz := ⟨_, rfl⟩
  rw [hgz] at hrun HO2 HB2
  have HGZ := Lib.hid hgz
  clear hgz
  go_wp2_with fail
  clear hrun
  go_loopw [26] (fun s26 wr => ∃ (k : Nat) (Z : List (Int × Int)), k ≤ len ∧ s26 = .int .i64 (k : Int) ∧ Hid (wr.ownsRow gz 52 2 (.slice (some ⟨gz, 0, none⟩) len len) len (flatP Z)) ∧ Hid (Below gz w1 wr) ∧ Hid (Z.length = len) ∧ Hid (∀ j, j < k → Z.getD j (0, 0) = (A.zip B).getD j (0, 0))) (fun s26 _ => (len - (intOf s26)).toNat)
  case atStart => exact ⟨0, List.replicate len (0, 0), Nat.zero_le _, rfl, HO2, HB2, Lib.hid (by simp), Lib.hid (fun j h => absurd h (Nat.not_lt_zero j))⟩
  case round =>
    clear HO2 HB2
    obtain ⟨k, Z, hk, rfl, HO, HB, HZL, HZV⟩ := hrel
    by_cases hlt : k < len
    · have l1 : (k : Int) < (len : Int) := by omega
      obtain rfl := HSA1.out.ha (by omega)
      obtain rfl := HSB1.out.ha (by omega)
      have hkA : k < A.length := by rw [HSA1.out.hl]; exact hlt
      have hkB : k < B.length := by rw [HSB1.out.hl]; exact hlt
      have x1 := (HSA1.out.keep (HGZ.out ▸ HB.out)).cell k hkA
      have x2 := (HSB1.out.keep (HGZ.out ▸ HB.out)).cell k hkB
      have hcap := HSA1.out.hcap
      have hmax := HSA1.out.hmax
      have hcap' := HSB1.out.hcap
      have hmax' := HSB1.out.hmax
      unfold maxLen at hmax hmax'
      have HV := Lib.hid (show (A.zip B).getD k (0, 0) = (A[k]'hkA, B[k]'hkB) by rw [zip_get HLL.out hkA]; simp [List.getD, hkA, hkB])
      have f1 : wr.frozen? ⟨gz, k * 2, none⟩ = false := HO.out.frozenAt _
      have f2 : wr.frozen? ⟨gz, k * 2 + 1, none⟩ = false := HO.out.frozenAt _
      have hg0 := flatP_get Z k (by rw [HZL.out]; exact hlt)
      have y1 : wr.cell? ⟨gz, k * 2, none⟩ = some (.int .i64 (Z[k]'(by rw [HZL.out]; exact hlt)).1) := by rw [HO.out.cellAt _ (by omega)]; exact hg0.1
      have y2 : wr.cell? ⟨gz, k * 2 + 1, none⟩ = some (.int .i64 (Z[k]'(by rw [HZL.out]; exact hlt)).2) := by rw [HO.out.cellAt _ (by omega)]; exact hg0.2
      clear hg0
      generalize (Z[k]'(by rw [HZL.out]; exact hlt)).1 = o1 at *
      generalize (Z[k]'(by rw [HZL.out]; exact hlt)).2 = o2 at *
      generalize A[k]'hkA = p at *
      generalize B[k]'hkB = q at *
      have HO' := Lib.hid HO
      go_wp2_with fail
      go_region
      all_goals
        go_wp2_with fail
        go_roundw
        case rel =>
          have h1 := (World.ownsRow.stored (w := wr.drew) HO.out (k * 2) (.int .i64 p)).1
          have h2 := (h1.stored (k * 2 + 1) (.int .i64 q)).1
          rw [flatP_set Z k p q (by rw [HZL.out]; exact hlt)] at h2
          exact ⟨k + 1, Z.set k (p, q), by omega, by go_num, Lib.hid h2, Lib.hid (((bel_drewN HB.out 1).setCell (Nat.le_refl _) _).setCell (Nat.le_refl _) _), Lib.hid (by rw [List.length_set]; exact HZL.out), Lib.hid (setP_next HZL.out hlt HV.out HZV.out)⟩
        case measure => simp [intOf]; omega
    · obtain rfl : k = len := by omega
      have l1 : ¬ (k : Int) < (k : Int) := by omega
      have hZe : Z = A.zip B := eq_getDP (by rw [HZL.out, List.length_zip, ← HLL.out, Nat.min_self, HSA1.out.hl]) (fun j hj => HZV.out j (by rw [← HZL.out]; exact hj))
      have hgzw := own2_blk HO.out
      have HPR := Lib.hid (pra_own HO.out HZL.out)
      have HBr := Lib.hid (show Below w1.heap.size w1 wr from HGZ.out ▸ HB.out)
      have HA3 := Lib.hid (HSA1.out.keep HBr.out)
      have HB3 := Lib.hid (HSB1.out.keep HBr.out)
      have HB0 := Lib.hid (HB1.out.trans (HBr.out.mono HB1.out.size))
      have HZE := Lib.hid hZe
      have hwP : ∀ x ∈ Z, Wf2 x := by
        intro x hx
        rw [hZe] at hx
        obtain ⟨x1, x2⟩ := x
        have := List.of_mem_zip hx
        exact ⟨HWA.out _ this.1, HWB.out _ this.2⟩
      have HWP := Lib.hid hwP
      have hlA : A.length = k := HSA1.out.hl
      have HH := Lib.hid (half_ties HLL.out)
      have n1 := pc_bound eqP A
      have n2 := pc_bound eqP B
      have n3 := pc_bound eqP Z
      have m1 : A.length * A.length ≤ 1000000 * 1000000 := Nat.mul_le_mul (by omega) (by omega)
      have m2 : B.length * B.length ≤ 1000000 * 1000000 := Nat.mul_le_mul (by rw [← HLL.out]; omega) (by rw [← HLL.out]; omega)
      have m3 : Z.length * Z.length ≤ 1000000 * 1000000 := Nat.mul_le_mul (by rw [HZL.out]; omega) (by rw [HZL.out]; omega)
      have o1 : pcN eqP A ≤ 1000000000000 := by omega
      have o2 : pcN eqP B ≤ 1000000000000 := by omega
      have o3 : pcN eqP Z ≤ 1000000000000 := by omega
      clear HO HB HZV HSA1 HSB1 n1 n2 n3 m1 m2 m3 hZe hwP hgzw
      go_wp2_with fail
      refine (tiesI_any HA3.out hz HWA.out).mono ?_
      rintro e w3 ⟨rfl, hb⟩
      have HPR3 := Lib.hid (HPR.out.keep hb)
      have HB4 := Lib.hid (HB3.out.keep hb)
      have HB03 := Lib.hid (HB0.out.trans (hb.mono HB0.out.size))
      have HG3 := Lib.hid (Nat.le_trans HBr.out.size hb.size)
      clear hb HPR HA3 HB3 HB0
      go_wp2_with fail
      refine (tiesI_any HB4.out hz HWB.out).mono ?_
      rintro e w4 ⟨rfl, hb⟩
      have HPR4 := Lib.hid (HPR3.out.keep hb)
      have HB04 := Lib.hid (HB03.out.trans (hb.mono HB03.out.size))
      have HG4 := Lib.hid (Nat.le_trans HG3.out hb.size)
      clear hb HPR3 HB4 HB03 HG3
      go_wp2_with fail
      refine (tiesP_any HPR4.out hz HWP.out).mono ?_
      rintro e w5 ⟨rfl, hb⟩
      have HPR5 := Lib.hid (HPR4.out.keep hb)
      have HB05 := Lib.hid (HB04.out.trans (hb.mono HB04.out.size))
      have HG5 := Lib.hid (Nat.le_trans HG4.out hb.size)
      clear hb HPR4 HB04 HG4
      rw [HZE.out] at o3 HPR5 ⊢
      have HTOT := Lib.hid (show ((pcN eqP A : Nat) : Int) + ((pcN eqP B : Nat) : Int) - 2 * ((pcN eqP (A.zip B) : Nat) : Int) = ((pcN halfP (A.zip B) : Nat) : Int) by
        have := HH.out
        have e1 : pcN eqP A = pcN (fun x y : Int => decide (x = y)) A := rfl
        have e2 : pcN eqP B = pcN (fun x y : Int => decide (x = y)) B := rfl
        have e3 : pcN eqP (A.zip B) = pcN (fun p q : Int × Int => decide (p = q)) (A.zip B) := rfl
        omega)
      generalize pcN eqP A = tA at *
      generalize pcN eqP B = tB at *
      generalize pcN eqP (A.zip B) = tP at *
      have hsr := srtP_any HPR5.out HG5.out (Nat.le_of_eq HGZ.out) hz
      have HSR := Lib.hid hsr
      clear hsr
      go_wp2_with fail
      refine HSR.out.mono ?_
      rintro e w6 ⟨rfl, L', hp, hso, hpr, hB6⟩
      have HOPP := Lib.hid (inv_nums HLL.out hp hso)
      have HPR6 := Lib.hid hpr
      have HB06 := Lib.hid (show Below w.heap.size w w6 from HB05.out.trans (hB6.mono (by have := HB1.out.size; omega)))
      clear hp hso hpr hB6 HSR HPR5 HB05 HG5 o1 o2 o3 HH
      obtain ⟨w7, hrun, hown, hgrow⟩ := run_make_full (P := Tryz.prog) w6 w6.heap.size 28 3 iz (.int .i64 0) 1 Tryz.underlying28 hi hz0 hz1 .i64 .i64 k (by rw [hz2]; omega) (by unfold maxLen; omega) (Nat.le_refl _)
      have HB7 := Lib.hid ((Below.refl w6.heap.size w6).grown hgrow (Nat.le_refl _) (by simp))
      have HO7 := Lib.hid (show w7.ownsRow w6.heap.size 3 1 (.slice (some ⟨w6.heap.size, 0, none⟩) k k) k ((List.replicate k (0 : Int)).map (Value.int .i64)) by
        have e : (madeCells (Value.int .i64 0).cells (k * 1)).toList = (List.replicate k (0 : Int)).map (Value.int .i64) := by
          rw [List.map_replicate, Nat.mul_one]
          exact toList_madeCells_one _ _
        rw [← e]; exact hown)
      clear hown hgrow
      obtain ⟨g2, hg2⟩ : ∃ g2, w6.heap.size = g2 := ⟨_, rfl⟩
      rw [hg2] at hrun HO7 HB7
      have HG2 := Lib.hid hg2
      clear hg2
      go_wp2_with fail
      clear hrun
      go_loopw [58] (fun s58 wr => ∃ (j : Nat) (Y : List Int), j ≤ k ∧ s58 = .int .i64 (j : Int) ∧ Hid (wr.ownsRow g2 3 1 (.slice (some ⟨g2, 0, none⟩) k k) k (Y.map (Value.int .i64))) ∧ Hid (Below g2 w6 wr) ∧ Hid (Y.length = k) ∧ Hid (∀ i, i < j → Y.getD i 0 = (L'.map Prod.snd).getD i 0)) (fun s58 _ => (k - (intOf s58)).toNat)
      case atStart => exact ⟨0, List.replicate k 0, Nat.zero_le _, rfl, HO7, HB7, Lib.hid (by simp), Lib.hid (fun j h => absurd h (Nat.not_lt_zero j))⟩
      case round =>
        clear HO7 HB7
        obtain ⟨j, Y, hj, rfl, HO, HB, HYL, HYV⟩ := hrel
        by_cases hlj : j < k
        · have l2 : (j : Int) < (k : Int) := by omega
          have hjL : j < L'.length := by rw [HPR6.out.hl]; exact hlj
          obtain ⟨x1, x2⟩ := (HPR6.out.keep (HG2.out ▸ HB.out)).cell j hjL
          have HV := Lib.hid (show (L'.map Prod.snd).getD j 0 = (L'[j]'hjL).2 by simp [List.getD, hjL])
          obtain ⟨hgz2, _⟩ := own_blk HO.out
          have HOA := fun (o : Obj) => HO.out.alloc o
          have f1 := fun (o : Obj) => (HOA o).frozenAt j
          have y1 := fun (o : Obj) => (show (_ : World).cell? ⟨g2, j, none⟩ = some (.int .i64 (Y[j]'(by rw [HYL.out]; exact hlj))) from by rw [(HOA o).cellAt j (by omega), List.getElem?_map, List.getElem?_eq_getElem (by rw [HYL.out]; exact hlj)]; rfl)
          generalize (Y[j]'(by rw [HYL.out]; exact hlj)) = y0 at *
          generalize (L'[j]'hjL) = p at *
          obtain ⟨p1, p2⟩ := p
          simp only at x1 x2
          have hp2 := f1 (.cells #[.int .i64 p1, .int .i64 p2] 52)
          have hp3 := y1 (.cells #[.int .i64 p1, .int .i64 p2] 52)
          clear f1 y1 HOA
          go_wp2_with fail
          go_roundw
          case rel =>
            have hst := HO.out.stored j (.int .i64 p2)
            rw [← List.map_set] at hst
            exact ⟨j + 1, Y.set j p2, by omega, by go_num, Lib.hid (hst.1.alloc _), Lib.hid ((HB.out.setCell (p := ⟨g2, j, none⟩) (Nat.le_refl g2) _).alloc (by have := HB.out.size; rw [HG2.out] at this; simpa using this) _), Lib.hid (by rw [List.length_set]; exact HYL.out), Lib.hid (setI_next HYL.out hlj HV.out HYV.out)⟩
          case measure => simp [intOf]; omega
        · obtain rfl : j = k := by omega
          have l2 : ¬ (j : Int) < (j : Int) := by omega
          have HSD := Lib.hid (plc_end HO.out (P := L'.map Prod.snd) (by rw [List.length_map]; exact HPR6.out.hl) HYL.out (by unfold maxLen; omega) HYV.out)
          have HB8 := Lib.hid (HB06.out.trans (HB.out.mono (by have := HB06.out.size; rw [HG2.out] at this; exact this)))
          clear HO HB HYV HYL
          go_wp2_with fail
          refine (dsc_any HSD.out hz).mono ?_
          rw [HOPP.out]
          rintro e w9 ⟨rfl, hb⟩
          have HB9 := Lib.hid (HB8.out.trans (hb.mono HB8.out.size))
          clear hb HB8 HSD
          go_wp2
          go_ret3
          exact ⟨by rw [← HTOT.out]; rfl, HB9.out⟩
end Go.Proofs.YtogdkgcgckdehaaGreat
