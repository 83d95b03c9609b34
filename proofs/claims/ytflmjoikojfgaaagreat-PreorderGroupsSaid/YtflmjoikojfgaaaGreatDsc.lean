/- preorder.descents: the pairs in descending order. -/
import Derived.Test.YtflmjoikojfgaaaGreatPcP
import Derived.Test.YtflmjoikojfgaaaGreatInt
import Derived.Test.YtflmjoikojfgaaaGreatClnI
set_option linter.unusedSimpArgs false
set_option linter.unusedVariables false
namespace Go.Proofs.YtflmjoikojfgaaaGreat
open Go.RowKit Go.Sort

def dscP (x y : Int) : Bool := decide (y < x)
def dscN (L : List Int) : Nat := pcN dscP L
theorem dsc_short {L : List Int} (h : L.length < 2) : dscN L = 0 := by
  match L, h with
  | [], _ => rfl
  | [x], _ => rfl
/-- how many of A are greater, of the first k of R -/
def sumK (A R : List Int) (k : Nat) : Nat := ((R.take k).map fun y => A.countP fun x => decide (y < x)).sum
theorem sumK_step (A R : List Int) (k : Nat) (h : k < R.length) : sumK A R (k + 1) = sumK A R k + A.countP fun x => decide (R[k]'h < x) := by
  unfold sumK
  rw [List.take_succ_eq_append_getElem h, List.map_append, List.sum_append]
  simp
theorem sumK_le (A R : List Int) : ∀ k, sumK A R k ≤ k * A.length
  | 0 => by simp [sumK]
  | k + 1 => by
    have ih := sumK_le A R k
    by_cases h : k < R.length
    · rw [sumK_step A R k h, Nat.add_mul, Nat.one_mul]
      have : (A.countP fun x => decide (R[k]'h < x)) ≤ A.length := List.countP_le_length
      omega
    · have : sumK A R (k + 1) = sumK A R k := by unfold sumK; rw [List.take_of_length_le (by omega), List.take_of_length_le (by omega)]
      rw [this, Nat.add_mul]
      omega
theorem dsc_split (A R : List Int) : dscN (A ++ R) = dscN A + dscN R + sumK A R R.length := by
  unfold dscN sumK
  rw [pc_append, List.take_length]
  rfl
theorem dsc_le (L : List Int) (h : L.length ≤ 1000000) : dscN L ≤ 1000000000000 := by
  have h1 := pc_bound dscP L
  have h2 : L.length * L.length ≤ 1000000 * 1000000 := Nat.mul_le_mul h h
  unfold dscN
  omega
theorem sli_take {α : Type} {enc : α → Value} {w : World} {a : Option Addr} {b off len cap m : Nat} {L : List α} (h : SlG enc w a b off len cap L) (hm : m ≤ len) : SlG enc w a b off m cap (L.take m) :=
  ⟨by rw [List.length_take, h.hl]; omega, fun h0 => h.ha (by omega), fun h0 => h.hb (by omega), Nat.le_trans hm h.hcap, h.hmax, fun k hk => by
    have hk' : k < L.length := by rw [List.length_take] at hk; omega
    rw [List.getElem_take]; exact h.cell k hk'⟩
theorem sli_drop {α : Type} {enc : α → Value} {w : World} {b off len cap m : Nat} {L : List α} (h : SlG enc w (some ⟨b, off, none⟩) b off len cap L) (hm : m ≤ len) : SlG enc w (some ⟨b, off + m, none⟩) b (off + m) (len - m) (cap - m) (L.drop m) :=
  ⟨by rw [List.length_drop, h.hl], fun _ => rfl, fun h0 => h.hb (by omega), by have := h.hcap; omega, by have := h.hmax; omega, fun k hk => by
    have hk' : m + k < L.length := by rw [List.length_drop] at hk; omega
    rw [List.getElem_drop, Nat.add_assoc]; exact h.cell (m + k) hk'⟩
def dscC (x y : Int) : Int := cmpI y x
theorem tot_dscC : Tot dscC := ⟨fun x y => tot_cmpI.three y x, fun x y => tot_cmpI.turn y x, fun x y z h1 h2 => tot_cmpI.trans z y x h2 h1⟩
theorem dsc1_any (x y : Int) (w : World) : Calls Tryz.prog 90 #[.int .i64 x, .int .i64 y] w fun e w' => e = .returned (.int .i64 (dscC x y)) ∧ w = w' := by
  have H := Lib.hid (fun W => cmpI_any y x W)
  unfold dscC
  generalize cmpI y x = c at *
  go_enter Tryz.func90, Tryz.ntmps90
  go_wp2_with fail
  refine (H.out _).mono ?_
  rintro e w1 ⟨rfl, rfl⟩
  go_wp2
  go_ret
  exact ⟨rfl, rfl⟩
theorem dsc2_any {bx : Nat} {x : Int} {W : World} (h : W.cell? ⟨bx, 0, none⟩ = some (.int .i64 x)) (y : Int) : Calls Tryz.prog 91 #[.int .i64 y, .pointer (some ⟨bx, 0, none⟩)] W fun e w' => e = .returned (.bool (decide (x < y))) ∧ W = w' := by
  go_enter Tryz.func91, Tryz.ntmps91
  go_wp2
  go_ret
  exact ⟨rfl, rfl⟩
theorem dsc_mono {L : List Int} (h : SrtG dscC L) (x : Int) (i j : Nat) (hi : i < L.length) (hj : j < L.length) (hij : i ≤ j) (hf : decide (x < L[i]'hi) = false) : decide (x < L[j]'hj) = false := by
  rcases Nat.lt_or_eq_of_le hij with h1 | h1
  · have := h i j (Nat.zero_le _) h1 hj
    rw [getL hi, getL hj] at this
    unfold ltOf dscC at this
    rw [cmpI_less] at this
    rw [decide_eq_false_iff_not] at *
    omega
  · subst h1; exact hf
def DscC (n : Nat) : Prop := ∀ {a : Option Addr} {b off len cap : Nat} {L : List Int} {w : World}, len ≤ n → SlI w a b off len cap L → len ≤ 1000000 →
    Calls Tryz.prog 64 #[.slice a len cap] w fun e w' => e = .returned (.int .i64 (dscN L : Nat)) ∧ Below w.heap.size w w'
set_option maxHeartbeats 4000000 in
set_option maxRecDepth 100000 in
theorem dsc_all : ∀ (n : Nat), DscC n := by
  intro n
  induction n with
  | zero =>
    intro a b off len cap L w hn h _
    have h0 : len = 0 := by omega
    have HD := Lib.hid (dsc_short (L := L) (by rw [h.hl]; omega))
    have k1 : (len : Int) < 2 := by omega
    have k2 : decide ((len : Int) < 2) = true := decide_eq_true k1
    clear h
    go_enter Tryz.func64, Tryz.ntmps64
    go_wp2_with fail
    go_ret
    exact ⟨by rw [HD.out]; rfl, Below.refl _ _⟩
  | succ n ih =>
    intro a b off len cap L w hn h hlen
    by_cases h2 : len < 2
    · have HD := Lib.hid (dsc_short (L := L) (by rw [h.hl]; omega))
      have k1 : (len : Int) < 2 := by omega
      have k2 : decide ((len : Int) < 2) = true := decide_eq_true k1
      clear h ih
      go_enter Tryz.func64, Tryz.ntmps64
      go_wp2_with fail
      go_ret
      exact ⟨by rw [HD.out]; rfl, Below.refl _ _⟩
    · obtain rfl := h.ha (by omega)
      have k1 : ¬ (len : Int) < 2 := by omega
      have k2 : decide ((len : Int) < 2) = false := decide_eq_false k1
      have hcap := h.hcap
      have hmax := h.hmax
      unfold maxLen at hmax
      obtain ⟨m, hm⟩ : ∃ m, len / 2 = m := ⟨_, rfl⟩
      have m1 : 1 ≤ m := by omega
      have m2 : m < len := by omega
      have HA := Lib.hid (sli_take h (m := m) (by omega))
      have HR := Lib.hid (sli_drop h (m := m) (by omega))
      have HE := Lib.hid (show dscN L = dscN (L.take m) + dscN (L.drop m) + sumK (L.take m) (L.drop m) (L.drop m).length by
        rw [← dsc_split, List.take_append_drop])
      have q1 : IntKind.i64.wrap ((len : Int) / 2) = (m : Int) := by rw [IntWalk.i64_in _ (by omega)]; omega
      have q2 : IntKind.i64.wrap ((len : Int).tdiv 2) = (m : Int) := by rw [Int.tdiv_eq_ediv_of_nonneg (by omega), IntWalk.i64_in _ (by omega)]; omega
      have q3 : (len : Int).tdiv 2 = (m : Int) := by rw [Int.tdiv_eq_ediv_of_nonneg (by omega)]; omega
      have q4 : (len : Int) / 2 = (m : Int) := by omega
      have c1 : ¬ cap = m := by omega
      have c2 : (m : Int) ≤ (len : Int) := by omega
      have c3 : (m : Int) ≤ (cap : Int) := by omega
      have HIH : Hid (DscC n) := Lib.hid ih
      clear h ih hm
      go_enter Tryz.func64, Tryz.ntmps64
      go_wp2_with fail
      go_quiet (fail)
      go_wp2_with fail
      have HB1 := Lib.hid (bel_drewN (Below.refl w.heap.size w) nq)
      have HA1 := Lib.hid (HA.out.drewN nq)
      have HR1 := Lib.hid (HR.out.drewN nq)
      clear HA HR
      generalize w.drewN nq = w1 at *
      refine (HIH.out (show m ≤ n by omega) HA1.out (by omega)).mono ?_
      rintro e w2 ⟨rfl, hb⟩
      have HB2 := Lib.hid (HB1.out.trans (hb.mono HB1.out.size))
      have HA2 := Lib.hid (HA1.out.keep hb)
      have HR2 := Lib.hid (HR1.out.keep hb)
      clear hb HA1 HR1 HB1
      have d1 := dsc_le (L.take m) (by rw [HA2.out.hl]; omega)
      have d2 := dsc_le (L.drop m) (by rw [HR2.out.hl]; omega)
      go_wp2_with fail
      refine (HIH.out (show len - m ≤ n by omega) HR2.out (by omega)).mono ?_
      rintro e w3 ⟨rfl, hb⟩
      have HB3 := Lib.hid (HB2.out.trans (hb.mono HB2.out.size))
      have HA3 := Lib.hid (HA2.out.keep hb)
      have HR3 := Lib.hid (HR2.out.keep hb)
      clear hb HA2 HR2 HB2 HIH
      obtain ⟨A, hA⟩ : ∃ A, L.take m = A := ⟨_, rfl⟩
      obtain ⟨R, hR⟩ : ∃ R, L.drop m = R := ⟨_, rfl⟩
      rw [hA] at HA3 HE d1
      rw [hR] at HR3 HE d2
      rw [hA, hR]
      clear hA hR q1 q2 q3 q4 c1 c2 c3
      have HAl := Lib.hid HA3.out.hl
      have HRl := Lib.hid HR3.out.hl
      generalize dscN A = dA at *
      generalize dscN R = dR at *
      go_wp2_with fail
      refine (clnI_any (fun _ => rfl) HA3.out (by omega)).mono ?_
      rintro e w4 ⟨v, rfl, hown, hB4⟩
      have hsr := srtI_any (enc := Value.int .i64) (fun _ => rfl) tot_dscC HAl.out hown (by omega) hB4.size 90 #[] (enters_of Tryz.func90 (by kernel_rfl) rfl) (fun _ W _ x y => grw_same (dsc1_any x y W))
      have HSR := Lib.hid hsr
      have HB4 := Lib.hid hB4
      clear hsr hown hB4
      go_wp2_with fail
      refine HSR.out.mono ?_
      rintro e w5 ⟨rfl, A', hp, hso, hown5, hB5⟩
      have hl' : A'.length = m := hp.length_eq.trans HAl.out
      obtain ⟨aS, bS, cS, rfl, hsS, _, _⟩ := own_sl hl' hown5
      have HP := Lib.hid hp
      have HSO := Lib.hid hso
      have HSS := Lib.hid hsS
      have HB35 := Lib.hid (HB4.out.trans hB5)
      have HR5 := Lib.hid (HR3.out.keep HB35.out)
      have HB5 := Lib.hid (HB3.out.trans (HB35.out.mono HB3.out.size))
      clear hp hso hl' hsS hown5 hB5 HSR HB4 HB35 HA3 HR3 HB3
      go_wp2_with fail
      go_loopw [5, 33] (fun s5 s33 wr => ∃ (k : Nat), k ≤ len - m ∧ s5 = .int .i64 ((dA + dR + sumK A R k : Nat) : Int) ∧ s33 = .int .i64 (k : Int) ∧ Hid (Below w5.heap.size w5 wr)) (fun _ s33 _ => ((len - m : Nat) - (intOf s33)).toNat)
      case atStart => exact ⟨0, Nat.zero_le _, by simp [sumK], rfl, Lib.hid (Below.refl _ _)⟩
      case round =>
        obtain ⟨k, hk, rfl, rfl, HB⟩ := hrel
        by_cases hlt : k < len - m
        · have l1 : (k : Int) < ((len - m : Nat) : Int) := by omega
          have hkR : k < R.length := by rw [HRl.out]; exact hlt
          have cx := (HR5.out.keep HB.out).cell k hkR
          have hcap5 := HR5.out.hcap
          have HST := Lib.hid (sumK_step A R k hkR)
          have hs0 := sumK_le A R k
          have hs1 : k * A.length ≤ 1000000 * 1000000 := Nat.mul_le_mul (by omega) (by rw [HAl.out]; omega)
          have hs2 : sumK A R k ≤ 1000000000000 := by omega
          have hce : A'.countP (fun y => decide (R[k]'hkR < y)) = A.countP fun y => decide (R[k]'hkR < y) := HP.out.countP_eq _
          have hcl : (A.countP fun y => decide (R[k]'hkR < y)) ≤ 1000000 := Nat.le_trans List.countP_le_length (by rw [HAl.out]; omega)
          have hcnt := fun (W5 : World) (h5 : Below wr.heap.size wr W5) (hx5 : W5.cell? ⟨wr.heap.size, 0, none⟩ = some (.int .i64 (R[k]'hkR))) (hs5 : wr.heap.size < W5.heap.size) =>
            cntI_any (sel := fun y => decide (R[k]'hkR < y)) ((HSS.out.keep HB.out).keep h5) 91 #[.pointer (some ⟨wr.heap.size, 0, none⟩)]
              (enters_of Tryz.func91 (by kernel_rfl) rfl) (by omega) (fun i j hi hj hij => dsc_mono HSO.out _ i j hi hj hij)
              (fun W6 h6 y _ => grw_same (dsc2_any ((h6.cell (p := ⟨wr.heap.size, 0, none⟩) hs5).trans hx5) y))
          rw [hce] at hcnt
          generalize R[k]'hkR = x at *
          generalize (A.countP fun y => decide (x < y)) = c at *
          generalize sumK A R k = sk at *
          have HCN := Lib.hid hcnt
          clear hcnt hce hs0 hs1
          go_wp2_with fail
          refine (HCN.out _ ((Below.refl _ _).alloc (Nat.le_refl _) _) ?hx ?hs).mono ?_
          case hx => exact box1_cell wr _ _
          case hs => simp
          rintro e w6 ⟨rfl, hG⟩
          have HB6 := Lib.hid (HB.out.trans ((((Below.refl wr.heap.size wr).alloc (Nat.le_refl _) (.cells #[.int .i64 x] 3)).trans (hG.below.mono (by simp))).mono HB.out.size))
          clear hG HCN HB cx
          go_wp2_with fail
          go_roundw
          case rel => exact ⟨k + 1, by omega, by rw [HST.out]; go_num, by go_num, HB6⟩
          case measure => simp [intOf]; omega
        · obtain rfl : k = len - m := by omega
          have l1 : ¬ ((len - m : Nat) : Int) < ((len - m : Nat) : Int) := by omega
          go_wp2
          go_ret
          exact ⟨by rw [HE.out, HRl.out]; rfl, HB5.out.trans (HB.out.mono HB5.out.size)⟩
theorem dsc_any {a : Option Addr} {b off len cap : Nat} {L : List Int} {w : World} (h : SlI w a b off len cap L) (hlen : len ≤ 1000000) :
    Calls Tryz.prog 64 #[.slice a len cap] w fun e w' => e = .returned (.int .i64 (dscN L : Nat)) ∧ Below w.heap.size w w' := dsc_all len (Nat.le_refl _) h hlen
end Go.Proofs.YtflmjoikojfgaaaGreat
