/- Contracts of layer 10: what wellFormed asks of atoms. -/
import Derived.Test.YtiofekoadjgjdaaGreatDoorVld
import Derived.Test.YtiofekoadjgjdaaGreatDoorAtom
import Derived.Test.YtiofekoadjgjdaaGreatDoorCount
set_option linter.unusedSimpArgs false
set_option linter.unusedVariables false
namespace Go.Proofs.YtiofekoadjgjdaaGreatDoor
open Go.RowKit

def strB (t : Tk) : Bool := !validT t || !atmB t
set_option maxHeartbeats 4000000 in
set_option maxRecDepth 100000 in
theorem strange_any (t : Tk) (hs : t.t.size ≤ 1000000000) (w : World) (hT : Tabs w) : Calls Tryz.prog 39 #[t.val] w fun e w' => e = .returned (.bool (strB t)) ∧ Below w.heap.size w w' := by
  have HV := Lib.hid (fun W hW => valid_any t hs W hW)
  have HA := Lib.hid (fun W => isAtom_any t W)
  have HT := Lib.hid hT
  unfold strB
  obtain ⟨k, s, n, a⟩ := t
  simp only [Tk.val] at HV HA ⊢
  clear hT hs
  go_enter Tryz.func39, Tryz.ntmps39
  go_wp2_with fail
  have HK := Lib.hid (tk_new w ⟨k, s, n, a⟩ 51)
  have HB := Lib.hid (show Below w.heap.size w (w.alloc (.cells #[.int .i64 k, .string s, .int .i64 n, .int .i64 a] 51)) from (by repeat (first | with_reducible exact Below.refl _ _ | (with_reducible refine Below.setCell ?_ (by first | exact Nat.le_refl _ | omega | (simp; done) | (simp; omega)) _) | (with_reducible refine Below.alloc ?_ (by first | exact Nat.le_refl _ | omega | (simp; done) | (simp; omega)) _) | with_reducible refine Below.drew ?_ | with_reducible refine bel_drewN ?_ _ | (with_reducible refine bel_by (by with_reducible assumption) (by first | exact Nat.le_refl _ | omega | (simp; done) | (simp; omega)) ?_))))
  obtain ⟨c0, c1, c2, c3, cf, cl⟩ := HK.out
  simp only at c0 c1 c2 c3
  go_wp2_with fail
  refine (HV.out _ (HT.out.below HB.out)).mono ?_
  rintro e w1 ⟨rfl, hb1⟩
  have HB1 := Lib.hid (HB.out.trans (Below.mono hb1 HB.out.size))
  have HK1 := Lib.hid (HK.out.keep hb1)
  clear c0 c1 c2 c3 cf cl hb1 HK HB
  cases hv : validT ⟨k, s, n, a⟩ with
  | false =>
    go_wp2_with fail
    go_ret
    exact ⟨by rw [hv]; rfl, HB1.out⟩
  | true =>
    obtain ⟨c0, c1, c2, c3, cf, cl⟩ := HK1.out
    simp only at c0 c1 c2 c3
    go_wp2_with fail
    refine (HA.out _).mono ?_
    rintro e w2 ⟨rfl, hb2⟩
    have HB2 := Lib.hid (HB1.out.trans (Below.mono hb2 HB1.out.size))
    clear c0 c1 c2 c3 cf cl hb2 HK1 HB1
    cases ha : atmB ⟨k, s, n, a⟩ <;>
      (go_wp2_with fail
       go_ret
       exact ⟨by rw [hv, ha]; rfl, HB2.out⟩)
set_option maxHeartbeats 4000000 in
set_option maxRecDepth 100000 in
theorem idxT_any {a : Option Addr} {b off len cap : Nat} {L : List Tk} {w : World} (h : SlT w a b off len cap L) (hs : ∀ t ∈ L, t.t.size ≤ 1000000000) (hT : Tabs w) :
    Calls Tryz.prog 53 #[.slice a len cap, .func (.func 39) #[] #[]] w fun e w' => (∃ z : Int, e = .returned (.int .i64 z) ∧ decide (0 ≤ z) = L.any strB) ∧ Below w.heap.size w w' := by
  have HG := Lib.hid (fun k t n a (h : (⟨k, t, n, a⟩ : Tk) ∈ L) W hW => strange_any ⟨k, t, n, a⟩ (hs _ h) W hW)
  simp only [Tk.val] at HG
  have HS := Lib.hid h
  have HT := Lib.hid hT
  have hm := h.hmax
  have hcp := h.hcap
  have hl := h.hl
  unfold maxLen at hm
  clear h hs hT
  go_enter Tryz.func53, Tryz.ntmps53
  go_wp2_with fail
  go_loopw [5, 8] (fun _ s8 wr => ∃ k : Nat, k ≤ len ∧ s8 = .int .i64 (k : Int) ∧ Hid (Below w.heap.size w wr) ∧ Hid ((L.take k).any strB = false)) (fun _ s8 _ => (len - (intOf s8)).toNat)
  case atStart => exact ⟨0, Nat.zero_le _, rfl, Lib.hid (Below.refl _ _), Lib.hid rfl⟩
  case round =>
    obtain ⟨k, hk, rfl, HB, HK⟩ := hrel
    by_cases hlt : k < len
    · have hlz : (k : Int) < (len : Int) := by omega
      have hkL : k < L.length := by omega
      have HSr := Lib.hid (HS.out.keep HB.out)
      obtain rfl := HSr.out.ha (by omega)
      have bb := HSr.out.hb (by omega)
      have c0 := HSr.out.c0 k hkL
      have c1 := HSr.out.c1 k hkL
      have c2 := HSr.out.c2 k hkL
      have c3 := HSr.out.c3 k hkL
      have HTK := Lib.hid (show (L.take (k + 1)).any strB = strB (L[k]'hkL) by
        rw [List.take_succ_eq_append_getElem hkL, List.any_append, HK.out]; simp)
      have HMM := Lib.hid (List.getElem_mem hkL)
      have HAL := Lib.hid (fun h => List.any_eq_true.2 ⟨L[k]'hkL, List.getElem_mem hkL, h⟩ : strB (L[k]'hkL) = true → L.any strB = true)
      generalize L[k]'hkL = x at *
      obtain ⟨xk, xt, xn, xa⟩ := x
      simp only at c0 c1 c2 c3
      have HC := Lib.hid (HG.out xk xt xn xa HMM.out wr (HT.out.below HB.out))
      go_wp2_with fail
      refine HC.out.mono ?_
      rintro e w1 ⟨rfl, hb1⟩
      have hbs := HB.out.size
      have HB1 := Lib.hid (bel_by hb1 hbs HB.out)
      clear c0 c1 c2 c3 hb1 HC HSr
      cases hq : strB ⟨xk, xt, xn, xa⟩ with
      | true =>
        go_wp2_with fail
        go_ret
        exact ⟨⟨_, rfl, by rw [HAL.out hq]; simp⟩, HB1.out⟩
      | false =>
        have HQ := Lib.hid hq
        go_wp2_with fail
        go_roundw
        case rel => exact ⟨k + 1, by omega, by go_num, HB1, Lib.hid (by rw [HTK.out, HQ.out])⟩
        case measure => simp [intOf]; omega
    · have hlz : ¬ (k : Int) < (len : Int) := by omega
      obtain rfl : k = len := by omega
      have HL := Lib.hid (show L.any strB = false by
        have := HK.out
        rwa [List.take_of_length_le (by omega)] at this)
      go_wp2_with fail
      go_ret
      exact ⟨⟨_, rfl, by rw [HL.out]; rfl⟩, HB.out⟩
set_option maxHeartbeats 4000000 in
set_option maxRecDepth 100000 in
theorem contT_any {a : Option Addr} {b off len cap : Nat} {L : List Tk} {w : World} (h : SlT w a b off len cap L) (hs : ∀ t ∈ L, t.t.size ≤ 1000000000) (hT : Tabs w) :
    Calls Tryz.prog 44 #[.slice a len cap, .func (.func 39) #[] #[]] w fun e w' => e = .returned (.bool (L.any strB)) ∧ Below w.heap.size w w' := by
  have HI := Lib.hid (idxT_any h hs hT)
  clear h hs hT
  generalize L.any strB = r at *
  go_enter Tryz.func44, Tryz.ntmps44
  go_wp2_with fail
  refine HI.out.mono ?_
  rintro e w1 ⟨⟨z, rfl, hz⟩, hb1⟩
  have hz2 : decide (z ≥ 0) = r := hz
  go_wp2_with fail
  go_ret
  exact ⟨ret_bool (by first | exact hz2 | (simp [← hz2]; done)), hb1⟩
end Go.Proofs.YtiofekoadjgjdaaGreatDoor
