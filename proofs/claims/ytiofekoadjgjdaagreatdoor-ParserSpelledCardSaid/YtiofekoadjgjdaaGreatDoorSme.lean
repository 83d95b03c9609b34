/- Contracts of layer 10: Same. -/
import Derived.Test.YtiofekoadjgjdaaGreatDoorSign
import Derived.Test.YtiofekoadjgjdaaGreatDoorDepth
import Derived.Test.YtiofekoadjgjdaaGreatDoorParZ
set_option linter.unusedSimpArgs false
set_option linter.unusedVariables false
namespace Go.Proofs.YtiofekoadjgjdaaGreatDoor
open Go.RowKit

theorem zeroA_mk (k : Int) (t : ByteArray) (n a : Int) : zeroA ⟨k, t, n, a⟩ = ⟨k, t, n, 0⟩ := rfl
theorem zero_same (x y : Tk) : decide (zeroA x = zeroA y) = ((x.k == y.k) && (decide (x.t = y.t) && (x.n == y.n))) := by
  obtain ⟨xk, xt, xn, xa⟩ := x
  obtain ⟨yk, yt, yn, ya⟩ := y
  rw [zeroA_mk, zeroA_mk]
  by_cases h1 : xk = yk <;> by_cases h2 : xt = yt <;> by_cases h3 : xn = yn <;> simp [h1, h2, h3]
set_option maxHeartbeats 4000000 in
set_option maxRecDepth 100000 in
theorem sameAtom_any (x y : Tk) (w : World) : Calls Tryz.prog 28 #[x.val, y.val] w fun e w' => e = .returned (.bool (decide (zeroA x = zeroA y))) ∧ Below w.heap.size w w' := by
  have HR := Lib.hid (zero_same x y)
  generalize decide (zeroA x = zeroA y) = r at *
  obtain ⟨xk, xt, xn, xa⟩ := x
  obtain ⟨yk, yt, yn, ya⟩ := y
  simp only [Tk.val] at HR ⊢
  by_cases h1 : xk = yk
  · by_cases h2 : xt = yt
    · by_cases h3 : xn = yn
      · subst h1 h2 h3
        have HQ := Lib.hid (show r = true by rw [HR.out]; simp)
        clear HR
        go_enter Tryz.func28, Tryz.ntmps28
        go_wp2_with fail
        go_ret
        exact ⟨ret_bool HQ.out.symm, (by repeat (first | with_reducible exact Below.refl _ _ | (with_reducible refine Below.setCell ?_ (by first | exact Nat.le_refl _ | omega | (simp; done) | (simp; omega)) _) | (with_reducible refine Below.alloc ?_ (by first | exact Nat.le_refl _ | omega | (simp; done) | (simp; omega)) _) | with_reducible refine Below.drew ?_ | with_reducible refine bel_drewN ?_ _ | (with_reducible refine bel_by (by with_reducible assumption) (by first | exact Nat.le_refl _ | omega | (simp; done) | (simp; omega)) ?_)))⟩
      · subst h1 h2
        have HQ := Lib.hid (show r = false by rw [HR.out]; simp [h3])
        clear HR
        go_enter Tryz.func28, Tryz.ntmps28
        go_wp2_with fail
        go_ret
        exact ⟨ret_bool HQ.out.symm, (by repeat (first | with_reducible exact Below.refl _ _ | (with_reducible refine Below.setCell ?_ (by first | exact Nat.le_refl _ | omega | (simp; done) | (simp; omega)) _) | (with_reducible refine Below.alloc ?_ (by first | exact Nat.le_refl _ | omega | (simp; done) | (simp; omega)) _) | with_reducible refine Below.drew ?_ | with_reducible refine bel_drewN ?_ _ | (with_reducible refine bel_by (by with_reducible assumption) (by first | exact Nat.le_refl _ | omega | (simp; done) | (simp; omega)) ?_)))⟩
    · subst h1
      have h2l : ¬ xt.toList = yt.toList := fun e => h2 (bs_inj (by rwa [empty_list, empty_list] at e))
      have HQ := Lib.hid (show r = false by rw [HR.out]; simp [h2])
      clear HR h2
      go_enter Tryz.func28, Tryz.ntmps28
      go_wp2_with fail
      go_ret
      exact ⟨ret_bool HQ.out.symm, (by repeat (first | with_reducible exact Below.refl _ _ | (with_reducible refine Below.setCell ?_ (by first | exact Nat.le_refl _ | omega | (simp; done) | (simp; omega)) _) | (with_reducible refine Below.alloc ?_ (by first | exact Nat.le_refl _ | omega | (simp; done) | (simp; omega)) _) | with_reducible refine Below.drew ?_ | with_reducible refine bel_drewN ?_ _ | (with_reducible refine bel_by (by with_reducible assumption) (by first | exact Nat.le_refl _ | omega | (simp; done) | (simp; omega)) ?_)))⟩
  · have HQ := Lib.hid (show r = false by rw [HR.out]; simp [h1])
    clear HR
    go_enter Tryz.func28, Tryz.ntmps28
    go_wp2_with fail
    go_ret
    exact ⟨ret_bool HQ.out.symm, (by repeat (first | with_reducible exact Below.refl _ _ | (with_reducible refine Below.setCell ?_ (by first | exact Nat.le_refl _ | omega | (simp; done) | (simp; omega)) _) | (with_reducible refine Below.alloc ?_ (by first | exact Nat.le_refl _ | omega | (simp; done) | (simp; omega)) _) | with_reducible refine Below.drew ?_ | with_reducible refine bel_drewN ?_ _ | (with_reducible refine bel_by (by with_reducible assumption) (by first | exact Nat.le_refl _ | omega | (simp; done) | (simp; omega)) ?_)))⟩
theorem map_take_step {L M : List Tk} {k : Nat} (hk : k < L.length) (hm : k < M.length) (h : (L.take k).map zeroA = (M.take k).map zeroA) (he : zeroA (L[k]'hk) = zeroA (M[k]'hm)) : (L.take (k + 1)).map zeroA = (M.take (k + 1)).map zeroA := by
  rw [List.take_succ_eq_append_getElem hk, List.take_succ_eq_append_getElem hm, List.map_append, List.map_append, h, List.map_singleton, List.map_singleton, he]
theorem map_get_ne {L M : List Tk} {k : Nat} (hk : k < L.length) (hm : k < M.length) (he : zeroA (L[k]'hk) ≠ zeroA (M[k]'hm)) : L.map zeroA ≠ M.map zeroA := by
  intro e
  apply he
  have h1 : (L.map zeroA)[k]? = (M.map zeroA)[k]? := by rw [e]
  rw [List.getElem?_map, List.getElem?_map, List.getElem?_eq_getElem hk, List.getElem?_eq_getElem hm] at h1
  simpa using h1
set_option maxHeartbeats 4000000 in
set_option maxRecDepth 100000 in
theorem eqT_any {a a' : Option Addr} {b off len cap b' off' len' cap' : Nat} {L M : List Tk} {w : World} (hL : SlT w a b off len cap L) (hM : SlT w a' b' off' len' cap' M) :
    Calls Tryz.prog 27 #[.slice a len cap, .slice a' len' cap', .func (.func 28) #[] #[]] w fun e w' => e = .returned (.bool (decide (L.map zeroA = M.map zeroA))) ∧ Below w.heap.size w w' := by
  have HG := Lib.hid (fun k t n a k' t' n' a' W => sameAtom_any ⟨k, t, n, a⟩ ⟨k', t', n', a'⟩ W)
  simp only [Tk.val] at HG
  have HL := Lib.hid hL
  have HM := Lib.hid hM
  have hm := hL.hmax
  have hcp := hL.hcap
  have hm' := hM.hmax
  have hcp' := hM.hcap
  have hl := hL.hl
  have hl' := hM.hl
  unfold maxLen at hm hm'
  obtain ⟨r, hr⟩ : ∃ r, decide (L.map zeroA = M.map zeroA) = r := ⟨_, rfl⟩
  rw [hr]
  have HR := Lib.hid hr
  clear hL hM hr
  by_cases hne : len = len'
  · subst hne
    go_enter Tryz.func27, Tryz.ntmps27
    go_wp2_with fail
    go_loopw [17] (fun s17 wr => ∃ k : Nat, k ≤ len ∧ s17 = .int .i64 (k : Int) ∧ Hid (Below w.heap.size w wr) ∧ Hid ((L.take k).map zeroA = (M.take k).map zeroA)) (fun s17 _ => (len - (intOf s17)).toNat)
    case atStart => exact ⟨0, Nat.zero_le _, rfl, Lib.hid (Below.refl _ _), Lib.hid rfl⟩
    case round =>
      obtain ⟨k, hk, rfl, HB, HK⟩ := hrel
      by_cases hlt : k < len
      · have hlz : (k : Int) < (len : Int) := by omega
        have hkL : k < L.length := by omega
        have hkM : k < M.length := by omega
        have HLr := Lib.hid (HL.out.keep HB.out)
        have HMr := Lib.hid (HM.out.keep HB.out)
        obtain rfl := HLr.out.ha (by omega)
        obtain rfl := HMr.out.ha (by omega)
        have bb := HLr.out.hb (by omega)
        have bb' := HMr.out.hb (by omega)
        have c0 := HLr.out.c0 k hkL
        have c1 := HLr.out.c1 k hkL
        have c2 := HLr.out.c2 k hkL
        have c3 := HLr.out.c3 k hkL
        have d0 := HMr.out.c0 k hkM
        have d1 := HMr.out.c1 k hkM
        have d2 := HMr.out.c2 k hkM
        have d3 := HMr.out.c3 k hkM
        have HST := Lib.hid (fun he => map_take_step hkL hkM HK.out he)
        have HNE := Lib.hid (fun he => map_get_ne hkL hkM he)
        generalize L[k]'hkL = x at *
        generalize M[k]'hkM = y at *
        obtain ⟨xk, xt, xn, xa⟩ := x
        obtain ⟨yk, yt, yn, ya⟩ := y
        simp only at c0 c1 c2 c3 d0 d1 d2 d3
        have hbs := HB.out.size
        have hbw := HB.out
        have HBA := Lib.hid (show Below w.heap.size w ((wr.alloc (.cells #[.int .i64 xk, .string xt, .int .i64 xn, .int .i64 xa] 51)).alloc (.cells #[.int .i64 yk, .string yt, .int .i64 yn, .int .i64 ya] 51)) from (by repeat (first | with_reducible exact Below.refl _ _ | (with_reducible refine Below.setCell ?_ (by first | exact Nat.le_refl _ | omega | (simp; done) | (simp; omega)) _) | (with_reducible refine Below.alloc ?_ (by first | exact Nat.le_refl _ | omega | (simp; done) | (simp; omega)) _) | with_reducible refine Below.drew ?_ | with_reducible refine bel_drewN ?_ _ | (with_reducible refine bel_by (by with_reducible assumption) (by first | exact Nat.le_refl _ | omega | (simp; done) | (simp; omega)) ?_))))
        clear hbw HLr HMr
        go_wp2_with fail
        refine (HG.out _ _ _ _ _ _ _ _ _).mono ?_
        rintro e w1 ⟨rfl, hb1⟩
        have HB1 := Lib.hid (bel_by hb1 (by simp; omega) HBA.out)
        clear c0 c1 c2 c3 d0 d1 d2 d3 hb1 HBA
        by_cases hq : zeroA ⟨xk, xt, xn, xa⟩ = zeroA ⟨yk, yt, yn, ya⟩
        · rw [decide_eq_true hq]
          have HST2 := Lib.hid (HST.out hq)
          clear hq HST HNE
          go_wp2_with fail
          go_roundw
          case rel => exact ⟨k + 1, by omega, by go_num, HB1, HST2⟩
          case measure => simp [intOf]; omega
        · rw [decide_eq_false hq]
          have HN2 := Lib.hid (HNE.out hq)
          clear hq HST HNE
          go_wp2_with fail
          go_ret
          exact ⟨ret_bool (by rw [← HR.out, decide_eq_false HN2.out]), HB1.out⟩
      · have hlz : ¬ (k : Int) < (len : Int) := by omega
        obtain rfl : k = len := by omega
        have HQ := Lib.hid (show L.map zeroA = M.map zeroA by
          have := HK.out
          rwa [List.take_of_length_le (by omega), List.take_of_length_le (by omega)] at this)
        go_wp2_with fail
        go_ret
        exact ⟨ret_bool (by rw [← HR.out, decide_eq_true HQ.out]), HB.out⟩
  · have hn1 : ((len : Int) != (len' : Int)) = true := by simp; omega
    have hn2 : ((len : Int) == (len' : Int)) = false := by simp; omega
    have hn3 : ¬ (len : Int) = (len' : Int) := by omega
    have HQ := Lib.hid (show L.map zeroA ≠ M.map zeroA by
      intro e
      have := congrArg List.length e
      simp at this
      omega)
    go_enter Tryz.func27, Tryz.ntmps27
    go_wp2_with fail
    go_ret
    exact ⟨ret_bool (by rw [← HR.out, decide_eq_false HQ.out]), Below.refl _ _⟩
end Go.Proofs.YtiofekoadjgjdaaGreatDoor
