/- Contract of layer 9's reference: Same. -/
import Derived.Test.YtmokeegebbmdhaaGreatDoorTks
import Derived.Test.YtmokeegebbmdhaaGreatDoorLexJ
import Derived.BigRegion
set_option linter.unusedSimpArgs false
set_option linter.unusedVariables false
namespace Go.Proofs.YtmokeegebbmdhaaGreatDoor
open Go.RowKit

def nrm (pl : Bool) (t : Tk) : Tk := if pl then t else zeroA t
def sameL (pl : Bool) (A B : List Tk) : Bool := decide (A.map (nrm pl) = B.map (nrm pl))
set_option maxHeartbeats 2000000 in
set_option maxRecDepth 100000 in
theorem same_any {w : World} {a1 a2 : Option Addr} {b1 o1 n1 c1 b2 o2 n2 c2 : Nat} {A B : List Tk} (hA : SlT w a1 b1 o1 n1 c1 A) (hB : SlT w a2 b2 o2 n2 c2 B) (pl : Bool) :
    Calls Tryz.prog 10 #[.slice a1 n1 c1, .slice a2 n2 c2, .bool pl] w fun e w' => e = .returned (.bool (sameL pl A B)) ∧ Below w.heap.size w w' := by
  have hlA := hA.hl
  have hlB := hB.hl
  by_cases hn : n1 = n2
  · subst hn
    have hcA := hA.hcap
    have hmA := hA.hmax
    unfold maxLen at hmA
    have HA := Lib.hid hA
    have HB := Lib.hid hB
    clear hA hB hcA
    have hle : n1 ≤ 9223372036854775807 := by have := HA.out.hcap; omega
    clear hmA
    have k0 : (((n1 : Int)) != (n1 : Int)) = false := by simp
    go_enter Tryz.func10, Tryz.ntmps10
    go_wp2_with fail
    go_loopw [7] (fun s7 wr => ∃ k : Nat, k ≤ n1 ∧ s7 = .int .i64 (k : Int) ∧ Hid (Below w.heap.size w wr) ∧ Hid (∀ (j : Nat) (h1 : j < A.length) (h2 : j < B.length), j < k → nrm pl (A[j]'h1) = nrm pl (B[j]'h2))) (fun s7 _ => (n1 - (intOf s7)).toNat)
    case atStart => exact ⟨0, Nat.zero_le _, rfl, Lib.hid (Below.refl _ _), Lib.hid (fun j _ _ h => absurd h (Nat.not_lt_zero j))⟩
    case round =>
      obtain ⟨k, hk, rfl, HBL, HK⟩ := hrel
      by_cases hlt : k < n1
      · have hl : (k : Int) < (n1 : Int) := by omega
        have hkA : k < A.length := by omega
        have hkB : k < B.length := by omega
        have SA := HA.out.keep HBL.out
        have SB := HB.out.keep HBL.out
        obtain rfl := SA.ha (by omega)
        obtain rfl := SB.ha (by omega)
        have ba := SA.hb (by omega)
        have bb := SB.hb (by omega)
        have ca0 := SA.c0 k hkA
        have ca1 := SA.c1 k hkA
        have ca2 := SA.c2 k hkA
        have ca3 := SA.c3 k hkA
        have cb0 := SB.c0 k hkB
        have cb1 := SB.c1 k hkB
        have cb2 := SB.c2 k hkB
        have cb3 := SB.c3 k hkB
        clear SA SB
        obtain ⟨x, hx⟩ : ∃ x, A[k]'hkA = x := ⟨_, rfl⟩
        obtain ⟨y, hy⟩ : ∃ y, B[k]'hkB = y := ⟨_, rfl⟩
        rw [hx] at ca0 ca1 ca2 ca3
        rw [hy] at cb0 cb1 cb2 cb3
        have HX := Lib.hid hx
        have HY := Lib.hid hy
        clear hx hy
        obtain ⟨xk, xt, xn, xa⟩ := x
        obtain ⟨yk, yt, yn, ya⟩ := y
        simp only at ca0 ca1 ca2 ca3 cb0 cb1 cb2 cb3
        go_wp2_with fail
        go_region
        · have tx := (((tk_new wr ⟨xk, xt, xn, xa⟩ 32).keep ((Below.refl _ _).alloc (Nat.le_refl _) (.cells #[.int .i64 yk, .string yt, .int .i64 yn, .int .i64 ya] 32))).keep (Below.refl _ _).drew)
          have ty := ((tk_new (wr.alloc (.cells #[.int .i64 xk, .string xt, .int .i64 xn, .int .i64 xa] 32)) ⟨yk, yt, yn, ya⟩ 32).keep (Below.refl _ _).drew)
          have HB1 := Lib.hid (show Below w.heap.size w ((wr.alloc (.cells #[.int .i64 xk, .string xt, .int .i64 xn, .int .i64 xa] 32)).alloc (.cells #[.int .i64 yk, .string yt, .int .i64 yn, .int .i64 ya] 32)).drew from ((HBL.out.alloc HBL.out.size _).alloc (by have := HBL.out.size; simp; omega) _).drew)
          simp only [World.size_alloc] at tx ty
          generalize ((wr.alloc (.cells #[.int .i64 xk, .string xt, .int .i64 xn, .int .i64 xa] 32)).alloc (.cells #[.int .i64 yk, .string yt, .int .i64 yn, .int .i64 ya] 32)).drew = W at *
          obtain ⟨x0, x1, x2, x3, xf, xl⟩ := tx
          obtain ⟨y0, y1, y2, y3, yf, yl⟩ := ty
          have HSZ := Lib.hid HBL.out.size
          clear HBL
          cases pl with
          | true =>
            by_cases hxy : ⟨xk, xt, xn, xa⟩ = (⟨yk, yt, yn, ya⟩ : Tk)
            · simp only [Tk.mk.injEq] at hxy
              obtain ⟨rfl, rfl, rfl, rfl⟩ := hxy
              go_wp2_with fail
              have hbw := HB1.out
              have hsz := HSZ.out
              go_roundw
              case rel =>
                refine ⟨k + 1, by omega, by go_num, Lib.hid (by repeat (first | with_reducible exact Below.refl _ _ | (with_reducible refine Below.setCell ?_ (by first | exact Nat.le_refl _ | omega | (simp; done) | (simp; omega)) _) | (with_reducible refine Below.alloc ?_ (by first | exact Nat.le_refl _ | omega | (simp; done) | (simp; omega)) _) | with_reducible refine Below.drew ?_ | with_reducible refine bel_drewN ?_ _ | (with_reducible refine bel_by (by with_reducible assumption) (by first | exact Nat.le_refl _ | omega | (simp; done) | (simp; omega)) ?_))), Lib.hid (fun j h1 h2 hj => ?_)⟩
                by_cases e : j = k
                · subst e
                  first | (rw [HX.out, HY.out]; done) | (rw [HX.out, HY.out]; rfl)
                · exact HK.out j h1 h2 (by omega)
              case measure => simp [intOf]; omega
            · have HNE := Lib.hid (show sameL true A B = false by
                unfold sameL
                rw [decide_eq_false_iff_not]
                intro h
                have h2 : (A.map (nrm true))[k]? = (B.map (nrm true))[k]? := by rw [h]
                rw [List.getElem?_map, List.getElem?_map, List.getElem?_eq_getElem hkA, List.getElem?_eq_getElem hkB, HX.out, HY.out] at h2
                exact hxy (by simpa [nrm, zeroA] using h2))
              have HXY := Lib.hid hxy
              clear hxy
              go_wp2_with fail
              all_goals first
                | (exact absurd rfl HXY.out)
                | (go_ret
                   have hbw := HB1.out
                   have hsz := HSZ.out
                   exact ⟨ret_bool HNE.out.symm, (by repeat (first | with_reducible exact Below.refl _ _ | (with_reducible refine Below.setCell ?_ (by first | exact Nat.le_refl _ | omega | (simp; done) | (simp; omega)) _) | (with_reducible refine Below.alloc ?_ (by first | exact Nat.le_refl _ | omega | (simp; done) | (simp; omega)) _) | with_reducible refine Below.drew ?_ | with_reducible refine bel_drewN ?_ _ | (with_reducible refine bel_by (by with_reducible assumption) (by first | exact Nat.le_refl _ | omega | (simp; done) | (simp; omega)) ?_)))⟩)
                | (have q1 : xk = yk := by assumption
                   have q2 : xt.toList = yt.toList := by assumption
                   have q3 : xn = yn := by assumption
                   have q4 : xt = yt := bs_inj (by rw [← empty_list, ← empty_list]; exact q2)
                   have q5 : xa = ya := by assumption
                   exact absurd (by rw [q1, q3, q4, q5]) HXY.out)
          | false =>
            by_cases hxy : (⟨xk, xt, xn, 0⟩ : Tk) = ⟨yk, yt, yn, 0⟩
            · simp only [Tk.mk.injEq, and_true] at hxy
              obtain ⟨rfl, rfl, rfl⟩ := hxy
              go_wp2_with fail
              have hbw := HB1.out
              have hsz := HSZ.out
              go_roundw
              case rel =>
                refine ⟨k + 1, by omega, by go_num, Lib.hid (by repeat (first | with_reducible exact Below.refl _ _ | (with_reducible refine Below.setCell ?_ (by first | exact Nat.le_refl _ | omega | (simp; done) | (simp; omega)) _) | (with_reducible refine Below.alloc ?_ (by first | exact Nat.le_refl _ | omega | (simp; done) | (simp; omega)) _) | with_reducible refine Below.drew ?_ | with_reducible refine bel_drewN ?_ _ | (with_reducible refine bel_by (by with_reducible assumption) (by first | exact Nat.le_refl _ | omega | (simp; done) | (simp; omega)) ?_))), Lib.hid (fun j h1 h2 hj => ?_)⟩
                by_cases e : j = k
                · subst e
                  first | (rw [HX.out, HY.out]; done) | (rw [HX.out, HY.out]; rfl)
                · exact HK.out j h1 h2 (by omega)
              case measure => simp [intOf]; omega
            · have HNE := Lib.hid (show sameL false A B = false by
                unfold sameL
                rw [decide_eq_false_iff_not]
                intro h
                have h2 : (A.map (nrm false))[k]? = (B.map (nrm false))[k]? := by rw [h]
                rw [List.getElem?_map, List.getElem?_map, List.getElem?_eq_getElem hkA, List.getElem?_eq_getElem hkB, HX.out, HY.out] at h2
                exact hxy (by simpa [nrm, zeroA] using h2))
              have HXY := Lib.hid hxy
              clear hxy
              go_wp2_with fail
              all_goals first
                | (exact absurd rfl HXY.out)
                | (go_ret
                   have hbw := HB1.out
                   have hsz := HSZ.out
                   exact ⟨ret_bool HNE.out.symm, (by repeat (first | with_reducible exact Below.refl _ _ | (with_reducible refine Below.setCell ?_ (by first | exact Nat.le_refl _ | omega | (simp; done) | (simp; omega)) _) | (with_reducible refine Below.alloc ?_ (by first | exact Nat.le_refl _ | omega | (simp; done) | (simp; omega)) _) | with_reducible refine Below.drew ?_ | with_reducible refine bel_drewN ?_ _ | (with_reducible refine bel_by (by with_reducible assumption) (by first | exact Nat.le_refl _ | omega | (simp; done) | (simp; omega)) ?_)))⟩)
                | (have q1 : xk = yk := by assumption
                   have q2 : xt.toList = yt.toList := by assumption
                   have q3 : xn = yn := by assumption
                   have q4 : xt = yt := bs_inj (by rw [← empty_list, ← empty_list]; exact q2)
                   skip
                   exact absurd (by rw [q1, q3, q4]) HXY.out)
        · have tx := ((tk_new (wr.alloc (.cells #[.int .i64 yk, .string yt, .int .i64 yn, .int .i64 ya] 32)) ⟨xk, xt, xn, xa⟩ 32).keep (Below.refl _ _).drew)
          have ty := (((tk_new wr ⟨yk, yt, yn, ya⟩ 32).keep ((Below.refl _ _).alloc (Nat.le_refl _) (.cells #[.int .i64 xk, .string xt, .int .i64 xn, .int .i64 xa] 32))).keep (Below.refl _ _).drew)
          have HB1 := Lib.hid (show Below w.heap.size w ((wr.alloc (.cells #[.int .i64 yk, .string yt, .int .i64 yn, .int .i64 ya] 32)).alloc (.cells #[.int .i64 xk, .string xt, .int .i64 xn, .int .i64 xa] 32)).drew from ((HBL.out.alloc HBL.out.size _).alloc (by have := HBL.out.size; simp; omega) _).drew)
          simp only [World.size_alloc] at tx ty
          generalize ((wr.alloc (.cells #[.int .i64 yk, .string yt, .int .i64 yn, .int .i64 ya] 32)).alloc (.cells #[.int .i64 xk, .string xt, .int .i64 xn, .int .i64 xa] 32)).drew = W at *
          obtain ⟨x0, x1, x2, x3, xf, xl⟩ := tx
          obtain ⟨y0, y1, y2, y3, yf, yl⟩ := ty
          have HSZ := Lib.hid HBL.out.size
          clear HBL
          cases pl with
          | true =>
            by_cases hxy : ⟨xk, xt, xn, xa⟩ = (⟨yk, yt, yn, ya⟩ : Tk)
            · simp only [Tk.mk.injEq] at hxy
              obtain ⟨rfl, rfl, rfl, rfl⟩ := hxy
              go_wp2_with fail
              have hbw := HB1.out
              have hsz := HSZ.out
              go_roundw
              case rel =>
                refine ⟨k + 1, by omega, by go_num, Lib.hid (by repeat (first | with_reducible exact Below.refl _ _ | (with_reducible refine Below.setCell ?_ (by first | exact Nat.le_refl _ | omega | (simp; done) | (simp; omega)) _) | (with_reducible refine Below.alloc ?_ (by first | exact Nat.le_refl _ | omega | (simp; done) | (simp; omega)) _) | with_reducible refine Below.drew ?_ | with_reducible refine bel_drewN ?_ _ | (with_reducible refine bel_by (by with_reducible assumption) (by first | exact Nat.le_refl _ | omega | (simp; done) | (simp; omega)) ?_))), Lib.hid (fun j h1 h2 hj => ?_)⟩
                by_cases e : j = k
                · subst e
                  first | (rw [HX.out, HY.out]; done) | (rw [HX.out, HY.out]; rfl)
                · exact HK.out j h1 h2 (by omega)
              case measure => simp [intOf]; omega
            · have HNE := Lib.hid (show sameL true A B = false by
                unfold sameL
                rw [decide_eq_false_iff_not]
                intro h
                have h2 : (A.map (nrm true))[k]? = (B.map (nrm true))[k]? := by rw [h]
                rw [List.getElem?_map, List.getElem?_map, List.getElem?_eq_getElem hkA, List.getElem?_eq_getElem hkB, HX.out, HY.out] at h2
                exact hxy (by simpa [nrm, zeroA] using h2))
              have HXY := Lib.hid hxy
              clear hxy
              go_wp2_with fail
              all_goals first
                | (exact absurd rfl HXY.out)
                | (go_ret
                   have hbw := HB1.out
                   have hsz := HSZ.out
                   exact ⟨ret_bool HNE.out.symm, (by repeat (first | with_reducible exact Below.refl _ _ | (with_reducible refine Below.setCell ?_ (by first | exact Nat.le_refl _ | omega | (simp; done) | (simp; omega)) _) | (with_reducible refine Below.alloc ?_ (by first | exact Nat.le_refl _ | omega | (simp; done) | (simp; omega)) _) | with_reducible refine Below.drew ?_ | with_reducible refine bel_drewN ?_ _ | (with_reducible refine bel_by (by with_reducible assumption) (by first | exact Nat.le_refl _ | omega | (simp; done) | (simp; omega)) ?_)))⟩)
                | (have q1 : xk = yk := by assumption
                   have q2 : xt.toList = yt.toList := by assumption
                   have q3 : xn = yn := by assumption
                   have q4 : xt = yt := bs_inj (by rw [← empty_list, ← empty_list]; exact q2)
                   have q5 : xa = ya := by assumption
                   exact absurd (by rw [q1, q3, q4, q5]) HXY.out)
          | false =>
            by_cases hxy : (⟨xk, xt, xn, 0⟩ : Tk) = ⟨yk, yt, yn, 0⟩
            · simp only [Tk.mk.injEq, and_true] at hxy
              obtain ⟨rfl, rfl, rfl⟩ := hxy
              go_wp2_with fail
              have hbw := HB1.out
              have hsz := HSZ.out
              go_roundw
              case rel =>
                refine ⟨k + 1, by omega, by go_num, Lib.hid (by repeat (first | with_reducible exact Below.refl _ _ | (with_reducible refine Below.setCell ?_ (by first | exact Nat.le_refl _ | omega | (simp; done) | (simp; omega)) _) | (with_reducible refine Below.alloc ?_ (by first | exact Nat.le_refl _ | omega | (simp; done) | (simp; omega)) _) | with_reducible refine Below.drew ?_ | with_reducible refine bel_drewN ?_ _ | (with_reducible refine bel_by (by with_reducible assumption) (by first | exact Nat.le_refl _ | omega | (simp; done) | (simp; omega)) ?_))), Lib.hid (fun j h1 h2 hj => ?_)⟩
                by_cases e : j = k
                · subst e
                  first | (rw [HX.out, HY.out]; done) | (rw [HX.out, HY.out]; rfl)
                · exact HK.out j h1 h2 (by omega)
              case measure => simp [intOf]; omega
            · have HNE := Lib.hid (show sameL false A B = false by
                unfold sameL
                rw [decide_eq_false_iff_not]
                intro h
                have h2 : (A.map (nrm false))[k]? = (B.map (nrm false))[k]? := by rw [h]
                rw [List.getElem?_map, List.getElem?_map, List.getElem?_eq_getElem hkA, List.getElem?_eq_getElem hkB, HX.out, HY.out] at h2
                exact hxy (by simpa [nrm, zeroA] using h2))
              have HXY := Lib.hid hxy
              clear hxy
              go_wp2_with fail
              all_goals first
                | (exact absurd rfl HXY.out)
                | (go_ret
                   have hbw := HB1.out
                   have hsz := HSZ.out
                   exact ⟨ret_bool HNE.out.symm, (by repeat (first | with_reducible exact Below.refl _ _ | (with_reducible refine Below.setCell ?_ (by first | exact Nat.le_refl _ | omega | (simp; done) | (simp; omega)) _) | (with_reducible refine Below.alloc ?_ (by first | exact Nat.le_refl _ | omega | (simp; done) | (simp; omega)) _) | with_reducible refine Below.drew ?_ | with_reducible refine bel_drewN ?_ _ | (with_reducible refine bel_by (by with_reducible assumption) (by first | exact Nat.le_refl _ | omega | (simp; done) | (simp; omega)) ?_)))⟩)
                | (have q1 : xk = yk := by assumption
                   have q2 : xt.toList = yt.toList := by assumption
                   have q3 : xn = yn := by assumption
                   have q4 : xt = yt := bs_inj (by rw [← empty_list, ← empty_list]; exact q2)
                   skip
                   exact absurd (by rw [q1, q3, q4]) HXY.out)
      · obtain rfl : k = n1 := by omega
        have hl : ¬ (k : Int) < (k : Int) := by omega
        have HR := Lib.hid (show sameL pl A B = true by
          unfold sameL
          rw [decide_eq_true_eq]
          apply List.ext_getElem
          · simp [hlA, hlB]
          · intro j h1 h2
            rw [List.getElem_map, List.getElem_map]
            exact HK.out j (by simpa using h1) (by simpa using h2) (by simp at h1; omega))
        go_wp2_with fail
        go_ret
        have hbw := HBL.out
        exact ⟨ret_bool HR.out.symm, (by repeat (first | with_reducible exact Below.refl _ _ | (with_reducible refine Below.setCell ?_ (by first | exact Nat.le_refl _ | omega | (simp; done) | (simp; omega)) _) | (with_reducible refine Below.alloc ?_ (by first | exact Nat.le_refl _ | omega | (simp; done) | (simp; omega)) _) | with_reducible refine Below.drew ?_ | with_reducible refine bel_drewN ?_ _ | (with_reducible refine bel_by (by with_reducible assumption) (by first | exact Nat.le_refl _ | omega | (simp; done) | (simp; omega)) ?_)))⟩
  · have HR := Lib.hid (show sameL pl A B = false by
      unfold sameL
      rw [decide_eq_false_iff_not]
      intro h
      have := congrArg List.length h
      simp only [List.length_map] at this
      omega)
    have k0 : (((n1 : Int)) != (n2 : Int)) = true := by simp; omega
    clear hlA hlB hA hB hn
    go_enter Tryz.func10, Tryz.ntmps10
    go_wp2_with fail
    go_ret
    exact ⟨ret_bool HR.out.symm, (by repeat (first | with_reducible exact Below.refl _ _ | (with_reducible refine Below.setCell ?_ (by first | exact Nat.le_refl _ | omega | (simp; done) | (simp; omega)) _) | (with_reducible refine Below.alloc ?_ (by first | exact Nat.le_refl _ | omega | (simp; done) | (simp; omega)) _) | with_reducible refine Below.drew ?_ | with_reducible refine bel_drewN ?_ _ | (with_reducible refine bel_by (by with_reducible assumption) (by first | exact Nat.le_refl _ | omega | (simp; done) | (simp; omega)) ?_)))⟩
end Go.Proofs.YtmokeegebbmdhaaGreatDoor
