/- The reference's functions on sets: Union, Minus, Subset. -/
import Derived.Test.YtflpehpjemlphaaDoorRSet
set_option linter.unusedSimpArgs false
set_option linter.unusedVariables false
namespace Go.Proofs.YtflpehpjemlphaaDoor
open Go.RowKit

theorem CatPost.low {w w1 : World} {L : List ByteArray} {e : Ending} {w' : World} (h : CatPost w1 L e w') (hB : Below w.heap.size w w1) : CatPost w L e w' := by
  obtain ⟨v, he, ho, hb⟩ := h
  exact ⟨v, he, own_low ho hB.size, hB.trans (hb.mono hB.size)⟩
set_option maxHeartbeats 2000000 in
set_option maxRecDepth 100000 in
theorem runion_any {a a' : Option Addr} {b b' off off' len len' cap cap' : Nat} {A B : List ByteArray} {w : World} (hA : SlS w a b off len cap A) (hB : SlS w a' b' off' len' cap' B) (na : a = none → cap = 0) (nb : a' = none → cap' = 0)
    (h1 : len ≤ 500) (h2 : len' ≤ 500) :
    Calls Tryd.prog 14 #[.slice a len cap, .slice a' len' cap'] w (CatPost w (setL (A ++ B))) := by
  obtain ⟨i0, hi, hz0, hz1, hz2⟩ := info_parts infoS
  have HA := Lib.hid hA
  have HB := Lib.hid hB
  have HN := Lib.hid (hA.nil na)
  have HM := Lib.hid (hB.nil nb)
  have HLA := Lib.hid (show (A.map Value.string).length = len * 1 by rw [List.length_map, hA.hl]; omega)
  have HLB := Lib.hid (show (B.map Value.string).length = len' * 1 by rw [List.length_map, hB.hl]; omega)
  have HO := Lib.hid (show (w.alloc (.cells #[] 9)).ownsRow w.heap.size 9 1 (.slice (some ⟨w.heap.size, 0, none⟩) 0 0) 0 [] from World.ownsRow_made w #[] 0 (Nat.le_refl _) (Nat.zero_le _) (by simp))
  have HW := Lib.hid (show Below w.heap.size w (w.alloc (.cells #[] 9)) from (Below.refl _ _).alloc (Nat.le_refl _) _)
  clear hA hB na nb
  go_enter Tryd.func14, Tryd.ntmps14
  go_wp2_with (at_builtin; go_loud (refine wpList_append_evry _ rfl _ _ 22 rfl w.heap.size 9 i0 (.string ⟨#[]⟩) 1 16 Tryd.underlying22 hi hz0 hz1 hz2 rfl (by decide) (.slice (some ⟨w.heap.size, 0, none⟩) 0 0) 0 [] rfl HO.out a len cap (A.map Value.string) rfl HLA.out HN.out (HA.out.keep HW.out).news (strs_one _) ?n1 ?n2 ?n3 ?_))
  case n1 => unfold maxLen; omega
  case n2 => omega
  case n3 => first | exact HW.out.size | (simp; done) | (simp; omega)
  intro v1 w1 ho hg
  have HW1 := Lib.hid (HW.out.grown hg HW.out.size (fun j hj => (HO.out.lt j hj).1))
  have HO1 := Lib.hid (show w1.ownsRow w.heap.size 9 1 v1 len (A.map Value.string) by simpa using ho)
  clear ho hg HO HW
  go_wp2_with (at_builtin; go_loud (refine wpList_append_evry _ rfl _ _ 22 rfl w.heap.size 9 i0 (.string ⟨#[]⟩) 1 16 Tryd.underlying22 hi hz0 hz1 hz2 rfl (by decide) v1 len (A.map Value.string) rfl HO1.out a' len' cap' (B.map Value.string) rfl HLB.out HM.out (HB.out.keep HW1.out).news (strs_one _) ?n1 ?n2 ?n3 ?_))
  case n1 => unfold maxLen; omega
  case n2 => omega
  case n3 => exact HW1.out.size
  intro v2 w2 ho hg
  have HW2 := Lib.hid (HW1.out.grown hg HW1.out.size (fun j hj => (HO1.out.lt j hj).1))
  obtain ⟨a3, b3, c3, rfl, hs3, n3⟩ := own_any (L := A ++ B) (base := w.heap.size) (v := v2) (w := w2) (by
    have e1 : (A ++ B).length = len + len' := by rw [List.length_append, HA.out.hl, HB.out.hl]
    rw [e1, List.map_append]; exact ho)
  have hl3 : (A ++ B).length ≤ 1000 := by rw [List.length_append, HA.out.hl, HB.out.hl]; omega
  have HR := Lib.hid (rset_any hs3 hl3)
  generalize (A ++ B).length = z at *
  clear ho hg hs3 HO1 HW1
  go_wp2_with fail
  refine HR.out.mono ?_
  intro e w3 h3
  have h4 := h3.low HW2.out
  obtain ⟨v, rfl, ho, hb⟩ := h4
  go_wp2_with fail
  go_ret
  exact ⟨v, rfl, ho, hb⟩
set_option maxHeartbeats 2000000 in
set_option maxRecDepth 100000 in
theorem rminus_any {a a' : Option Addr} {b b' off off' len len' cap cap' : Nat} {A B : List ByteArray} {w : World} (hA : SlS w a b off len cap A) (hB : SlS w a' b' off' len' cap' B) (h1 : len ≤ 500) :
    Calls Tryd.prog 16 #[.slice a len cap, .slice a' len' cap'] w (CatPost w (minL A B)) := by
  obtain ⟨i0, hi, hz0, hz1, hz2⟩ := info_parts infoS
  have HA := Lib.hid hA
  have HB := Lib.hid hB
  have HL := Lib.hid hA.hl
  have hcap := hA.hcap
  have hmax := hA.hmax
  unfold maxLen at hmax
  have HMT := Lib.hid (fun k (hk : k < A.length) => @minF_take A B k hk)
  have HML := Lib.hid (fun k => show (minF (A.take k) B).length ≤ k from Nat.le_trans (List.length_filter_le _ _) (by rw [List.length_take]; exact Nat.min_le_left _ _))
  have HEND := Lib.hid (show setL (minF (A.take len) B) = minL A B by rw [List.take_of_length_le (by rw [hA.hl]; exact Nat.le_refl _), min_set])
  clear hA hB
  go_enter Tryd.func16, Tryd.ntmps16
  go_wp2_with fail
  have HO0 := Lib.hid (show (w.alloc (.cells #[] 9)).ownsRow w.heap.size 9 1 (.slice (some ⟨w.heap.size, 0, none⟩) 0 0) 0 (([] : List ByteArray).map Value.string) from World.ownsRow_made w #[] 0 (Nat.le_refl _) (Nat.zero_le _) (by simp))
  have HB0 := Lib.hid (show Below w.heap.size w (w.alloc (.cells #[] 9)) from (Below.refl _ _).alloc (Nat.le_refl _) _)
  go_loopw [5, 6] (fun s5 s6 wr => ∃ (i n : Nat) (v : Value) (O : List ByteArray), i ≤ len ∧ s5 = v ∧ s6 = .int .i64 (i : Int) ∧ Hid (O = minF (A.take i) B) ∧ Hid (O.length = n) ∧ Hid (wr.ownsRow w.heap.size 9 1 v n (O.map Value.string)) ∧ Hid (Below w.heap.size w wr)) (fun _ s6 _ => (len - (intOf s6)).toNat)
  case atStart => exact ⟨0, 0, _, [], Nat.zero_le _, rfl, rfl, Lib.hid rfl, Lib.hid rfl, HO0, HB0⟩
  case round =>
    obtain ⟨i, n, v, O, hi', hv, rfl, HEQ, HON, HO, HBr⟩ := hrel
    replace hv := hv.symm
    subst hv
    clear HO0 HB0
    by_cases hlt : i < len
    · have l1 : (i : Int) < (len : Int) := by omega
      have hiA : i < A.length := by rw [HL.out]; exact hlt
      obtain rfl := HA.out.ha (by omega)
      have SA := HA.out.keep HBr.out
      have cx := SA.cell i hiA
      have hbx := SA.hb (by omega)
      have hn := HML.out i
      rw [← HEQ.out, HON.out] at hn
      have HNX := Lib.hid (HMT.out i hiA)
      have HHS := Lib.hid (fun x => rhas_any (HB.out.keep HBr.out) x)
      have hbr := HBr.out.size
      clear SA
      generalize A[i]'hiA = x at *
      cases hc : Lib.containsS B x with
      | true =>
        have HC := Lib.hid (HHS.out x)
        rw [hc] at HC
        have HX := Lib.hid hc
        clear hc HHS
        go_wp2_with fail
        refine HC.out.mono ?_
        rintro e w2 ⟨rfl, rfl⟩
        go_wp2_with fail
        go_roundw
        case rel => exact ⟨i + 1, n, _, O, by omega, rfl, by go_num, Lib.hid (by rw [HNX.out, HX.out, if_pos rfl, HEQ.out]), HON, HO, HBr⟩
        case measure => simp [intOf]; omega
      | false =>
        have HC := Lib.hid (HHS.out x)
        rw [hc] at HC
        have HX := Lib.hid hc
        obtain ⟨W1, hW1⟩ : ∃ W1, W1 = wr := ⟨_, rfl⟩
        subst hW1
        have HK := Lib.hid (show Below W1.heap.size W1 (W1.alloc (.cells #[.string x] 9)) from (Below.refl _ _).alloc (Nat.le_refl _) _)
        have HOA := Lib.hid (HO.out.alloc (.cells #[.string x] 9))
        have HBA := Lib.hid (HBr.out.trans (HK.out.mono hbr))
        have HCE := Lib.hid (one_cell (w := W1.alloc (.cells #[.string x] 9)) (b := W1.heap.size) (u := .string x) (by simp [go_sem]))
        clear hc HHS HK
        go_wp2_with fail
        refine HC.out.mono ?_
        rintro e w2 ⟨rfl, rfl⟩
        go_wp2_with (at_builtin; go_loud (refine wpList_append_evry _ rfl _ _ 22 rfl w.heap.size 9 i0 (.string ⟨#[]⟩) 1 16 Tryd.underlying22 hi hz0 hz1 hz2 rfl (by decide) v n (O.map Value.string) rfl HOA.out (some ⟨w2.heap.size, 0, none⟩) 1 1 [.string x] rfl rfl (fun h => by cases h) HCE.out (by intro u hu; rw [List.mem_singleton] at hu; subst hu; rfl) ?n1 ?n2 ?n3 ?_))
        case n1 => unfold maxLen; omega
        case n2 => omega
        case n3 => first | exact HBA.out.size | (simp; omega)
        intro v2 w3 ho hg
        have HB3 := Lib.hid (HBA.out.grown hg HBA.out.size (fun j hj => (HOA.out.lt j hj).1))
        have HO3 := Lib.hid (show w3.ownsRow w.heap.size 9 1 v2 (n + 1) ((O ++ [x]).map Value.string) from by rw [List.map_append]; exact ho)
        clear ho hg HOA HCE
        go_wp2_with fail
        go_roundw
        case rel => exact ⟨i + 1, n + 1, _, O ++ [x], by omega, rfl, by go_num, Lib.hid (by rw [HNX.out, HX.out, if_neg (by simp), HEQ.out]), Lib.hid (by rw [List.length_append, HON.out]; rfl), HO3, HB3⟩
        case measure => simp [intOf]; omega
    · have l1 : ¬ (i : Int) < (len : Int) := by omega
      obtain rfl : i = len := by omega
      have hn := HML.out i
      rw [← HEQ.out, HON.out] at hn
      obtain ⟨a3, b3, c3, hv3, hs3, n3⟩ := own_any (L := O) (by rw [HON.out]; exact HO.out)
      subst hv3
      have hse : setL O = minL A B := by rw [HEQ.out, HEND.out]
      have hr3 := rset_any hs3 (by rw [HON.out]; omega)
      rw [hse] at hr3
      have HR := Lib.hid hr3
      clear hse hr3
      generalize O.length = z at *
      clear HEQ HON HO HMT HML HEND HA HB hs3 n3 hn
      go_wp2_with fail
      refine HR.out.mono ?_
      intro e w3 h3
      have h4 := h3.low HBr.out
      obtain ⟨v, rfl, ho, hb⟩ := h4
      go_wp2_with fail
      go_ret
      exact ⟨v, rfl, ho, hb⟩
set_option maxHeartbeats 1000000 in
set_option maxRecDepth 100000 in
theorem rsubset_any {a a' : Option Addr} {b b' off off' len len' cap cap' : Nat} {A B : List ByteArray} {w : World} (hA : SlS w a b off len cap A) (hB : SlS w a' b' off' len' cap' B) (h1 : len ≤ 500) :
    Calls Tryd.prog 18 #[.slice a len cap, .slice a' len' cap'] w fun e w' => e = .returned (.bool (subB A B)) ∧ Below w.heap.size w w' := by
  have HM := Lib.hid (rminus_any hA hB h1)
  have HS := Lib.hid (show subB A B = decide ((minL A B).length = 0) from rfl)
  obtain ⟨r, hr⟩ : ∃ r, subB A B = r := ⟨_, rfl⟩
  rw [hr] at HS ⊢
  generalize minL A B = M at *
  clear hA hB hr
  go_enter Tryd.func18, Tryd.ntmps18
  go_wp2_with fail
  refine HM.out.mono ?_
  rintro e w2 ⟨v, rfl, ho, hb⟩
  obtain ⟨a3, b3, c3, rfl, hs3, n3⟩ := own_any ho
  have hh := HS.out
  have HB := Lib.hid hb
  generalize M.length = z at *
  clear ho hs3 hb HM
  by_cases hz : z = 0
  · subst hz
    rw [decide_eq_true rfl] at hh
    subst hh
    go_wp2_with fail
    go_ret
    exact ⟨rfl, HB.out⟩
  · rw [decide_eq_false hz] at hh
    subst hh
    have k1 : ((z : Int) == 0) = false := by rw [beq_eq_false_iff_ne]; omega
    go_wp2_with fail
    go_ret
    exact ⟨rfl, HB.out⟩
end Go.Proofs.YtflpehpjemlphaaDoor
