/- Contracts of layer 4: the reference's comparison of two numbers; of two pieces. -/
import Derived.Test.YtcfhmbbkkadnfaaDoorRPcs
set_option linter.unusedSimpArgs false
set_option linter.unusedVariables false
namespace Go.Proofs.YtcfhmbbkkadnfaaDoor
open Go.RowKit

theorem str0_cons (c : UInt8) (t : List UInt8) : str0 (c :: t) = if c = 48 then str0 t else c :: t := by
  unfold str0
  by_cases h : c = 48
  · subst h; rfl
  · rw [List.dropWhile_cons_of_neg (by simpa using h), if_neg h]
theorem bs_in2 {a b : ByteArray} (h : a.data.toList = b.data.toList) : a = b := by
  rw [← bs_list a, ← bs_list b, h]
theorem bs_head (c : UInt8) (t : List UInt8) : ∃ h : 0 < (bs (c :: t)).size, (bs (c :: t))[0]'h = c := by
  have h0 : 0 < (bs (c :: t)).size := by rw [bs_size]; simp
  refine ⟨h0, ?_⟩
  have := list_get (bs (c :: t)) 0 h0
  rw [bs_data] at this
  simpa using this.symm
theorem bs_tail (c : UInt8) (t : List UInt8) (n : Nat) (h : n = (bs (c :: t)).size) : (bs (c :: t)).extract 1 n = bs t := by
  apply bs_in2
  rw [ext_list, bs_data, bs_data, h, bs_size]
  simp
def strSz : Value → Nat | .string s => s.size | _ => 0
set_option maxHeartbeats 1000000 in
set_option maxRecDepth 100000 in
theorem rpieces_nn (p q : ByteArray) (hsp : p.size ≤ 4611686018427387904) (hsq : q.size ≤ 4611686018427387904) (hp : ∀ x ∈ p.data.toList, dig x = true) (hp0 : p.data.toList ≠ []) (hq : ∀ x ∈ q.data.toList, dig x = true) (hq0 : q.data.toList ≠ []) (w : World) :
    Calls Tryd.prog 62 #[.string p, .string q] w fun e w' => e = .returned (.int .i64 (tokC (tokOf p.data.toList) (tokOf q.data.toList))) ∧ ∃ n, w' = w.drewN n := by
  obtain ⟨p0, pe⟩ := isP_num hp hp0
  obtain ⟨q0, qe⟩ := isP_num hq hq0
  have g2 : inB 48 57 (q[0]'q0) = true := by rw [← dig_in]; exact qe
  have g1 : inB 48 57 (p[0]'p0) = true := by rw [← dig_in]; exact pe
  have H1 := Lib.hid (fun W => rdigit_is (p[0]'p0) W true g1)
  have H2 := Lib.hid (fun W => rdigit_is (q[0]'q0) W true g2)
  rw [tok_num hp hp0, tok_num hq hq0]
  clear hp hq hp0 hq0 pe qe g1 g2
  go_enter Tryd.func62, Tryd.ntmps62
  go_wp2_with fail
  go_quiet ((first | (go_at_call 38; with_reducible exact quietS (H1.out _)) | (go_at_call 38; with_reducible exact quietS (H2.out _))))
  obtain ⟨w1, hw1⟩ : ∃ w1, w.drewN nq = w1 := ⟨_, rfl⟩
  rw [hw1]
  have HW1 := Lib.hid hw1
  clear hw1
  go_upto_block 0 with fail
  go_cut [0] (fun sx wx => sx = .string (bs (str0 p.data.toList)) ∧ w1 = wx)
  case first =>
    go_wp2_with fail
    go_loop [0] (fun sx => ∃ x : List UInt8, sx = .string (bs x) ∧ x.length ≤ 4611686018427387904 ∧ Hid (str0 x = str0 p.data.toList)) (fun sx => strSz sx)
    case atStart => exact ⟨p.data.toList, by rw [bs_list], by rw [list_size]; exact hsp, Lib.hid rfl⟩
    case round =>
      obtain ⟨x, rfl, hx, HX⟩ := hrel
      cases x with
      | nil =>
        have e0 : (bs []).size = 0 := rfl
        have l1 : decide (((bs []).size : Int) > 0) = false := decide_eq_false (by rw [e0]; decide)
        have l2 : decide (0 < (bs []).size) = false := decide_eq_false (by rw [e0]; decide)
        have HE := Lib.hid (show str0 p.data.toList = [] by rw [← HX.out]; rfl)
        have HZE := Lib.hid (show bs [] = bs (str0 p.data.toList) by rw [HE.out])
        clear e0 HE HX
        generalize bs [] = z at *
        go_wp2_with fail
        go_meet
        exact ⟨by rw [HZE.out], rfl⟩
      | cons c t =>
        obtain ⟨h0, hc⟩ := bs_head c t
        have hz : (bs (c :: t)).size = t.length + 1 := by rw [bs_size]; rfl
        have l1 : decide (((bs (c :: t)).size : Int) > 0) = true := decide_eq_true (by omega)
        have l2 : decide (0 < (bs (c :: t)).size) = true := decide_eq_true (by omega)
        have HT := Lib.hid (bs_tail c t _ rfl)
        have HSC := str0_cons c t
        have hx2 : t.length ≤ 4611686018427387904 := by simp only [List.length_cons] at hx; omega
        have HZ := Lib.hid hz
        have HX2 := HX.out
        rw [HSC] at HX2
        by_cases h48 : c = 48
        · rw [if_pos h48] at HX2
          have k : (((bs (c :: t))[0]'h0).toNat : Int) == 48 := by rw [hc, h48]; rfl
          replace k : ((((bs (c :: t))[0]'h0).toNat : Int) == 48) = true := k
          have HY := Lib.hid HX2
          have HTZ := Lib.hid (bs_size t)
          clear HSC HX2 HX hc h48 hz
          generalize bs (c :: t) = z at *
          go_wp2
          go_round
          case rel => exact ⟨t, by rw [HT.out], hx2, HY⟩
          case measure => simp only [strSz]; rw [HT.out, HTZ.out, HZ.out]; omega
        · rw [if_neg h48] at HX2
          have k : ((((bs (c :: t))[0]'h0).toNat : Int) == 48) = false := by
            rw [hc, beq_eq_false_iff_ne]
            intro e
            apply h48
            apply UInt8.toNat.inj
            have : (48 : UInt8).toNat = 48 := rfl
            omega
          have HZE := Lib.hid (show bs (c :: t) = bs (str0 p.data.toList) by rw [← HX2])
          clear HSC HX2 HX hc h48 hz HT
          generalize bs (c :: t) = z at *
          go_wp2_with fail
          go_meet
          exact ⟨by rw [HZE.out], rfl⟩
  obtain ⟨rfl, rfl⟩ := hcut
  clear H1 H2
  go_upto_block 2 with fail
  go_cut [1] (fun sx wx => sx = .string (bs (str0 q.data.toList)) ∧ w1 = wx)
  case first =>
    go_wp2_with fail
    go_loop [1] (fun sx => ∃ x : List UInt8, sx = .string (bs x) ∧ x.length ≤ 4611686018427387904 ∧ Hid (str0 x = str0 q.data.toList)) (fun sx => strSz sx)
    case atStart => exact ⟨q.data.toList, by rw [bs_list], by rw [list_size]; exact hsq, Lib.hid rfl⟩
    case round =>
      obtain ⟨x, rfl, hx, HX⟩ := hrel
      cases x with
      | nil =>
        have e0 : (bs []).size = 0 := rfl
        have l1 : decide (((bs []).size : Int) > 0) = false := decide_eq_false (by rw [e0]; decide)
        have l2 : decide (0 < (bs []).size) = false := decide_eq_false (by rw [e0]; decide)
        have HE := Lib.hid (show str0 q.data.toList = [] by rw [← HX.out]; rfl)
        have HZE := Lib.hid (show bs [] = bs (str0 q.data.toList) by rw [HE.out])
        clear e0 HE HX
        generalize bs [] = z at *
        go_wp2_with fail
        go_meet
        exact ⟨by rw [HZE.out], rfl⟩
      | cons c t =>
        obtain ⟨h0, hc⟩ := bs_head c t
        have hz : (bs (c :: t)).size = t.length + 1 := by rw [bs_size]; rfl
        have l1 : decide (((bs (c :: t)).size : Int) > 0) = true := decide_eq_true (by omega)
        have l2 : decide (0 < (bs (c :: t)).size) = true := decide_eq_true (by omega)
        have HT := Lib.hid (bs_tail c t _ rfl)
        have HSC := str0_cons c t
        have hx2 : t.length ≤ 4611686018427387904 := by simp only [List.length_cons] at hx; omega
        have HZ := Lib.hid hz
        have HX2 := HX.out
        rw [HSC] at HX2
        by_cases h48 : c = 48
        · rw [if_pos h48] at HX2
          have k : (((bs (c :: t))[0]'h0).toNat : Int) == 48 := by rw [hc, h48]; rfl
          replace k : ((((bs (c :: t))[0]'h0).toNat : Int) == 48) = true := k
          have HY := Lib.hid HX2
          have HTZ := Lib.hid (bs_size t)
          clear HSC HX2 HX hc h48 hz
          generalize bs (c :: t) = z at *
          go_wp2
          go_round
          case rel => exact ⟨t, by rw [HT.out], hx2, HY⟩
          case measure => simp only [strSz]; rw [HT.out, HTZ.out, HZ.out]; omega
        · rw [if_neg h48] at HX2
          have k : ((((bs (c :: t))[0]'h0).toNat : Int) == 48) = false := by
            rw [hc, beq_eq_false_iff_ne]
            intro e
            apply h48
            apply UInt8.toNat.inj
            have : (48 : UInt8).toNat = 48 := rfl
            omega
          have HZE := Lib.hid (show bs (c :: t) = bs (str0 q.data.toList) by rw [← HX2])
          clear HSC HX2 HX hc h48 hz HT
          generalize bs (c :: t) = z at *
          go_wp2_with fail
          go_meet
          exact ⟨by rw [HZE.out], rfl⟩
  obtain ⟨rfl, rfl⟩ := hcut
  have hbc := tokC_kind (a := (48, str0 p.data.toList)) (b := (48, str0 q.data.toList)) rfl
  have HR := Lib.hid (show tokC (48, str0 p.data.toList) (48, str0 q.data.toList) = if Lib.compareInt ((str0 p.data.toList).length : Int) ((str0 q.data.toList).length : Int) = 0 then Lib.compareBytes (str0 p.data.toList) (str0 q.data.toList) else Lib.compareInt ((str0 p.data.toList).length : Int) ((str0 q.data.toList).length : Int) from hbc)
  have HRC := Lib.hid (fun W => rcompare_any (bs (str0 p.data.toList)) (bs (str0 q.data.toList)) W)
  have z1 := bs_size (str0 p.data.toList)
  have z2 := bs_size (str0 q.data.toList)
  rw [bs_data, bs_data] at HRC
  rw [← z1, ← z2] at HR
  clear hbc
  have b1 : (bs (str0 p.data.toList)).size ≤ 4611686018427387904 := by
    rw [z1]
    have := (List.dropWhile_sublist (· == (48 : UInt8)) (l := p.data.toList)).length_le
    rw [list_size] at this
    unfold str0
    omega
  have b2 : (bs (str0 q.data.toList)).size ≤ 4611686018427387904 := by
    rw [z2]
    have := (List.dropWhile_sublist (· == (48 : UInt8)) (l := q.data.toList)).length_le
    rw [list_size] at this
    unfold str0
    omega
  clear z1 z2
  obtain ⟨r, hr⟩ : ∃ r, tokC (48, str0 p.data.toList) (48, str0 q.data.toList) = r := ⟨_, rfl⟩
  rw [hr] at HR
  have HRR := Lib.hid hr
  clear hr
  generalize Lib.compareBytes (str0 p.data.toList) (str0 q.data.toList) = cb at *
  generalize bs (str0 p.data.toList) = P at *
  generalize bs (str0 q.data.toList) = Q at *
  rcases Nat.lt_trichotomy P.size Q.size with h | h | h
  · have HF := Lib.hid (show r = -1 by
      have e : Lib.compareInt (P.size : Int) (Q.size : Int) = -1 := by unfold Lib.compareInt; rw [if_pos (by omega)]
      rw [HR.out, e]; rfl)
    have l1 : (P.size : Int) < (Q.size : Int) := by omega
    clear HR HRC
    go_wp2
    go_ret
    exact ⟨by rw [HRR.out, HF.out]; rfl, nq, HW1.out.symm⟩
  · have HF := Lib.hid (show r = cb by
      have e : Lib.compareInt (P.size : Int) (Q.size : Int) = 0 := by rw [h]; exact tot_int.refl _
      rw [HR.out, e]; rfl)
    have l1 : ¬ (P.size : Int) < (Q.size : Int) := by omega
    have l2 : ¬ (P.size : Int) > (Q.size : Int) := by omega
    clear HR h
    go_wp2_with fail
    refine (HRC.out _).mono ?_
    rintro e w2 ⟨rfl, rfl⟩
    go_wp2
    go_ret
    exact ⟨by rw [HRR.out, HF.out]; rfl, nq, HW1.out.symm⟩
  · have HF := Lib.hid (show r = 1 by
      have e : Lib.compareInt (P.size : Int) (Q.size : Int) = 1 := by unfold Lib.compareInt; rw [if_neg (by omega), if_pos (by omega)]
      rw [HR.out, e]; rfl)
    have l1 : ¬ (P.size : Int) < (Q.size : Int) := by omega
    have l2 : (Q.size : Int) < (P.size : Int) := by omega
    clear HR HRC
    go_wp2
    go_ret
    exact ⟨by rw [HRR.out, HF.out]; rfl, nq, HW1.out.symm⟩
theorem rpieces_any (p q : ByteArray) (hsp : p.size ≤ 4611686018427387904) (hsq : q.size ≤ 4611686018427387904) (hp : IsP p.data.toList) (hq : IsP q.data.toList) (w : World) :
    Calls Tryd.prog 62 #[.string p, .string q] w fun e w' => e = .returned (.int .i64 (tokC (tokOf p.data.toList) (tokOf q.data.toList))) ∧ ∃ n, w' = w.drewN n := by
  generalize hpl : p.data.toList = lp at hp
  generalize hql : q.data.toList = lq at hq
  cases hp with
  | byte c hc =>
    cases hq with
    | byte d hd => rw [← hpl, ← hql]; exact rpieces_bb p q c d hpl hql hc hd w
    | num _ h hl => rw [← hpl, ← hql]; exact rpieces_bn p q c hpl hc (by rw [hql]; exact h) (by rw [hql]; exact hl) w
  | num _ h hl =>
    cases hq with
    | byte d hd => rw [← hpl, ← hql]; exact rpieces_nb p q d hql hd (by rw [hpl]; exact h) (by rw [hpl]; exact hl) w
    | num _ h2 hl2 => rw [← hpl, ← hql]; exact rpieces_nn p q hsp hsq (by rw [hpl]; exact h) (by rw [hpl]; exact hl) (by rw [hql]; exact h2) (by rw [hql]; exact hl2) w
end Go.Proofs.YtcfhmbbkkadnfaaDoor
