/- Contracts of layer 9's reference: spell, Spell. -/
import Derived.Test.YtohalocbghhenaaGreatDoorSpl
import Derived.Test.YtohalocbghhenaaGreatDoorRefE
import Derived.Test.YtohalocbghhenaaGreatDoorLexJ
set_option linter.unusedSimpArgs false
set_option linter.unusedVariables false
namespace Go.Proofs.YtohalocbghhenaaGreatDoor
open Go.RowKit

theorem trim_no {l : List UInt8} (h : l.getLast? ≠ some 48) : Lib.trimRightB l 48 = l := by
  unfold Lib.trimRightB
  cases hr : l.reverse with
  | nil => have : l = [] := by simpa using hr
           rw [this]; rfl
  | cons c t =>
    have hc : (c == 48) = false := by
      rw [beq_eq_false_iff_ne]
      intro e
      apply h
      rw [← List.head?_reverse, hr, e]
      rfl
    rw [List.dropWhile_cons_of_neg (by rw [hc]; simp), ← hr, List.reverse_reverse]
theorem trim_yes {l : List UInt8} {n : Nat} (hn : n + 1 = l.length) (h : l.getLast? = some 48) : Lib.trimRightB l 48 = Lib.trimRightB (l.take n) 48 := by
  have hs : l = l.take n ++ [48] := by
    have h1 : l = l.take n ++ l.drop n := (List.take_append_drop n l).symm
    have h2 : l.drop n = [l[n]'(by omega)] := by
      rw [List.drop_eq_getElem_cons (by omega)]
      rw [List.drop_eq_nil_of_le (by omega)]
    have h3 : l[n]'(by omega) = 48 := by
      rw [List.getLast?_eq_getElem?, show l.length - 1 = n by omega, List.getElem?_eq_getElem (by omega)] at h
      exact Option.some.inj h
    rw [h2, h3] at h1
    exact h1
  unfold Lib.trimRightB
  conv => lhs; rw [hs]
  rw [List.reverse_append]
  simp
set_option maxHeartbeats 2000000 in
set_option maxRecDepth 100000 in
theorem rspell_any (n : Nat) (hn : n ≤ 1000000000) (w : World) (hT : Tabs w) : Calls Tryz.prog 56 #[.int .i64 (n : Int)] w fun e w' => e = .returned (.string (bs (decN n))) ∧ Below w.heap.size w w' := by
  have HF1 := Lib.hid (fun W hW => fmt_nat ((n : Int) / 1000) (n / 1000) (by omega) (by omega) W hW)
  have HF2 := Lib.hid (fun W hW => fmt_nat (1000 + (n : Int) % 1000) (1000 + n % 1000) (by omega) (by omega) W hW)
  have hl1 := dd_len 6 (n / 1000) (by omega)
  have h4 := dd_four (n % 1000) (by omega)
  have hl2 : (Lib.decDigits (1000 + n % 1000)).length = 4 := by
    have h5 := congrArg List.length h4
    rw [List.length_drop] at h5
    simp at h5
    omega
  have HD := Lib.hid (show decN n = Lib.decDigits (n / 1000) ++ (if fraN (n % 1000) = [] then [] else 46 :: fraN (n % 1000)) from rfl)
  have HFR := Lib.hid (show fraN (n % 1000) = Lib.trimRightB ((Lib.decDigits (1000 + n % 1000)).drop 1) 48 from rfl)
  generalize decN n = R at *
  generalize fraN (n % 1000) = F at *
  obtain ⟨S1, h1⟩ : ∃ S, bs (Lib.decDigits (n / 1000)) = S := ⟨_, rfl⟩
  obtain ⟨S2, h2⟩ : ∃ S, bs (Lib.decDigits (1000 + n % 1000)) = S := ⟨_, rfl⟩
  have e1 : Lib.decDigits (n / 1000) = S1.data.toList := by rw [← h1, bs_data]
  have e2 : Lib.decDigits (1000 + n % 1000) = S2.data.toList := by rw [← h2, bs_data]
  rw [h1] at HF1
  rw [h2] at HF2
  rw [e1] at HD hl1
  rw [e2] at HFR hl2
  rw [list_size] at hl1 hl2
  obtain ⟨U, hU⟩ : ∃ U, S2.extract 1 S2.size = U := ⟨_, rfl⟩
  have eU : U.data.toList = S2.data.toList.drop 1 := by rw [← hU, ext_list, List.take_of_length_le (by rw [List.length_drop, list_size]; exact Nat.le_refl _)]
  have eUs : U.size ≤ 3 := by rw [← hU]; simp; omega
  rw [← eU] at HFR
  have HU := Lib.hid hU
  have hs2 : S2.size = 4 := hl2
  have HT := Lib.hid hT
  have hle : 1 ≤ S2.size := by omega
  have hli : ¬ (1 : Int) > (S2.size : Int) := by omega
  clear hT h4 hl2 h1 h2 e1 e2 hU eU hs2
  have hX := HU.out
  go_enter Tryz.func56, Tryz.ntmps56
  go_wp2_with fail
  refine (HF1.out _ HT.out).mono ?_
  rintro e w1 ⟨rfl, hb1⟩
  have HT1 := Lib.hid (HT.out.below hb1)
  have hz1 := bsize hb1
  go_wp2_with fail
  refine (HF2.out _ HT1.out).mono ?_
  rintro e w2 ⟨rfl, hb2⟩
  have HB2 := Lib.hid (show Below w.heap.size w w2 from (by repeat (first | with_reducible exact Below.refl _ _ | (with_reducible refine Below.setCell ?_ (by first | exact Nat.le_refl _ | omega | (simp; done) | (simp; omega)) _) | (with_reducible refine Below.alloc ?_ (by first | exact Nat.le_refl _ | omega | (simp; done) | (simp; omega)) _) | with_reducible refine Below.drew ?_ | with_reducible refine bel_drewN ?_ _ | (with_reducible refine bel_by (by with_reducible assumption) (by first | exact Nat.le_refl _ | omega | (simp; done) | (simp; omega)) ?_))))
  clear hb1 hb2 hz1
  go_wp2_with fail
  clear hX
  go_loop [4] (fun s4 => ∃ V : ByteArray, V.size ≤ 3 ∧ s4 = .string V ∧ Hid (F = Lib.trimRightB V.data.toList 48)) (fun s4 => match s4 with | .string V => V.size | _ => 0)
  case atStart => exact ⟨U, eUs, rfl, HFR⟩
  case round =>
    obtain ⟨V, hV, rfl, HV⟩ := hrel
    by_cases h0 : V.size = 0
    · have d0 : ¬ 0 < V.size := by omega
      have d1 : ¬ (0 : Int) < (V.size : Int) := by omega
      have d2 : decide ((V.size : Int) > 0) = false := decide_eq_false (by omega)
      have d3 : decide (0 < V.size) = false := decide_eq_false (by omega)
      obtain ⟨k1, k2⟩ := str_empty h0
      have k3 : (V.toList != []) = false := by unfold bne; rw [k1]; rfl
      have hF0 : F = [] := by rw [HV.out, size0 h0]; rfl
      have HZ := Lib.hid (show S1 = bs R by rw [HD.out, if_pos hF0, List.append_nil, bs_list])
      clear HD HFR hF0 h0
      go_wp2_with fail
      go_ret
      exact ⟨ret_str HZ.out, HB2.out⟩
    · have d0 : 0 < V.size := by omega
      have d1 : (0 : Int) < (V.size : Int) := by omega
      have d2 : decide ((V.size : Int) > 0) = true := decide_eq_true (by omega)
      have d3 : decide (0 < V.size) = true := decide_eq_true (by omega)
      have hL : V.size - 1 < V.size := by omega
      have hla := last_byte hL
      have e48 : (V[V.size - 1]'hL == 48) = (((V[V.size - 1]'hL).toNat : Int) == 48) := u8_eq (V[V.size - 1]'hL) 48 (by decide)
      cases hc : (V[V.size - 1]'hL == 48) with
      | true =>
        rw [hc] at e48
        replace e48 := e48.symm
        have hc2 : V[V.size - 1]'hL = 48 := by simpa using hc
        rw [hc2] at hla
        obtain ⟨V2, hV2⟩ : ∃ V2, V.extract 0 (V.size - 1) = V2 := ⟨_, rfl⟩
        have eV2 : V2.data.toList = V.data.toList.take (V.size - 1) := by rw [← hV2, ext_list, List.drop_zero, Nat.sub_zero]
        have HV2 := Lib.hid (show F = Lib.trimRightB V2.data.toList 48 by rw [HV.out, trim_yes (n := V.size - 1) (by rw [list_size]; omega) hla, eV2])
        have hz2 : V2.size ≤ V.size - 1 := by rw [← hV2]; simp
        clear hc hc2 hla eV2
        go_wp2_with fail
        go_round
        case rel => exact ⟨V2, by omega, rfl, HV2⟩
        case measure => simp; omega
      | false =>
        rw [hc] at e48
        replace e48 := e48.symm
        obtain ⟨k1, k2⟩ := str_full d0
        have k3 : (V.toList != []) = true := by unfold bne; rw [k1]; rfl
        have hF : F = V.data.toList := by
          rw [HV.out]
          refine trim_no ?_
          rw [hla]
          intro e
          rw [Option.some.inj e] at hc
          exact absurd hc (by decide)
        have hFn : F ≠ [] := by
          rw [hF]
          intro e
          have := list_size V
          rw [e] at this
          simp at this; omega
        have HZ := Lib.hid (show S1 ++ (⟨#[46]⟩ ++ V) = bs R by rw [HD.out, if_neg hFn, bs_cat3b, hF])
        clear HD HFR hF hFn hc hla
        go_wp2_with fail
        go_ret
        exact ⟨ret_str (by first | exact HZ.out | (rw [← HZ.out, bs_cat3, bs_cat3b])), HB2.out⟩
/-- what the reference's Spell gives -/
def rspL (t : Tk) : List UInt8 := if t.k = 2 then (if 0 ≤ t.n ∧ t.n ≤ 1000000000 then decN t.n.toNat else []) else if t.k = 3 then 34 :: (t.t.data.toList ++ [34]) else if t.k = 1 ∨ t.k = 4 then t.t.data.toList else []
set_option maxHeartbeats 2000000 in
set_option maxRecDepth 100000 in
theorem rSpell_any (t : Tk) (hs : t.t.size ≤ 1000000000) (w : World) (hT : Tabs w) : Calls Tryz.prog 33 #[t.val] w fun e w' => e = .returned (.string (bs (rspL t))) ∧ Below w.heap.size w w' := by
  have HT := Lib.hid hT
  clear hT
  have HR := Lib.hid (show rspL t = if t.k = 2 then (if 0 ≤ t.n ∧ t.n ≤ 1000000000 then decN t.n.toNat else []) else if t.k = 3 then 34 :: (t.t.data.toList ++ [34]) else if t.k = 1 ∨ t.k = 4 then t.t.data.toList else [] from rfl)
  generalize rspL t = r at *
  obtain ⟨k, s, n, a⟩ := t
  simp only [Tk.val] at hs HR ⊢
  by_cases e2 : k = 2
  · subst e2
    by_cases h0 : 0 ≤ n
    · have d0 : decide (n ≥ 0) = true := decide_eq_true h0
      by_cases h1 : n ≤ 1000000000
      · have d1 : decide (n ≤ 1000000000) = true := decide_eq_true h1
        obtain ⟨m, rfl⟩ : ∃ m : Nat, n = (m : Int) := ⟨n.toNat, by omega⟩
        have hr := HR.out
        rw [if_pos rfl, if_pos ⟨h0, h1⟩] at hr
        have hr2 : r = decN m := hr
        subst hr2
        have HM := Lib.hid (fun W hW => rspell_any m (by omega) W hW)
        obtain ⟨D, hD⟩ : ∃ D, bs (decN m) = D := ⟨_, rfl⟩
        rw [hD] at HM ⊢
        clear hD HR hr
        go_enter Tryz.func33, Tryz.ntmps33
        go_wp2_with fail
        refine (HM.out _ (HT.out.below (by repeat (first | with_reducible exact Below.refl _ _ | (with_reducible refine Below.setCell ?_ (by first | exact Nat.le_refl _ | omega | (simp; done) | (simp; omega)) _) | (with_reducible refine Below.alloc ?_ (by first | exact Nat.le_refl _ | omega | (simp; done) | (simp; omega)) _) | with_reducible refine Below.drew ?_ | with_reducible refine bel_drewN ?_ _ | (with_reducible refine bel_by (by with_reducible assumption) (by first | exact Nat.le_refl _ | omega | (simp; done) | (simp; omega)) ?_))))).mono ?_
        rintro e w1 ⟨rfl, hb1⟩
        have hz1 := bsize hb1
        simp at hz1
        have HB := Lib.hid (show Below w.heap.size w w1 from (by repeat (first | with_reducible exact Below.refl _ _ | (with_reducible refine Below.setCell ?_ (by first | exact Nat.le_refl _ | omega | (simp; done) | (simp; omega)) _) | (with_reducible refine Below.alloc ?_ (by first | exact Nat.le_refl _ | omega | (simp; done) | (simp; omega)) _) | with_reducible refine Below.drew ?_ | with_reducible refine bel_drewN ?_ _ | (with_reducible refine bel_by (by with_reducible assumption) (by first | exact Nat.le_refl _ | omega | (simp; done) | (simp; omega)) ?_))))
        clear hb1
        go_wp2_with fail
        go_ret
        exact ⟨rfl, HB.out⟩
      · have d1 : decide (n ≤ 1000000000) = false := decide_eq_false h1
        have hr := HR.out
        rw [if_pos rfl, if_neg (fun h => h1 h.2)] at hr
        subst hr
        clear HR
        go_enter Tryz.func33, Tryz.ntmps33
        go_wp2_with fail
        go_ret
        exact ⟨rfl, (by repeat (first | with_reducible exact Below.refl _ _ | (with_reducible refine Below.setCell ?_ (by first | exact Nat.le_refl _ | omega | (simp; done) | (simp; omega)) _) | (with_reducible refine Below.alloc ?_ (by first | exact Nat.le_refl _ | omega | (simp; done) | (simp; omega)) _) | with_reducible refine Below.drew ?_ | with_reducible refine bel_drewN ?_ _ | (with_reducible refine bel_by (by with_reducible assumption) (by first | exact Nat.le_refl _ | omega | (simp; done) | (simp; omega)) ?_)))⟩
    · have d0 : decide (n ≥ 0) = false := decide_eq_false h0
      have hr := HR.out
      rw [if_pos rfl, if_neg (fun h => h0 h.1)] at hr
      subst hr
      clear HR
      go_enter Tryz.func33, Tryz.ntmps33
      go_wp2_with fail
      go_ret
      exact ⟨rfl, (by repeat (first | with_reducible exact Below.refl _ _ | (with_reducible refine Below.setCell ?_ (by first | exact Nat.le_refl _ | omega | (simp; done) | (simp; omega)) _) | (with_reducible refine Below.alloc ?_ (by first | exact Nat.le_refl _ | omega | (simp; done) | (simp; omega)) _) | with_reducible refine Below.drew ?_ | with_reducible refine bel_drewN ?_ _ | (with_reducible refine bel_by (by with_reducible assumption) (by first | exact Nat.le_refl _ | omega | (simp; done) | (simp; omega)) ?_)))⟩
  · have q2 : (k == 2) = false := by simpa using e2
    by_cases e3 : k = 3
    · subst e3
      have hr := HR.out
      rw [if_neg e2, if_pos rfl] at hr
      subst hr
      have HQ := Lib.hid (bs_quote s)
      clear HR e2
      go_enter Tryz.func33, Tryz.ntmps33
      go_wp2_with fail
      go_ret
      exact ⟨by rw [← HQ.out]; rfl, (by repeat (first | with_reducible exact Below.refl _ _ | (with_reducible refine Below.setCell ?_ (by first | exact Nat.le_refl _ | omega | (simp; done) | (simp; omega)) _) | (with_reducible refine Below.alloc ?_ (by first | exact Nat.le_refl _ | omega | (simp; done) | (simp; omega)) _) | with_reducible refine Below.drew ?_ | with_reducible refine bel_drewN ?_ _ | (with_reducible refine bel_by (by with_reducible assumption) (by first | exact Nat.le_refl _ | omega | (simp; done) | (simp; omega)) ?_)))⟩
    · have q3 : (k == 3) = false := by simpa using e3
      by_cases e14 : k = 1 ∨ k = 4
      · have hr := HR.out
        rw [if_neg e2, if_neg e3, if_pos e14] at hr
        subst hr
        have HQ := Lib.hid (bs_list s)
        clear HR e2 e3
        rcases e14 with rfl | rfl
        all_goals
          go_enter Tryz.func33, Tryz.ntmps33
          go_wp2_with fail
          go_ret
          exact ⟨by rw [HQ.out]; rfl, (by repeat (first | with_reducible exact Below.refl _ _ | (with_reducible refine Below.setCell ?_ (by first | exact Nat.le_refl _ | omega | (simp; done) | (simp; omega)) _) | (with_reducible refine Below.alloc ?_ (by first | exact Nat.le_refl _ | omega | (simp; done) | (simp; omega)) _) | with_reducible refine Below.drew ?_ | with_reducible refine bel_drewN ?_ _ | (with_reducible refine bel_by (by with_reducible assumption) (by first | exact Nat.le_refl _ | omega | (simp; done) | (simp; omega)) ?_)))⟩
      · have hr := HR.out
        rw [if_neg e2, if_neg e3, if_neg e14] at hr
        subst hr
        have q1 : (k == 1) = false := by
          rw [beq_eq_false_iff_ne]; intro h; exact e14 (.inl h)
        have q4 : (k == 4) = false := by
          rw [beq_eq_false_iff_ne]; intro h; exact e14 (.inr h)
        clear HR e2 e3 e14
        go_enter Tryz.func33, Tryz.ntmps33
        go_wp2_with fail
        go_ret
        exact ⟨rfl, (by repeat (first | with_reducible exact Below.refl _ _ | (with_reducible refine Below.setCell ?_ (by first | exact Nat.le_refl _ | omega | (simp; done) | (simp; omega)) _) | (with_reducible refine Below.alloc ?_ (by first | exact Nat.le_refl _ | omega | (simp; done) | (simp; omega)) _) | with_reducible refine Below.drew ?_ | with_reducible refine bel_drewN ?_ _ | (with_reducible refine bel_by (by with_reducible assumption) (by first | exact Nat.le_refl _ | omega | (simp; done) | (simp; omega)) ?_)))⟩
end Go.Proofs.YtohalocbghhenaaGreatDoor
/- Contract of layer 9's reference: Valid. -/
namespace Go.Proofs.YtohalocbghhenaaGreatDoor
open Go.RowKit

theorem validT_a (t : Tk) (x : Int) : validT { t with a := x } = validT t := rfl
theorem rsp_ok {t : Tk} (hv : validT t = true) (h5 : t.k ≠ 5) : rspL t = spellT t := by
  unfold rspL spellT
  by_cases h2 : t.k = 2
  · rw [if_pos h2, if_pos h2]
    unfold validT at hv
    rw [if_pos h2] at hv
    simp only [Bool.and_eq_true, decide_eq_true_eq] at hv
    rw [if_pos ⟨hv.1.2, hv.2⟩]
  · rw [if_neg h2, if_neg h2]
    by_cases h3 : t.k = 3
    · rw [if_pos h3, if_pos h3]
    · rw [if_neg h3, if_neg h3]
      by_cases h14 : t.k = 1 ∨ t.k = 4
      · rw [if_pos h14]
      · unfold validT at hv
        rw [if_neg h2, vt_no _ (fun h => h14 (.inl h)) h3 (fun h => h14 (.inr h)) h5] at hv
        simp at hv
/-- what Valid asks of the spelling -/
theorem rvalid_ok {t : Tk} (hv : validT t = true) (h5 : t.k ≠ 5) : (rspL t).length ≠ 0 ∧ (rspL t).length ≤ 60 ∧ tokR (rspL t) 0 = (zeroA t, (rspL t).length, 0) := by
  rw [rsp_ok hv h5]
  obtain ⟨e, c, l, hc, _⟩ := readL_spell t hv h5 [] stops_nil
  rw [List.append_nil] at e
  have hl := spell_len t hv
  refine ⟨by rw [hc]; simp, by omega, ?_⟩
  unfold tokR
  rw [e]
  simp only [if_true, Nat.zero_add]
  rfl
theorem rvalid_no {t : Tk} (hv : validT t = false) {x : Tk} {n : Nat} {e : Int} (h : tokR (rspL t) 0 = (x, n, e)) (he : e = 0) : x ≠ zeroA t := by
  subst he
  intro hx
  subst hx
  unfold tokR at h
  by_cases h0 : (readL (rspL t)).2.2 = 0
  · rw [if_pos h0] at h
    have h1 := congrArg Prod.fst h
    have h2 := readL_valid _ h0
    have h2' : validT { (readL (rspL t)).1 with a := ((0 : Nat) : Int) } = true := h2
    have h1' : ({ (readL (rspL t)).1 with a := ((0 : Nat) : Int) } : Tk) = zeroA t := h1
    have h3 : validT (zeroA t) = true := by rw [← h1']; exact h2'
    have h4 : validT (zeroA t) = validT t := rfl
    rw [h4, hv] at h3
    exact absurd h3 (by decide)
  · rw [if_neg h0] at h
    have h1 := congrArg (fun x : Tk × Nat × Int => x.2.2) h
    exact absurd h1 h0
theorem tokR_self (l : List UInt8) : tokR l 0 = (if (readL l).2.2 = 0 then ({ (readL l).1 with a := 0 }, 0 + (readL l).2.1, 0) else (noTk, 0, (readL l).2.2)) := rfl
set_option maxHeartbeats 4000000 in
set_option maxRecDepth 100000 in
theorem rvalid_any (t : Tk) (hs : t.t.size ≤ 1000) (w : World) (hT : Tabs w) : Calls Tryz.prog 54 #[t.val] w fun e w' => e = .returned (.bool (validT t)) ∧ Below w.heap.size w w' := by
  have HSP := Lib.hid (show ∀ W, Tabs W → Calls Tryz.prog 33 #[.agg #[.int .i64 t.k, .string t.t, .int .i64 t.n, .int .i64 0]] W fun e w' => e = .returned (.string (bs (rspL t))) ∧ Below W.heap.size W w' from fun W hW => rSpell_any { t with a := 0 } (by show t.t.size ≤ _; omega) W hW)
  have HOK := Lib.hid (fun (hv : validT t = true) h5 => rvalid_ok hv h5)
  have HNO := Lib.hid (fun (hv : validT t = false) x n e h he => @rvalid_no t hv x n e h he)
  have HV5 := Lib.hid (show t.k = 5 → validT t = ((t.n == 0) && t.t.data.toList.isEmpty) from fun h => by
    unfold validT
    rw [if_neg (by omega), h, vt_5])
  have HZA := Lib.hid (show zeroA t = ⟨t.k, t.t, t.n, 0⟩ from rfl)
  have HRL := Lib.hid (show (rspL t).length ≤ 100000 from by
    have hz := list_size t.t
    unfold rspL
    split
    · split
      · rename_i h2
        have := decN_len t.n.toNat (by omega)
        omega
      · simp
    · split
      · simp; omega
      · split
        · omega
        · simp)
  have HT := Lib.hid hT
  generalize validT t = v at *
  generalize rspL t = sp at *
  obtain ⟨k, s, n, a⟩ := t
  simp only [Tk.val] at hs HSP HOK HNO HV5 HZA ⊢
  clear hT
  by_cases h5 : k = 5
  · subst h5
    have hv := HV5.out rfl
    by_cases hn : n = 0
    · subst hn
      by_cases h0 : s.size = 0
      · obtain ⟨k1, k2⟩ := str_empty h0
        have hvt : v = true := by rw [hv, size0 h0]; rfl
        have k4 : s.toList = [] := by rw [empty_list]; exact size0 h0
        subst hvt
        clear HSP HOK HNO HV5 HZA HRL hv h0
        go_enter Tryz.func54, Tryz.ntmps54
        go_wp2_with fail
        go_ret
        exact ⟨by first | rfl | (simp [k4]; done), (by repeat (first | with_reducible exact Below.refl _ _ | (with_reducible refine Below.setCell ?_ (by first | exact Nat.le_refl _ | omega | (simp; done) | (simp; omega)) _) | (with_reducible refine Below.alloc ?_ (by first | exact Nat.le_refl _ | omega | (simp; done) | (simp; omega)) _) | with_reducible refine Below.drew ?_ | with_reducible refine bel_drewN ?_ _ | (with_reducible refine bel_by (by with_reducible assumption) (by first | exact Nat.le_refl _ | omega | (simp; done) | (simp; omega)) ?_)))⟩
      · obtain ⟨k1, k2⟩ := str_full (show 0 < s.size by omega)
        have hvt : v = false := by rw [hv, empty_no (by omega)]; rfl
        have k4 : ¬ s.toList = [] := by intro h; rw [h] at k1; exact absurd k1 (by decide)
        subst hvt
        clear HSP HOK HNO HV5 HZA HRL hv h0
        go_enter Tryz.func54, Tryz.ntmps54
        go_wp2_with fail
        go_ret
        exact ⟨by first | rfl | (simp [k4]; done), (by repeat (first | with_reducible exact Below.refl _ _ | (with_reducible refine Below.setCell ?_ (by first | exact Nat.le_refl _ | omega | (simp; done) | (simp; omega)) _) | (with_reducible refine Below.alloc ?_ (by first | exact Nat.le_refl _ | omega | (simp; done) | (simp; omega)) _) | with_reducible refine Below.drew ?_ | with_reducible refine bel_drewN ?_ _ | (with_reducible refine bel_by (by with_reducible assumption) (by first | exact Nat.le_refl _ | omega | (simp; done) | (simp; omega)) ?_)))⟩
    · have q0 : (n == 0) = false := by simpa using hn
      have hvt : v = false := by rw [hv, q0]; rfl
      subst hvt
      clear HSP HOK HNO HV5 HZA HRL hv
      go_enter Tryz.func54, Tryz.ntmps54
      go_wp2_with fail
      all_goals
        go_ret
        exact ⟨by first | rfl | (simp [hn]; done), (by repeat (first | with_reducible exact Below.refl _ _ | (with_reducible refine Below.setCell ?_ (by first | exact Nat.le_refl _ | omega | (simp; done) | (simp; omega)) _) | (with_reducible refine Below.alloc ?_ (by first | exact Nat.le_refl _ | omega | (simp; done) | (simp; omega)) _) | with_reducible refine Below.drew ?_ | with_reducible refine bel_drewN ?_ _ | (with_reducible refine bel_by (by with_reducible assumption) (by first | exact Nat.le_refl _ | omega | (simp; done) | (simp; omega)) ?_)))⟩
  · have q5 : (k == 5) = false := by simpa using h5
    have hSz := bs_size sp
    have hSl := bs_data sp
    have HTK := Lib.hid (fun W => rtoken_any (bs sp) (by rw [hSz]; exact HRL.out) 0 (Nat.zero_le _) W)
    rw [hSl, List.drop_zero] at HTK
    rw [← hSz] at HOK
    obtain ⟨S, hS⟩ : ∃ S, bs sp = S := ⟨_, rfl⟩
    rw [hS] at HTK HOK HSP
    clear hSz hSl hS HV5
    obtain ⟨X, hX⟩ : ∃ X, tokR sp 0 = X := ⟨_, rfl⟩
    rw [hX] at HTK HOK
    have HXX := Lib.hid hX
    clear hX
    obtain ⟨⟨xk, xt, xn, xa⟩, m, e0⟩ := X
    simp only [resV, Tk.val] at HTK
    cases v with
    | true =>
      obtain ⟨o1, o2, o3⟩ := HOK.out rfl h5
      rw [HZA.out] at o3
      simp only [Prod.mk.injEq, Tk.mk.injEq] at o3
      obtain ⟨⟨g1, g2, g3, g4⟩, g5, g6⟩ := o3
      replace g1 := g1.symm
      replace g2 := g2.symm
      replace g3 := g3.symm
      replace g4 := g4.symm
      replace g5 := g5.symm
      replace g6 := g6.symm
      subst g1 g2 g3 g4 g5 g6
      have d1 : ((S.size : Int) == 0) = false := by rw [beq_eq_false_iff_ne]; omega
      have d2 : decide ((S.size : Int) > 60) = false := decide_eq_false (by omega)
      have d3 : ¬ (60 : Int) < (S.size : Int) := by omega
      have d4 : (((S.size : Int)) == (S.size : Int)) = true := by simp
      clear HOK HNO HZA HRL HXX
      go_enter Tryz.func54, Tryz.ntmps54
      go_wp2_with fail
      refine (HSP.out _ (HT.out.below (by repeat (first | with_reducible exact Below.refl _ _ | (with_reducible refine Below.setCell ?_ (by first | exact Nat.le_refl _ | omega | (simp; done) | (simp; omega)) _) | (with_reducible refine Below.alloc ?_ (by first | exact Nat.le_refl _ | omega | (simp; done) | (simp; omega)) _) | with_reducible refine Below.drew ?_ | with_reducible refine bel_drewN ?_ _ | (with_reducible refine bel_by (by with_reducible assumption) (by first | exact Nat.le_refl _ | omega | (simp; done) | (simp; omega)) ?_))))).mono ?_
      rintro e w1 ⟨rfl, hb1⟩
      have hz1 := bsize hb1
      simp at hz1
      have HB := Lib.hid (show Below w.heap.size w w1 from (by repeat (first | with_reducible exact Below.refl _ _ | (with_reducible refine Below.setCell ?_ (by first | exact Nat.le_refl _ | omega | (simp; done) | (simp; omega)) _) | (with_reducible refine Below.alloc ?_ (by first | exact Nat.le_refl _ | omega | (simp; done) | (simp; omega)) _) | with_reducible refine Below.drew ?_ | with_reducible refine bel_drewN ?_ _ | (with_reducible refine bel_by (by with_reducible assumption) (by first | exact Nat.le_refl _ | omega | (simp; done) | (simp; omega)) ?_))))
      have hA : Below w.heap.size w (w.alloc (.cells #[.int .i64 k, .string s, .int .i64 n, .int .i64 0] 51)) := (Below.refl _ _).alloc (Nat.le_refl _) _
      have HK1 := Lib.hid ((tk_new w ⟨k, s, n, 0⟩ 51).keep hb1)
      clear hb1 hA
      go_wp2_with fail
      refine (HTK.out _).mono ?_
      rintro e w2 ⟨rfl, hb2⟩
      have hz2 := bsize hb2
      have hbw := HB.out
      have HB2 := Lib.hid (show Below w.heap.size w w2 from (by repeat (first | with_reducible exact Below.refl _ _ | (with_reducible refine Below.setCell ?_ (by first | exact Nat.le_refl _ | omega | (simp; done) | (simp; omega)) _) | (with_reducible refine Below.alloc ?_ (by first | exact Nat.le_refl _ | omega | (simp; done) | (simp; omega)) _) | with_reducible refine Below.drew ?_ | with_reducible refine bel_drewN ?_ _ | (with_reducible refine bel_by (by with_reducible assumption) (by first | exact Nat.le_refl _ | omega | (simp; done) | (simp; omega)) ?_))))
      obtain ⟨z0, z1, z2, z3, zf, zl⟩ := HK1.out.keep hb2
      clear hb2 hbw
      go_wp2_with fail
      have hbw2 := HB2.out
      go_ret
      exact ⟨by first | rfl | (simp; done), (by repeat (first | with_reducible exact Below.refl _ _ | (with_reducible refine Below.setCell ?_ (by first | exact Nat.le_refl _ | omega | (simp; done) | (simp; omega)) _) | (with_reducible refine Below.alloc ?_ (by first | exact Nat.le_refl _ | omega | (simp; done) | (simp; omega)) _) | with_reducible refine Below.drew ?_ | with_reducible refine bel_drewN ?_ _ | (with_reducible refine bel_by (by with_reducible assumption) (by first | exact Nat.le_refl _ | omega | (simp; done) | (simp; omega)) ?_)))⟩
    | false =>
      by_cases hl0 : S.size = 0
      · have d1 : ((S.size : Int) == 0) = true := by rw [beq_iff_eq]; omega
        clear HOK HNO HZA HRL HXX HTK
        go_enter Tryz.func54, Tryz.ntmps54
        go_wp2_with fail
        refine (HSP.out _ (HT.out.below (by repeat (first | with_reducible exact Below.refl _ _ | (with_reducible refine Below.setCell ?_ (by first | exact Nat.le_refl _ | omega | (simp; done) | (simp; omega)) _) | (with_reducible refine Below.alloc ?_ (by first | exact Nat.le_refl _ | omega | (simp; done) | (simp; omega)) _) | with_reducible refine Below.drew ?_ | with_reducible refine bel_drewN ?_ _ | (with_reducible refine bel_by (by with_reducible assumption) (by first | exact Nat.le_refl _ | omega | (simp; done) | (simp; omega)) ?_))))).mono ?_
        rintro e w1 ⟨rfl, hb1⟩
        have hz1 := bsize hb1
        simp at hz1
        have HB := Lib.hid (show Below w.heap.size w w1 from (by repeat (first | with_reducible exact Below.refl _ _ | (with_reducible refine Below.setCell ?_ (by first | exact Nat.le_refl _ | omega | (simp; done) | (simp; omega)) _) | (with_reducible refine Below.alloc ?_ (by first | exact Nat.le_refl _ | omega | (simp; done) | (simp; omega)) _) | with_reducible refine Below.drew ?_ | with_reducible refine bel_drewN ?_ _ | (with_reducible refine bel_by (by with_reducible assumption) (by first | exact Nat.le_refl _ | omega | (simp; done) | (simp; omega)) ?_))))
        have hA : Below w.heap.size w (w.alloc (.cells #[.int .i64 k, .string s, .int .i64 n, .int .i64 0] 51)) := (Below.refl _ _).alloc (Nat.le_refl _) _
        have HK1 := Lib.hid ((tk_new w ⟨k, s, n, 0⟩ 51).keep hb1)
        clear hb1 hA
        go_wp2_with fail
        go_ret
        exact ⟨rfl, HB.out⟩
      · have d1 : ((S.size : Int) == 0) = false := by rw [beq_eq_false_iff_ne]; omega
        by_cases hl60 : 60 < S.size
        · have d2 : decide ((S.size : Int) > 60) = true := decide_eq_true (by omega)
          have d3 : (60 : Int) < (S.size : Int) := by omega
          clear HOK HNO HZA HRL HXX HTK
          go_enter Tryz.func54, Tryz.ntmps54
          go_wp2_with fail
          refine (HSP.out _ (HT.out.below (by repeat (first | with_reducible exact Below.refl _ _ | (with_reducible refine Below.setCell ?_ (by first | exact Nat.le_refl _ | omega | (simp; done) | (simp; omega)) _) | (with_reducible refine Below.alloc ?_ (by first | exact Nat.le_refl _ | omega | (simp; done) | (simp; omega)) _) | with_reducible refine Below.drew ?_ | with_reducible refine bel_drewN ?_ _ | (with_reducible refine bel_by (by with_reducible assumption) (by first | exact Nat.le_refl _ | omega | (simp; done) | (simp; omega)) ?_))))).mono ?_
          rintro e w1 ⟨rfl, hb1⟩
          have hz1 := bsize hb1
          simp at hz1
          have HB := Lib.hid (show Below w.heap.size w w1 from (by repeat (first | with_reducible exact Below.refl _ _ | (with_reducible refine Below.setCell ?_ (by first | exact Nat.le_refl _ | omega | (simp; done) | (simp; omega)) _) | (with_reducible refine Below.alloc ?_ (by first | exact Nat.le_refl _ | omega | (simp; done) | (simp; omega)) _) | with_reducible refine Below.drew ?_ | with_reducible refine bel_drewN ?_ _ | (with_reducible refine bel_by (by with_reducible assumption) (by first | exact Nat.le_refl _ | omega | (simp; done) | (simp; omega)) ?_))))
          have hA : Below w.heap.size w (w.alloc (.cells #[.int .i64 k, .string s, .int .i64 n, .int .i64 0] 51)) := (Below.refl _ _).alloc (Nat.le_refl _) _
          have HK1 := Lib.hid ((tk_new w ⟨k, s, n, 0⟩ 51).keep hb1)
          clear hb1 hA
          go_wp2_with fail
          go_ret
          exact ⟨rfl, HB.out⟩
        · have d2 : decide ((S.size : Int) > 60) = false := decide_eq_false (by omega)
          have d3 : ¬ (60 : Int) < (S.size : Int) := by omega
          by_cases he : e0 = 0
          · subst he
            have hne := HNO.out rfl _ _ _ HXX.out rfl
            rw [HZA.out] at hne
            have HNE := Lib.hid hne
            clear HOK HNO HZA HRL HXX hne
            by_cases hm : (m : Int) = (S.size : Int)
            · have d4 : ((m : Int) == (S.size : Int)) = true := by rw [beq_iff_eq]; exact hm
              have HM := Lib.hid hm
              clear hm
              go_enter Tryz.func54, Tryz.ntmps54
              go_wp2_with fail
              refine (HSP.out _ (HT.out.below (by repeat (first | with_reducible exact Below.refl _ _ | (with_reducible refine Below.setCell ?_ (by first | exact Nat.le_refl _ | omega | (simp; done) | (simp; omega)) _) | (with_reducible refine Below.alloc ?_ (by first | exact Nat.le_refl _ | omega | (simp; done) | (simp; omega)) _) | with_reducible refine Below.drew ?_ | with_reducible refine bel_drewN ?_ _ | (with_reducible refine bel_by (by with_reducible assumption) (by first | exact Nat.le_refl _ | omega | (simp; done) | (simp; omega)) ?_))))).mono ?_
              rintro e w1 ⟨rfl, hb1⟩
              have hz1 := bsize hb1
              simp at hz1
              have HB := Lib.hid (show Below w.heap.size w w1 from (by repeat (first | with_reducible exact Below.refl _ _ | (with_reducible refine Below.setCell ?_ (by first | exact Nat.le_refl _ | omega | (simp; done) | (simp; omega)) _) | (with_reducible refine Below.alloc ?_ (by first | exact Nat.le_refl _ | omega | (simp; done) | (simp; omega)) _) | with_reducible refine Below.drew ?_ | with_reducible refine bel_drewN ?_ _ | (with_reducible refine bel_by (by with_reducible assumption) (by first | exact Nat.le_refl _ | omega | (simp; done) | (simp; omega)) ?_))))
              have hA : Below w.heap.size w (w.alloc (.cells #[.int .i64 k, .string s, .int .i64 n, .int .i64 0] 51)) := (Below.refl _ _).alloc (Nat.le_refl _) _
              have HK1 := Lib.hid ((tk_new w ⟨k, s, n, 0⟩ 51).keep hb1)
              clear hb1 hA
              go_wp2_with fail
              refine (HTK.out _).mono ?_
              rintro e w2 ⟨rfl, hb2⟩
              have hz2 := bsize hb2
              have hbw := HB.out
              have HB2 := Lib.hid (show Below w.heap.size w w2 from (by repeat (first | with_reducible exact Below.refl _ _ | (with_reducible refine Below.setCell ?_ (by first | exact Nat.le_refl _ | omega | (simp; done) | (simp; omega)) _) | (with_reducible refine Below.alloc ?_ (by first | exact Nat.le_refl _ | omega | (simp; done) | (simp; omega)) _) | with_reducible refine Below.drew ?_ | with_reducible refine bel_drewN ?_ _ | (with_reducible refine bel_by (by with_reducible assumption) (by first | exact Nat.le_refl _ | omega | (simp; done) | (simp; omega)) ?_))))
              obtain ⟨z0, z1, z2, z3, zf, zl⟩ := HK1.out.keep hb2
              clear hb2 hbw
              go_wp2_with fail
              all_goals first
                | (have hbw2 := HB2.out
                   go_ret
                   exact ⟨rfl, (by repeat (first | with_reducible exact Below.refl _ _ | (with_reducible refine Below.setCell ?_ (by first | exact Nat.le_refl _ | omega | (simp; done) | (simp; omega)) _) | (with_reducible refine Below.alloc ?_ (by first | exact Nat.le_refl _ | omega | (simp; done) | (simp; omega)) _) | with_reducible refine Below.drew ?_ | with_reducible refine bel_drewN ?_ _ | (with_reducible refine bel_by (by with_reducible assumption) (by first | exact Nat.le_refl _ | omega | (simp; done) | (simp; omega)) ?_)))⟩)
                | (have q1 : xk = k := by assumption
                   have q2 : xt.toList = s.toList := by assumption
                   have q3 : xn = n := by assumption
                   have q5 : xa = 0 := by assumption
                   have q4 : xt = s := bs_inj (by rw [← empty_list, ← empty_list]; exact q2)
                   exact absurd (by rw [q1, q3, q4, q5]) HNE.out)
                | (go_outline; trace_state; sorry)
            · have d4 : ((m : Int) == (S.size : Int)) = false := by rw [beq_eq_false_iff_ne]; exact hm
              clear hm
              go_enter Tryz.func54, Tryz.ntmps54
              go_wp2_with fail
              refine (HSP.out _ (HT.out.below (by repeat (first | with_reducible exact Below.refl _ _ | (with_reducible refine Below.setCell ?_ (by first | exact Nat.le_refl _ | omega | (simp; done) | (simp; omega)) _) | (with_reducible refine Below.alloc ?_ (by first | exact Nat.le_refl _ | omega | (simp; done) | (simp; omega)) _) | with_reducible refine Below.drew ?_ | with_reducible refine bel_drewN ?_ _ | (with_reducible refine bel_by (by with_reducible assumption) (by first | exact Nat.le_refl _ | omega | (simp; done) | (simp; omega)) ?_))))).mono ?_
              rintro e w1 ⟨rfl, hb1⟩
              have hz1 := bsize hb1
              simp at hz1
              have HB := Lib.hid (show Below w.heap.size w w1 from (by repeat (first | with_reducible exact Below.refl _ _ | (with_reducible refine Below.setCell ?_ (by first | exact Nat.le_refl _ | omega | (simp; done) | (simp; omega)) _) | (with_reducible refine Below.alloc ?_ (by first | exact Nat.le_refl _ | omega | (simp; done) | (simp; omega)) _) | with_reducible refine Below.drew ?_ | with_reducible refine bel_drewN ?_ _ | (with_reducible refine bel_by (by with_reducible assumption) (by first | exact Nat.le_refl _ | omega | (simp; done) | (simp; omega)) ?_))))
              have hA : Below w.heap.size w (w.alloc (.cells #[.int .i64 k, .string s, .int .i64 n, .int .i64 0] 51)) := (Below.refl _ _).alloc (Nat.le_refl _) _
              have HK1 := Lib.hid ((tk_new w ⟨k, s, n, 0⟩ 51).keep hb1)
              clear hb1 hA
              go_wp2_with fail
              refine (HTK.out _).mono ?_
              rintro e w2 ⟨rfl, hb2⟩
              have hz2 := bsize hb2
              have hbw := HB.out
              have HB2 := Lib.hid (show Below w.heap.size w w2 from (by repeat (first | with_reducible exact Below.refl _ _ | (with_reducible refine Below.setCell ?_ (by first | exact Nat.le_refl _ | omega | (simp; done) | (simp; omega)) _) | (with_reducible refine Below.alloc ?_ (by first | exact Nat.le_refl _ | omega | (simp; done) | (simp; omega)) _) | with_reducible refine Below.drew ?_ | with_reducible refine bel_drewN ?_ _ | (with_reducible refine bel_by (by with_reducible assumption) (by first | exact Nat.le_refl _ | omega | (simp; done) | (simp; omega)) ?_))))
              obtain ⟨z0, z1, z2, z3, zf, zl⟩ := HK1.out.keep hb2
              clear hb2 hbw
              go_wp2_with fail
              have hbw2 := HB2.out
              go_ret
              exact ⟨rfl, (by repeat (first | with_reducible exact Below.refl _ _ | (with_reducible refine Below.setCell ?_ (by first | exact Nat.le_refl _ | omega | (simp; done) | (simp; omega)) _) | (with_reducible refine Below.alloc ?_ (by first | exact Nat.le_refl _ | omega | (simp; done) | (simp; omega)) _) | with_reducible refine Below.drew ?_ | with_reducible refine bel_drewN ?_ _ | (with_reducible refine bel_by (by with_reducible assumption) (by first | exact Nat.le_refl _ | omega | (simp; done) | (simp; omega)) ?_)))⟩
          · have d4 : (e0 == 0) = false := by simpa using he
            clear HOK HNO HZA HRL HXX he
            go_enter Tryz.func54, Tryz.ntmps54
            go_wp2_with fail
            refine (HSP.out _ (HT.out.below (by repeat (first | with_reducible exact Below.refl _ _ | (with_reducible refine Below.setCell ?_ (by first | exact Nat.le_refl _ | omega | (simp; done) | (simp; omega)) _) | (with_reducible refine Below.alloc ?_ (by first | exact Nat.le_refl _ | omega | (simp; done) | (simp; omega)) _) | with_reducible refine Below.drew ?_ | with_reducible refine bel_drewN ?_ _ | (with_reducible refine bel_by (by with_reducible assumption) (by first | exact Nat.le_refl _ | omega | (simp; done) | (simp; omega)) ?_))))).mono ?_
            rintro e w1 ⟨rfl, hb1⟩
            have hz1 := bsize hb1
            simp at hz1
            have HB := Lib.hid (show Below w.heap.size w w1 from (by repeat (first | with_reducible exact Below.refl _ _ | (with_reducible refine Below.setCell ?_ (by first | exact Nat.le_refl _ | omega | (simp; done) | (simp; omega)) _) | (with_reducible refine Below.alloc ?_ (by first | exact Nat.le_refl _ | omega | (simp; done) | (simp; omega)) _) | with_reducible refine Below.drew ?_ | with_reducible refine bel_drewN ?_ _ | (with_reducible refine bel_by (by with_reducible assumption) (by first | exact Nat.le_refl _ | omega | (simp; done) | (simp; omega)) ?_))))
            have hA : Below w.heap.size w (w.alloc (.cells #[.int .i64 k, .string s, .int .i64 n, .int .i64 0] 51)) := (Below.refl _ _).alloc (Nat.le_refl _) _
            have HK1 := Lib.hid ((tk_new w ⟨k, s, n, 0⟩ 51).keep hb1)
            clear hb1 hA
            go_wp2_with fail
            refine (HTK.out _).mono ?_
            rintro e w2 ⟨rfl, hb2⟩
            have hz2 := bsize hb2
            have hbw := HB.out
            have HB2 := Lib.hid (show Below w.heap.size w w2 from (by repeat (first | with_reducible exact Below.refl _ _ | (with_reducible refine Below.setCell ?_ (by first | exact Nat.le_refl _ | omega | (simp; done) | (simp; omega)) _) | (with_reducible refine Below.alloc ?_ (by first | exact Nat.le_refl _ | omega | (simp; done) | (simp; omega)) _) | with_reducible refine Below.drew ?_ | with_reducible refine bel_drewN ?_ _ | (with_reducible refine bel_by (by with_reducible assumption) (by first | exact Nat.le_refl _ | omega | (simp; done) | (simp; omega)) ?_))))
            obtain ⟨z0, z1, z2, z3, zf, zl⟩ := HK1.out.keep hb2
            clear hb2 hbw
            go_wp2_with fail
            have hbw2 := HB2.out
            go_ret
            exact ⟨rfl, (by repeat (first | with_reducible exact Below.refl _ _ | (with_reducible refine Below.setCell ?_ (by first | exact Nat.le_refl _ | omega | (simp; done) | (simp; omega)) _) | (with_reducible refine Below.alloc ?_ (by first | exact Nat.le_refl _ | omega | (simp; done) | (simp; omega)) _) | with_reducible refine Below.drew ?_ | with_reducible refine bel_drewN ?_ _ | (with_reducible refine bel_by (by with_reducible assumption) (by first | exact Nat.le_refl _ | omega | (simp; done) | (simp; omega)) ?_)))⟩
end Go.Proofs.YtohalocbghhenaaGreatDoor
