/- Contracts of layer 9: Valid, decimal, Spell. -/
import Derived.Test.YtohalocbghhenaaGreatDoorVal
import Derived.Test.YtohalocbghhenaaGreatDoorLexJ
import Derived.Sort.Grow
set_option linter.unusedSimpArgs false
set_option linter.unusedVariables false
namespace Go.Proofs.YtohalocbghhenaaGreatDoor
open Go.RowKit

theorem validT_two (s : ByteArray) (n a : Int) : validT ⟨2, s, n, a⟩ = ((s.data.toList.isEmpty && decide (0 ≤ n)) && decide (n ≤ 1000000000)) := rfl
theorem validT_no {k : Int} (h : k ≠ 2) (s : ByteArray) (n a : Int) : validT ⟨k, s, n, a⟩ = ((n == 0) && vText k s.data.toList) := by
  unfold validT; simp only; rw [if_neg h]
theorem empty_no {s : ByteArray} (h : 0 < s.size) : s.data.toList.isEmpty = false := by
  cases hh : s.data.toList with
  | nil => have := list_size s; rw [hh] at this; simp at this; omega
  | cons c t => rfl
set_option maxHeartbeats 2000000 in
set_option maxRecDepth 100000 in
theorem valid_any (t : Tk) (hs : t.t.size ≤ 1000000000) (w : World) (hT : Tabs w) : Calls Tryz.prog 64 #[t.val] w fun e w' => e = .returned (.bool (validT t)) ∧ Below w.heap.size w w' := by
  obtain ⟨k, s, n, a⟩ := t
  unfold Tk.val
  simp only at hs ⊢
  have HT := Lib.hid hT
  clear hT
  by_cases e2 : k = 2
  · subst e2
    have HR := Lib.hid (validT_two s n a)
    generalize validT ⟨2, s, n, a⟩ = r at *
    by_cases h0 : s.size = 0
    · obtain ⟨k1, k2⟩ := str_empty h0
      rw [size0 h0] at HR
      by_cases h1 : 0 ≤ n
      · by_cases h2 : n ≤ 1000000000
        · have HZ := Lib.hid (show r = true by rw [HR.out]; simp [h1, h2])
          have d1 : decide (n ≥ 0) = true := decide_eq_true h1
          clear HR h0
          go_enter Tryz.func64, Tryz.ntmps64
          go_wp2_with fail
          go_ret
          exact ⟨ret_bool (by simp [HZ.out, h2]), (by repeat (first | with_reducible exact Below.refl _ _ | (with_reducible refine Below.setCell ?_ (by first | exact Nat.le_refl _ | omega | (simp; done) | (simp; omega)) _) | (with_reducible refine Below.alloc ?_ (by first | exact Nat.le_refl _ | omega | (simp; done) | (simp; omega)) _) | with_reducible refine Below.drew ?_ | with_reducible refine bel_drewN ?_ _ | (with_reducible refine bel_by (by with_reducible assumption) (by first | exact Nat.le_refl _ | omega | (simp; done) | (simp; omega)) ?_)))⟩
        · have HZ := Lib.hid (show r = false by rw [HR.out]; simp [h2])
          have d1 : decide (n ≥ 0) = true := decide_eq_true h1
          clear HR h0
          go_enter Tryz.func64, Tryz.ntmps64
          go_wp2_with fail
          go_ret
          exact ⟨ret_bool (by first | (simp [HZ.out]; done) | (simp [HZ.out]; omega)), (by repeat (first | with_reducible exact Below.refl _ _ | (with_reducible refine Below.setCell ?_ (by first | exact Nat.le_refl _ | omega | (simp; done) | (simp; omega)) _) | (with_reducible refine Below.alloc ?_ (by first | exact Nat.le_refl _ | omega | (simp; done) | (simp; omega)) _) | with_reducible refine Below.drew ?_ | with_reducible refine bel_drewN ?_ _ | (with_reducible refine bel_by (by with_reducible assumption) (by first | exact Nat.le_refl _ | omega | (simp; done) | (simp; omega)) ?_)))⟩
      · have HZ := Lib.hid (show r = false by rw [HR.out]; simp [h1])
        have d1 : decide (n ≥ 0) = false := decide_eq_false h1
        clear HR h0
        go_enter Tryz.func64, Tryz.ntmps64
        go_wp2_with fail
        go_ret
        exact ⟨ret_bool (by simp [HZ.out]), (by repeat (first | with_reducible exact Below.refl _ _ | (with_reducible refine Below.setCell ?_ (by first | exact Nat.le_refl _ | omega | (simp; done) | (simp; omega)) _) | (with_reducible refine Below.alloc ?_ (by first | exact Nat.le_refl _ | omega | (simp; done) | (simp; omega)) _) | with_reducible refine Below.drew ?_ | with_reducible refine bel_drewN ?_ _ | (with_reducible refine bel_by (by with_reducible assumption) (by first | exact Nat.le_refl _ | omega | (simp; done) | (simp; omega)) ?_)))⟩
    · obtain ⟨k1, k2⟩ := str_full (show 0 < s.size by omega)
      have HZ := Lib.hid (show r = false by rw [HR.out, empty_no (by omega)]; rfl)
      clear HR h0
      go_enter Tryz.func64, Tryz.ntmps64
      go_wp2_with fail
      go_ret
      exact ⟨ret_bool (by simp [HZ.out]), (by repeat (first | with_reducible exact Below.refl _ _ | (with_reducible refine Below.setCell ?_ (by first | exact Nat.le_refl _ | omega | (simp; done) | (simp; omega)) _) | (with_reducible refine Below.alloc ?_ (by first | exact Nat.le_refl _ | omega | (simp; done) | (simp; omega)) _) | with_reducible refine Below.drew ?_ | with_reducible refine bel_drewN ?_ _ | (with_reducible refine bel_by (by with_reducible assumption) (by first | exact Nat.le_refl _ | omega | (simp; done) | (simp; omega)) ?_)))⟩
  · have HR := Lib.hid (validT_no e2 s n a)
    have q2 : (k == 2) = false := by simpa using e2
    generalize validT ⟨k, s, n, a⟩ = r at *
    clear e2
    by_cases h0 : n = 0
    · subst h0
      have HV := Lib.hid (fun W hW => validText_any k s hs W hW)
      have HZ := Lib.hid (show r = vText k s.data.toList by rw [HR.out]; rfl)
      generalize vText k s.data.toList = q at *
      clear HR
      go_enter Tryz.func64, Tryz.ntmps64
      go_wp2_with fail
      refine (HV.out _ (HT.out.below (by repeat (first | with_reducible exact Below.refl _ _ | (with_reducible refine Below.setCell ?_ (by first | exact Nat.le_refl _ | omega | (simp; done) | (simp; omega)) _) | (with_reducible refine Below.alloc ?_ (by first | exact Nat.le_refl _ | omega | (simp; done) | (simp; omega)) _) | with_reducible refine Below.drew ?_ | with_reducible refine bel_drewN ?_ _ | (with_reducible refine bel_by (by with_reducible assumption) (by first | exact Nat.le_refl _ | omega | (simp; done) | (simp; omega)) ?_))))).mono ?_
      rintro e w1 ⟨rfl, hb1⟩
      have hz1 := bsize hb1
      simp at hz1
      have HB := Lib.hid (show Below w.heap.size w w1 from (by repeat (first | with_reducible exact Below.refl _ _ | (with_reducible refine Below.setCell ?_ (by first | exact Nat.le_refl _ | omega | (simp; done) | (simp; omega)) _) | (with_reducible refine Below.alloc ?_ (by first | exact Nat.le_refl _ | omega | (simp; done) | (simp; omega)) _) | with_reducible refine Below.drew ?_ | with_reducible refine bel_drewN ?_ _ | (with_reducible refine bel_by (by with_reducible assumption) (by first | exact Nat.le_refl _ | omega | (simp; done) | (simp; omega)) ?_))))
      clear hb1
      go_wp2_with fail
      go_ret
      exact ⟨ret_bool HZ.out.symm, HB.out⟩
    · have q0 : (n == 0) = false := by simpa using h0
      have HZ := Lib.hid (show r = false by rw [HR.out, q0]; rfl)
      clear HR h0
      go_enter Tryz.func64, Tryz.ntmps64
      go_wp2_with fail
      go_ret
      exact ⟨ret_bool HZ.out.symm, (by repeat (first | with_reducible exact Below.refl _ _ | (with_reducible refine Below.setCell ?_ (by first | exact Nat.le_refl _ | omega | (simp; done) | (simp; omega)) _) | (with_reducible refine Below.alloc ?_ (by first | exact Nat.le_refl _ | omega | (simp; done) | (simp; omega)) _) | with_reducible refine Below.drew ?_ | with_reducible refine bel_drewN ?_ _ | (with_reducible refine bel_by (by with_reducible assumption) (by first | exact Nat.le_refl _ | omega | (simp; done) | (simp; omega)) ?_)))⟩
theorem itoa_nat (m : Nat) : Lib.itoa (m : Int) = Lib.decDigits m := by
  unfold Lib.itoa
  rw [if_neg (by omega)]
  rfl
theorem fmt_nat (v : Int) (m : Nat) (hv : v = (m : Int)) (hm : m ≤ 9223372036854775807) (w : World) (hT : Tabs w) :
    Calls Tryz.prog 81 #[.int .i64 v, .int .i64 10] w fun e w' => e = .returned (.string (bs (Lib.decDigits m))) ∧ Below w.heap.size w w' := by
  subst hv
  refine (Tryz.strconv_FormatInt_10 (m : Int) (by omega) (by omega) w hT.pow).mono ?_
  rintro e w' ⟨rfl, k, os, hw⟩
  exact ⟨by rw [itoa_nat]; rfl, by rw [hw]; exact below_grow k os⟩
theorem bs_cat3 (a b : ByteArray) (c : UInt8) : a ++ ⟨#[c]⟩ ++ b = bs (a.data.toList ++ c :: b.data.toList) := by
  apply bs_inj
  rw [bs_data]
  simp
theorem bs_cat3b (a b : ByteArray) (c : UInt8) : a ++ (⟨#[c]⟩ ++ b) = bs (a.data.toList ++ c :: b.data.toList) := by
  apply bs_inj
  rw [bs_data]
  simp
set_option maxHeartbeats 2000000 in
set_option maxRecDepth 100000 in
theorem decimal_any (n : Nat) (hn : n ≤ 1000000000) (w : World) (hT : Tabs w) : Calls Tryz.prog 79 #[.int .i64 (n : Int)] w fun e w' => e = .returned (.string (bs (decN n))) ∧ Below w.heap.size w w' := by
  have HF1 := Lib.hid (fun W hW => fmt_nat ((n : Int) / 1000) (n / 1000) (by omega) (by omega) W hW)
  have HF2 := Lib.hid (fun W hW => fmt_nat (1000 + (n : Int) % 1000) (1000 + n % 1000) (by omega) (by omega) W hW)
  have hl1 := dd_len 6 (n / 1000) (by omega)
  have h4 := dd_four (n % 1000) (by omega)
  have hl2 : (Lib.decDigits (1000 + n % 1000)).length = 4 := by
    have h5 := congrArg List.length h4
    rw [List.length_drop] at h5
    simp at h5
    omega
  have hf := (fraN_facts (n % 1000) (by omega)).2.1
  have HD := Lib.hid (show decN n = Lib.decDigits (n / 1000) ++ (if fraN (n % 1000) = [] then [] else 46 :: fraN (n % 1000)) from rfl)
  have HFR := Lib.hid (show fraN (n % 1000) = Lib.trimRightB ((Lib.decDigits (1000 + n % 1000)).drop 1) 48 from rfl)
  generalize decN n = R at *
  generalize fraN (n % 1000) = F at *
  obtain ⟨S1, h1⟩ : ∃ S, bs (Lib.decDigits (n / 1000)) = S := ⟨_, rfl⟩
  obtain ⟨S2, h2⟩ : ∃ S, bs (Lib.decDigits (1000 + n % 1000)) = S := ⟨_, rfl⟩
  have e1 : Lib.decDigits (n / 1000) = S1.data.toList := by rw [← h1, bs_data]
  have e2 : Lib.decDigits (1000 + n % 1000) = S2.data.toList := by rw [← h2, bs_data]
  rw [h1] at HF1
  rw [h2] at HF2
  rw [e1] at HD hl1
  rw [e2] at HFR hl2
  rw [list_size] at hl1 hl2
  obtain ⟨U, hU⟩ : ∃ U, S2.extract 1 S2.size = U := ⟨_, rfl⟩
  have eU : U.data.toList = S2.data.toList.drop 1 := by rw [← hU, ext_list, List.take_of_length_le (by rw [List.length_drop, list_size]; exact Nat.le_refl _)]
  have eUs : U.size = 3 := by rw [← hU]; simp; omega
  rw [← eU] at HFR
  have HTR := Lib.hid (fun W => Tryz.strings_TrimRight_one U 48 (by decide) W (by omega))
  rw [← HFR.out] at HTR
  obtain ⟨T, hTT⟩ : ∃ T, bs F = T := ⟨_, rfl⟩
  have eT : F = T.data.toList := by rw [← hTT, bs_data]
  have HTR2 := Lib.hid (show ∀ W, Calls Tryz.prog 93 #[.string U, .string ⟨#[48]⟩] W fun e w' => e = .returned (.string T) ∧ W = w' from fun W => (HTR.out W).mono (by rintro e w' ⟨rfl, rfl⟩; exact ⟨by rw [← hTT]; rfl, rfl⟩))
  have hts : T.size ≤ 3 := by rw [← list_size, ← eT]; exact hf
  have hFe : F = [] ↔ T.size = 0 := by rw [eT, ← list_size, List.length_eq_zero_iff]
  have HU := Lib.hid hU
  have hs2 : S2.size = 4 := hl2
  have HT := Lib.hid hT
  have HS2 := Lib.hid hs2
  have hle : 1 ≤ S2.size := by omega
  have hli : ¬ (1 : Int) > (S2.size : Int) := by omega
  clear hT HTR HFR h4 hl2 hf h1 h2 e1 e2 hU eU eUs hTT hs2
  by_cases h0 : T.size = 0
  · obtain ⟨k1, k2⟩ := str_empty h0
    have HZ := Lib.hid (show S1 = bs R by rw [HD.out, if_pos (hFe.2 h0), List.append_nil, bs_list])
    clear HD hFe h0 eT hts
    have hX := HU.out
    go_enter Tryz.func79, Tryz.ntmps79
    go_wp2_with fail
    refine (HF1.out _ HT.out).mono ?_
    rintro e w1 ⟨rfl, hb1⟩
    have HT1 := Lib.hid (HT.out.below hb1)
    have hz1 := bsize hb1
    go_wp2_with fail
    refine (HF2.out _ HT1.out).mono ?_
    rintro e w2 ⟨rfl, hb2⟩
    go_wp2_with fail
    refine (HTR2.out _).mono ?_
    rintro e w3 ⟨rfl, rfl⟩
    go_wp2_with fail
    go_ret
    exact ⟨ret_str HZ.out, (by repeat (first | with_reducible exact Below.refl _ _ | (with_reducible refine Below.setCell ?_ (by first | exact Nat.le_refl _ | omega | (simp; done) | (simp; omega)) _) | (with_reducible refine Below.alloc ?_ (by first | exact Nat.le_refl _ | omega | (simp; done) | (simp; omega)) _) | with_reducible refine Below.drew ?_ | with_reducible refine bel_drewN ?_ _ | (with_reducible refine bel_by (by with_reducible assumption) (by first | exact Nat.le_refl _ | omega | (simp; done) | (simp; omega)) ?_)))⟩
  · obtain ⟨k1, k2⟩ := str_full (show 0 < T.size by omega)
    have HZ := Lib.hid (show S1 ++ ⟨#[46]⟩ ++ T = bs R by rw [HD.out, if_neg (fun h => h0 (hFe.1 h)), bs_cat3, eT])
    clear HD hFe h0 eT
    have hX := HU.out
    go_enter Tryz.func79, Tryz.ntmps79
    go_wp2_with fail
    refine (HF1.out _ HT.out).mono ?_
    rintro e w1 ⟨rfl, hb1⟩
    have HT1 := Lib.hid (HT.out.below hb1)
    have hz1 := bsize hb1
    go_wp2_with fail
    refine (HF2.out _ HT1.out).mono ?_
    rintro e w2 ⟨rfl, hb2⟩
    go_wp2_with fail
    refine (HTR2.out _).mono ?_
    rintro e w3 ⟨rfl, rfl⟩
    go_wp2_with fail
    go_ret
    exact ⟨ret_str HZ.out, (by repeat (first | with_reducible exact Below.refl _ _ | (with_reducible refine Below.setCell ?_ (by first | exact Nat.le_refl _ | omega | (simp; done) | (simp; omega)) _) | (with_reducible refine Below.alloc ?_ (by first | exact Nat.le_refl _ | omega | (simp; done) | (simp; omega)) _) | with_reducible refine Below.drew ?_ | with_reducible refine bel_drewN ?_ _ | (with_reducible refine bel_by (by with_reducible assumption) (by first | exact Nat.le_refl _ | omega | (simp; done) | (simp; omega)) ?_)))⟩
/-- what Spell gives -/
def spellS (t : Tk) : List UInt8 × Int := if validT t then (spellT t, 0) else ([], 1)
theorem valid_short (t : Tk) (hv : validT t = true) : t.t.size ≤ 42 := by
  by_cases h2 : t.k = 2
  · unfold validT at hv
    rw [if_pos h2] at hv
    simp only [Bool.and_eq_true, List.isEmpty_iff] at hv
    have := list_size t.t
    rw [hv.1.1] at this
    simp at this; omega
  · have := spell_len t hv
    have hs := list_size t.t
    unfold spellT at this
    rw [if_neg h2] at this
    split at this
    · simp at this; omega
    · omega
theorem bs_quote (s : ByteArray) : (⟨#[34]⟩ : ByteArray) ++ s ++ ⟨#[34]⟩ = bs (34 :: (s.data.toList ++ [34])) := by
  apply bs_inj
  rw [bs_data]
  simp
set_option maxHeartbeats 2000000 in
set_option maxRecDepth 100000 in
theorem spell_any (t : Tk) (hs : t.t.size ≤ 1000000000) (w : World) (hT : Tabs w) : Calls Tryz.prog 53 #[t.val] w fun e w' => e = .returned (.tuple #[.string (bs (spellS t).1), .int .i64 (spellS t).2]) ∧ Below w.heap.size w w' := by
  have HV := Lib.hid (fun W hW => valid_any t hs W hW)
  have HT := Lib.hid hT
  clear hT
  have hvs := valid_short t
  have HSP := Lib.hid (show spellT t = if t.k = 2 then decN t.n.toNat else if t.k = 3 then 34 :: (t.t.data.toList ++ [34]) else t.t.data.toList from rfl)
  have HDE := Lib.hid (fun n hn W hW => decimal_any n hn W hW)
  have hvt := fun (h : t.k = 2) (h2 : validT t = true) => by
    unfold validT at h2
    rw [if_pos h] at h2
    simp only [Bool.and_eq_true, decide_eq_true_eq] at h2
    exact h2
  have HVT := Lib.hid hvt
  have HVS := Lib.hid hvs
  clear hvt hvs
  have HSS := Lib.hid (show spellS t = if validT t then (spellT t, 0) else ([], 1) from rfl)
  generalize validT t = v at *
  generalize spellS t = r at *
  generalize spellT t = sp at *
  obtain ⟨k, s, n, a⟩ := t
  simp only [Tk.val] at hs HV HSP HVT HVS ⊢
  cases v with
  | false =>
    have hr := HSS.out
    rw [if_neg (by simp)] at hr
    subst hr
    clear HSS HVT HSP
    go_enter Tryz.func53, Tryz.ntmps53
    go_wp2_with fail
    refine (HV.out _ (HT.out.below (by repeat (first | with_reducible exact Below.refl _ _ | (with_reducible refine Below.setCell ?_ (by first | exact Nat.le_refl _ | omega | (simp; done) | (simp; omega)) _) | (with_reducible refine Below.alloc ?_ (by first | exact Nat.le_refl _ | omega | (simp; done) | (simp; omega)) _) | with_reducible refine Below.drew ?_ | with_reducible refine bel_drewN ?_ _ | (with_reducible refine bel_by (by with_reducible assumption) (by first | exact Nat.le_refl _ | omega | (simp; done) | (simp; omega)) ?_))))).mono ?_
    rintro e w1 ⟨rfl, hb1⟩
    have hz1 := bsize hb1
    simp at hz1
    have HB := Lib.hid (show Below w.heap.size w w1 from (by repeat (first | with_reducible exact Below.refl _ _ | (with_reducible refine Below.setCell ?_ (by first | exact Nat.le_refl _ | omega | (simp; done) | (simp; omega)) _) | (with_reducible refine Below.alloc ?_ (by first | exact Nat.le_refl _ | omega | (simp; done) | (simp; omega)) _) | with_reducible refine Below.drew ?_ | with_reducible refine bel_drewN ?_ _ | (with_reducible refine bel_by (by with_reducible assumption) (by first | exact Nat.le_refl _ | omega | (simp; done) | (simp; omega)) ?_))))
    clear hb1
    go_wp2_with fail
    go_ret2
    exact ⟨rfl, HB.out⟩
  | true =>
    have hr := HSS.out
    rw [if_pos rfl] at hr
    subst hr
    have hsz := HVS.out rfl
    clear HSS
    by_cases e2 : k = 2
    · subst e2
      obtain ⟨⟨_, h1⟩, h2⟩ := HVT.out rfl rfl
      obtain ⟨m, rfl⟩ : ∃ m : Nat, n = (m : Int) := ⟨n.toNat, by omega⟩
      have hsp := HSP.out
      rw [if_pos rfl] at hsp
      have HM := Lib.hid (HDE.out m (by omega))
      have hsp2 : sp = decN m := hsp
      subst hsp2
      clear HSP hsp HVT HDE
      obtain ⟨D, hD⟩ : ∃ D, bs (decN m) = D := ⟨_, rfl⟩
      rw [hD] at HM
      have HD := Lib.hid hD
      clear hD
      go_enter Tryz.func53, Tryz.ntmps53
      go_wp2_with fail
      refine (HV.out _ (HT.out.below (by repeat (first | with_reducible exact Below.refl _ _ | (with_reducible refine Below.setCell ?_ (by first | exact Nat.le_refl _ | omega | (simp; done) | (simp; omega)) _) | (with_reducible refine Below.alloc ?_ (by first | exact Nat.le_refl _ | omega | (simp; done) | (simp; omega)) _) | with_reducible refine Below.drew ?_ | with_reducible refine bel_drewN ?_ _ | (with_reducible refine bel_by (by with_reducible assumption) (by first | exact Nat.le_refl _ | omega | (simp; done) | (simp; omega)) ?_))))).mono ?_
      rintro e w1 ⟨rfl, hb1⟩
      have hz1 := bsize hb1
      simp at hz1
      have HT1 := Lib.hid ((HT.out.below (show Below w.heap.size w (w.alloc (.cells #[.int .i64 2, .string s, .int .i64 (m : Int), .int .i64 a] 51)) from (by repeat (first | with_reducible exact Below.refl _ _ | (with_reducible refine Below.setCell ?_ (by first | exact Nat.le_refl _ | omega | (simp; done) | (simp; omega)) _) | (with_reducible refine Below.alloc ?_ (by first | exact Nat.le_refl _ | omega | (simp; done) | (simp; omega)) _) | with_reducible refine Below.drew ?_ | with_reducible refine bel_drewN ?_ _ | (with_reducible refine bel_by (by with_reducible assumption) (by first | exact Nat.le_refl _ | omega | (simp; done) | (simp; omega)) ?_))))).below hb1)
      have HB := Lib.hid (show Below w.heap.size w w1 from (by repeat (first | with_reducible exact Below.refl _ _ | (with_reducible refine Below.setCell ?_ (by first | exact Nat.le_refl _ | omega | (simp; done) | (simp; omega)) _) | (with_reducible refine Below.alloc ?_ (by first | exact Nat.le_refl _ | omega | (simp; done) | (simp; omega)) _) | with_reducible refine Below.drew ?_ | with_reducible refine bel_drewN ?_ _ | (with_reducible refine bel_by (by with_reducible assumption) (by first | exact Nat.le_refl _ | omega | (simp; done) | (simp; omega)) ?_))))
      obtain ⟨z0, z1, z2, z3, zf, zl⟩ := (tk_new w ⟨2, s, (m : Int), a⟩ 51).keep hb1
      clear hb1
      go_wp2_with fail
      refine (HM.out _ HT1.out).mono ?_
      rintro e w2 ⟨rfl, hb2⟩
      have hbw := HB.out
      have HB2 := Lib.hid (show Below w.heap.size w w2 from (by repeat (first | with_reducible exact Below.refl _ _ | (with_reducible refine Below.setCell ?_ (by first | exact Nat.le_refl _ | omega | (simp; done) | (simp; omega)) _) | (with_reducible refine Below.alloc ?_ (by first | exact Nat.le_refl _ | omega | (simp; done) | (simp; omega)) _) | with_reducible refine Below.drew ?_ | with_reducible refine bel_drewN ?_ _ | (with_reducible refine bel_by (by with_reducible assumption) (by first | exact Nat.le_refl _ | omega | (simp; done) | (simp; omega)) ?_))))
      clear hb2 hbw
      go_wp2_with fail
      go_ret2
      exact ⟨by rw [HD.out]; rfl, HB2.out⟩
    · have q2 : (k == 2) = false := by simpa using e2
      by_cases e3 : k = 3
      · subst e3
        have hsp := HSP.out
        rw [if_neg (by decide), if_pos rfl] at hsp
        subst hsp
        have HQ := Lib.hid (bs_quote s)
        clear HSP HVT HDE e2
        go_enter Tryz.func53, Tryz.ntmps53
        go_wp2_with fail
        refine (HV.out _ (HT.out.below (by repeat (first | with_reducible exact Below.refl _ _ | (with_reducible refine Below.setCell ?_ (by first | exact Nat.le_refl _ | omega | (simp; done) | (simp; omega)) _) | (with_reducible refine Below.alloc ?_ (by first | exact Nat.le_refl _ | omega | (simp; done) | (simp; omega)) _) | with_reducible refine Below.drew ?_ | with_reducible refine bel_drewN ?_ _ | (with_reducible refine bel_by (by with_reducible assumption) (by first | exact Nat.le_refl _ | omega | (simp; done) | (simp; omega)) ?_))))).mono ?_
        rintro e w1 ⟨rfl, hb1⟩
        have hz1 := bsize hb1
        simp at hz1
        have HB := Lib.hid (show Below w.heap.size w w1 from (by repeat (first | with_reducible exact Below.refl _ _ | (with_reducible refine Below.setCell ?_ (by first | exact Nat.le_refl _ | omega | (simp; done) | (simp; omega)) _) | (with_reducible refine Below.alloc ?_ (by first | exact Nat.le_refl _ | omega | (simp; done) | (simp; omega)) _) | with_reducible refine Below.drew ?_ | with_reducible refine bel_drewN ?_ _ | (with_reducible refine bel_by (by with_reducible assumption) (by first | exact Nat.le_refl _ | omega | (simp; done) | (simp; omega)) ?_))))
        obtain ⟨z0, z1, z2, z3, zf, zl⟩ := (tk_new w ⟨3, s, n, a⟩ 51).keep hb1
        clear hb1
        go_wp2_with fail
        go_ret2
        exact ⟨by rw [← HQ.out]; rfl, HB.out⟩
      · have q3 : (k == 3) = false := by simpa using e3
        have hsp := HSP.out
        rw [if_neg e2, if_neg e3] at hsp
        subst hsp
        have HQ := Lib.hid (bs_list s)
        clear HSP HVT HDE e2 e3
        go_enter Tryz.func53, Tryz.ntmps53
        go_wp2_with fail
        refine (HV.out _ (HT.out.below (by repeat (first | with_reducible exact Below.refl _ _ | (with_reducible refine Below.setCell ?_ (by first | exact Nat.le_refl _ | omega | (simp; done) | (simp; omega)) _) | (with_reducible refine Below.alloc ?_ (by first | exact Nat.le_refl _ | omega | (simp; done) | (simp; omega)) _) | with_reducible refine Below.drew ?_ | with_reducible refine bel_drewN ?_ _ | (with_reducible refine bel_by (by with_reducible assumption) (by first | exact Nat.le_refl _ | omega | (simp; done) | (simp; omega)) ?_))))).mono ?_
        rintro e w1 ⟨rfl, hb1⟩
        have hz1 := bsize hb1
        simp at hz1
        have HB := Lib.hid (show Below w.heap.size w w1 from (by repeat (first | with_reducible exact Below.refl _ _ | (with_reducible refine Below.setCell ?_ (by first | exact Nat.le_refl _ | omega | (simp; done) | (simp; omega)) _) | (with_reducible refine Below.alloc ?_ (by first | exact Nat.le_refl _ | omega | (simp; done) | (simp; omega)) _) | with_reducible refine Below.drew ?_ | with_reducible refine bel_drewN ?_ _ | (with_reducible refine bel_by (by with_reducible assumption) (by first | exact Nat.le_refl _ | omega | (simp; done) | (simp; omega)) ?_))))
        obtain ⟨z0, z1, z2, z3, zf, zl⟩ := (tk_new w ⟨k, s, n, a⟩ 51).keep hb1
        clear hb1
        go_wp2_with fail
        go_ret2
        exact ⟨by rw [HQ.out]; rfl, HB.out⟩
end Go.Proofs.YtohalocbghhenaaGreatDoor
