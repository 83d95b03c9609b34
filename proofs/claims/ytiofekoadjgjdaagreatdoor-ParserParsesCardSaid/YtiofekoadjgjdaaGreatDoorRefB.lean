/- Contract of layer 9's reference: number. -/
import Derived.Test.YtiofekoadjgjdaaGreatDoorRefA
set_option linter.unusedSimpArgs false
set_option linter.unusedVariables false
namespace Go.Proofs.YtiofekoadjgjdaaGreatDoor
open Go.RowKit

theorem numN_one (c : UInt8) : numN [c] = c.toNat - 48 := by simp [numN]
theorem dig_bd {c : UInt8} (h : digB c = true) : 48 ≤ c.toNat ∧ c.toNat ≤ 57 := by
  rw [dig_num] at h
  simpa using h
theorem numN_lt : ∀ l : List UInt8, (∀ c ∈ l, digB c = true) → numN l < 10 ^ l.length
  | [], _ => by simp [numN]
  | c :: t, h => by
    have ih := numN_lt t (fun d hd => h d (by simp [hd]))
    have hc := dig_bd (h c (by simp))
    have e : numN (c :: t) = numN [c] * 10 ^ t.length + numN t := numN_append [c] t
    rw [e, numN_one, List.length_cons, Nat.pow_succ]
    have : (c.toNat - 48) * 10 ^ t.length ≤ 9 * 10 ^ t.length := Nat.mul_le_mul_right _ (by omega)
    omega
theorem numN_ge {c : UInt8} {t : List UInt8} (h : digB c = true) (h0 : c ≠ 48) : 10 ^ t.length ≤ numN (c :: t) := by
  have hc := dig_bd h
  have hn : c.toNat ≠ 48 := fun e => h0 (UInt8.toNat.inj (by rw [e]; rfl))
  have e : numN (c :: t) = numN [c] * 10 ^ t.length + numN t := numN_append [c] t
  rw [e, numN_one]
  have : 1 * 10 ^ t.length ≤ (c.toNat - 48) * 10 ^ t.length := Nat.mul_le_mul_right _ (by omega)
  omega
theorem numN_take {l : List UInt8} {k : Nat} (h : k < l.length) : numN (l.take (k + 1)) = numN (l.take k) * 10 + ((l[k]'h).toNat - 48) := by
  rw [List.take_succ_eq_append_getElem h, numN_snoc]
theorem whoL_cut (s : ByteArray) : s.extract 0 (twN (· != 46) s) = bs (whoL s.data.toList) := twN_ext (· != 46) s
theorem fraL_cut (s : ByteArray) : s.extract (twN (· != 46) s + 1) s.size = bs (fraL s.data.toList) := by
  refine (bs_of ?_).symm
  rw [ext_list, List.take_of_length_le (by rw [List.length_drop, list_size]; exact Nat.le_refl _)]
  unfold fraL
  rw [← (tw_take (· != 46) s.data.toList).2, List.drop_drop]
  rfl
theorem pnt_lt (s : ByteArray) : pntB s.data.toList = decide (twN (· != 46) s < s.size) := by
  have hl := (tw_take (· != 46) s.data.toList).1
  have hle := twN_le (· != 46) s
  cases hc : pntB s.data.toList with
  | true =>
    symm
    rw [decide_eq_true_eq]
    have hm := List.contains_iff_mem.1 hc
    rcases Nat.lt_or_ge (twN (· != 46) s) s.size with h | h
    · exact h
    · have he : (s.data.toList.takeWhile (· != 46)).length = s.data.toList.length := by rw [list_size]; exact Nat.le_antisymm hle h
      rw [he, List.take_length] at hl
      rw [hl] at hm
      have := List.all_eq_true.1 (List.all_takeWhile (p := (· != 46)) (l := s.data.toList)) 46 hm
      simp at this
  | false =>
    symm
    rw [decide_eq_false_iff_not]
    have h := (no_byte hc).1
    have he : twN (· != 46) s = s.size := by unfold twN; rw [h, list_size]
    omega
set_option maxHeartbeats 4000000 in
set_option maxRecDepth 100000 in
theorem rnumber_any (s : ByteArray) (hs : s.size ≤ 100000) (w : World) : Calls Tryz.prog 63 #[.string s] w fun e w' => e = .returned (.tuple #[.int .i64 (numS s.data.toList).1, .int .i64 (numS s.data.toList).2]) ∧ w = w' := by
  have HY := Lib.hid (twN_yes (· != 46) s)
  have HN := Lib.hid (twN_no (· != 46) s)
  have hle := twN_le (· != 46) s
  have HW := Lib.hid (whoL_cut s)
  have HF := Lib.hid (fraL_cut s)
  have HP := Lib.hid (pnt_lt s)
  have HO := Lib.hid (show numOk s.data.toList = ((digsB (whoL s.data.toList) && !(decide (1 < (whoL s.data.toList).length) && (whoL s.data.toList).head? == some 48)) && (!pntB s.data.toList || (digsB (fraL s.data.toList) && decide ((fraL s.data.toList).length ≤ 3)))) from rfl)
  have HV := Lib.hid (show numV s.data.toList = numN (whoL s.data.toList ++ fraL s.data.toList ++ List.replicate (3 - (fraL s.data.toList).length) 48) from rfl)
  have HS := Lib.hid (show numS s.data.toList = if numOk s.data.toList then (if 1000000000 < numV s.data.toList then (0, 5) else ((numV s.data.toList : Int), 0)) else (0, 2) from rfl)
  have hnp : pntB s.data.toList = false → fraL s.data.toList = [] := fun h => by
    unfold fraL; rw [(no_byte h).2]; rfl
  obtain ⟨l1, l2⟩ := tl_le (· != 46) s.data.toList
  have l1 : (whoL s.data.toList).length ≤ s.data.toList.length := l1
  have l2 : (fraL s.data.toList).length ≤ s.data.toList.length := l2
  rw [list_size] at l1 l2
  generalize numS s.data.toList = R at *
  generalize numOk s.data.toList = ok at *
  generalize numV s.data.toList = v at *
  generalize whoL s.data.toList = Wl at *
  generalize fraL s.data.toList = Fl at *
  generalize pntB s.data.toList = pt at *
  obtain ⟨p, hp⟩ : ∃ p, twN (· != 46) s = p := ⟨_, rfl⟩
  rw [hp] at hle HY HW HF HP
  have HN2 := Lib.hid (show ∀ h : p < s.size, (s[p]'h != 46) = false by subst hp; exact HN.out)
  clear HN hp
  obtain ⟨W, hW⟩ : ∃ W, bs Wl = W := ⟨_, rfl⟩
  obtain ⟨F, hF⟩ : ∃ F, bs Fl = F := ⟨_, rfl⟩
  have eW : Wl = W.data.toList := by rw [← hW, bs_data]
  have eF : Fl = F.data.toList := by rw [← hF, bs_data]
  rw [hW] at HW
  rw [hF] at HF
  clear hW hF
  subst eW eF
  rw [list_size] at l1 l2
  have HDW := Lib.hid (fun X => rdigits_any W (by omega) X)
  have HDF := Lib.hid (fun X => rdigits_any F (by omega) X)
  go_enter Tryz.func63, Tryz.ntmps63
  go_wp2_with fail
  go_loop [4] (fun s4 => ∃ k : Nat, k ≤ p ∧ s4 = .int .i64 (k : Int)) (fun s4 => (s.size - (intOf s4)).toNat)
  case atStart => exact ⟨0, Nat.zero_le _, rfl⟩
  case round =>
    obtain ⟨k, hk, rfl⟩ := hrel
    by_cases hkp : k < p
    · have hlt : k < s.size := by omega
      have hl : (k : Int) < (s.size : Int) := by omega
      have e46 : (s[k]'hlt == 46) = (((s[k]'hlt).toNat : Int) == 46) := u8_eq (s[k]'hlt) 46 (by decide)
      have hy := HY.out k hlt hkp
      have hc : (s[k]'hlt == 46) = false := by
        unfold bne at hy; simpa using hy
      rw [hc] at e46
      replace e46 := e46.symm
      have e46b : (((s[k]'hlt).toNat : Int) != 46) = true := by unfold bne; rw [e46]; rfl
      clear hy hc
      go_wp2_with fail
      go_round
      case rel => exact ⟨k + 1, by omega, by go_num⟩
      case measure => simp [intOf]; omega
    · obtain rfl : k = p := by omega
      have HR2 := Lib.hid (show ok = false → R = (0, 2) from fun h => by rw [HS.out, h]; rfl)
      have hWx := HW.out
      have hFx := HF.out
      by_cases hlt : k < s.size
      · have hl : (k : Int) < (s.size : Int) := by omega
        have hpt : pt = true := by rw [HP.out]; exact decide_eq_true hlt
        have e46 : (s[k]'hlt == 46) = (((s[k]'hlt).toNat : Int) == 46) := u8_eq (s[k]'hlt) 46 (by decide)
        have hc : (s[k]'hlt == 46) = true := by
          have := HN2.out hlt
          unfold bne at this; simpa using this
        rw [hc] at e46
        replace e46 := e46.symm
        have e46b : (((s[k]'hlt).toNat : Int) != 46) = false := by unfold bne; rw [e46]; rfl
        clear hc HY HN2
        cases hdf : digsB F.data.toList with
        | false =>
          rw [hdf] at HDF
          have hok : ok = false := by rw [HO.out, hpt, hdf]; simp
          have hr := HR2.out hok
          subst hr
          clear HO HS HV HP
          go_wp2_with fail
          refine (HDF.out _).mono ?_
          rintro e w1 ⟨rfl, rfl⟩
          go_wp2_with fail
          go_ret2
          exact ⟨rfl, rfl⟩
        | true =>
          rw [hdf] at HDF
          by_cases hf3 : 3 < F.size
          · have k3 : decide ((F.size : Int) > 3) = true := decide_eq_true (by omega)
            have hok : ok = false := by
              have : decide (F.data.toList.length ≤ 3) = false := decide_eq_false (by rw [list_size]; omega)
              rw [HO.out, hpt, hdf, this]; simp
            have hr := HR2.out hok
            subst hr
            clear HO HS HV HP
            go_wp2_with fail
            refine (HDF.out _).mono ?_
            rintro e w1 ⟨rfl, rfl⟩
            go_wp2_with fail
            go_ret2
            exact ⟨rfl, rfl⟩
          · have k3 : decide ((F.size : Int) > 3) = false := decide_eq_false (by omega)
            have HF3 := Lib.hid (show F.size ≤ 3 by omega)
            have HFD := Lib.hid (digs_out hdf).2
            have HFOK := Lib.hid (show (!pt || (digsB F.data.toList && decide (F.data.toList.length ≤ 3))) = true by
              rw [hdf, list_size]
              have : decide (F.size ≤ 3) = true := decide_eq_true (by omega)
              rw [this]; simp)
            clear HP
            cases hdw : digsB W.data.toList with
            | false =>
              rw [hdw] at HDW
              have hok : ok = false := by rw [HO.out, hdw]; rfl
              have hr := HR2.out hok
              subst hr
              clear HO HS
              go_wp2_with fail
              refine (HDF.out _).mono ?_
              rintro e w1 ⟨rfl, rfl⟩
              go_wp2_with fail
              refine (HDW.out _).mono ?_
              rintro e w1 ⟨rfl, rfl⟩
              go_wp2_with fail
              go_ret2
              exact ⟨rfl, rfl⟩
            | true =>
              rw [hdw] at HDW
              obtain ⟨hwn, hwd⟩ := digs_out hdw
              have h0 : 0 < W.size := by
                rw [← list_size]
                cases hh : W.data.toList with
                | nil => exact absurd hh hwn
                | cons c t => simp
              have HWD := Lib.hid hwd
              have hhd := head_byte h0
              have h48 : (W[0]'h0 == 48) = (((W[0]'h0).toNat : Int) == 48) := u8_eq (W[0]'h0) 48 (by decide)
              have hq : ((W.data.toList).head? == some 48) = ((W[0]'h0) == 48) := by rw [hhd]; rfl
              obtain ⟨z, hz⟩ : ∃ z, ((((W[0]'h0).toNat : Int)) == 48) = z := ⟨_, rfl⟩
              have HZZ := Lib.hid (h48.trans hz)
              have HOK := Lib.hid (show ok = !(decide (1 < W.size) && z) by rw [HO.out, hdw, hq, h48.trans hz, list_size, HFOK.out]; cases z <;> simp)
              clear HO hq hhd h48 hwn
              by_cases hl1 : 1 < W.size ∧ z = true
              · obtain ⟨hl1, rfl⟩ := hl1
                have hok : ok = false := by rw [HOK.out]; simp [hl1]
                have hr := HR2.out hok
                subst hr
                have k1 : decide ((W.size : Int) > 1) = true := decide_eq_true (by omega)
                clear HS HOK
                go_wp2_with fail
                refine (HDF.out _).mono ?_
                rintro e w1 ⟨rfl, rfl⟩
                go_wp2_with fail
                refine (HDW.out _).mono ?_
                rintro e w1 ⟨rfl, rfl⟩
                go_wp2_with fail
                go_ret2
                exact ⟨rfl, rfl⟩
              · have hok : ok = true := by
                  rw [HOK.out]
                  cases z with
                  | false => simp
                  | true => simp; have : ¬ 1 < W.size := fun h => hl1 ⟨h, rfl⟩; omega
                subst hok
                have hk : decide ((W.size : Int) > 1) = false ∨ (decide ((W.size : Int) > 1) = true ∧ z = false) := by
                  by_cases h : 1 < W.size
                  · right
                    refine ⟨decide_eq_true (by omega), ?_⟩
                    cases z with
                    | false => rfl
                    | true => exact absurd ⟨h, rfl⟩ hl1
                  · left; exact decide_eq_false (by omega)
                have HR5 := Lib.hid (show 1000000000 < v → R = (0, 5) from fun h => by rw [HS.out, if_pos rfl, if_pos h])
                have HR0 := Lib.hid (show v ≤ 1000000000 → R = ((v : Int), 0) from fun h => by rw [HS.out, if_pos rfl, if_neg (by omega)])
                have HFALL := Lib.hid (HFD.out)
                obtain ⟨Z, hZ⟩ : ∃ Z, F.data.toList ++ List.replicate (3 - F.size) 48 = Z := ⟨_, rfl⟩
                have hZl : Z.length = 3 := by
                  rw [← hZ, List.length_append, List.length_replicate, list_size]
                  have := HF3.out
                  omega
                have hZd : ∀ c ∈ Z, digB c = true := by
                  intro c hc
                  rw [← hZ] at hc
                  rcases List.mem_append.1 hc with hc | hc
                  · exact HFALL.out c hc
                  · rw [List.eq_of_mem_replicate hc]; decide
                have HZV := Lib.hid (show numN (W.data.toList ++ Z.take 3) = v by
                  rw [List.take_of_length_le (by omega), HV.out, list_size, ← hZ, List.append_assoc])
                have HZS := Lib.hid (show ∀ j (h : j < 3), numN (W.data.toList ++ Z.take (j + 1)) = numN (W.data.toList ++ Z.take j) * 10 + ((Z[j]'(by omega)).toNat - 48) from fun j h => by
                  rw [List.take_succ_eq_append_getElem (by omega : j < Z.length), ← List.append_assoc, numN_snoc])
                have HZF := Lib.hid (show ∀ j (h : j < F.size), (∀ h3 : j < Z.length, (Z[j]'h3).toNat = (F[j]'h).toNat) ∧ (48 ≤ (F[j]'h).toNat ∧ (F[j]'h).toNat ≤ 57) from fun j h => by
                  refine ⟨fun h3 => ?_, dig_bd (HFALL.out _ (by rw [Array.mem_toList_iff]; exact Array.getElem_mem h))⟩
                  have hjF : j < F.data.toList.length := by rw [list_size]; exact h
                  have : Z[j]'h3 = F.data.toList[j]'hjF := by
                    subst hZ
                    rw [List.getElem_append_left hjF]
                  rw [this]
                  rfl)
                have HZG := Lib.hid (show ∀ j (h : j < 3), F.size ≤ j → (Z[j]'(by omega)).toNat = 48 from fun j h h2 => by
                  subst hZ
                  rw [List.getElem_append_right (by rw [list_size]; exact h2), List.getElem_replicate]
                  rfl)
                by_cases hl10 : 10 < W.size
                · have hz0 : z = false := by
                    rcases hk with h | h
                    · have := of_decide_eq_false h; omega
                    · exact h.2
                  subst hz0
                  have hbig : 1000000000 < v := by
                    have hc0 : (W[0]'h0) ≠ 48 := by
                      have := HZZ.out
                      intro h
                      rw [h] at this
                      exact absurd this (by decide)
                    have hd0 : digB (W[0]'h0) = true := HWD.out _ (by rw [Array.mem_toList_iff]; exact Array.getElem_mem h0)
                    have hcs := drop_cons W 0 h0
                    rw [List.drop_zero] at hcs
                    have hg := numN_ge (t := W.data.toList.drop (0 + 1)) hd0 hc0
                    rw [← hcs, List.length_drop, list_size] at hg
                    have h10 : 10 ^ 10 ≤ 10 ^ (W.size - (0 + 1)) := Nat.pow_le_pow_right (by omega) (by omega)
                    have hv : v = numN W.data.toList * 10 ^ (F.data.toList ++ List.replicate (3 - F.data.toList.length) 48).length + numN (F.data.toList ++ List.replicate (3 - F.data.toList.length) 48) := by
                      rw [HV.out, List.append_assoc, numN_append]
                    have hp1 : 1 ≤ 10 ^ (F.data.toList ++ List.replicate (3 - F.data.toList.length) 48).length := (Nat.pow_le_pow_right (by omega) (Nat.zero_le _) : 10 ^ 0 ≤ _)
                    have hm : numN W.data.toList * 1 ≤ numN W.data.toList * 10 ^ (F.data.toList ++ List.replicate (3 - F.data.toList.length) 48).length := Nat.mul_le_mul_left _ hp1
                    omega
                  have hr := HR5.out hbig
                  subst hr
                  have k1 : decide ((W.size : Int) > 1) = true := decide_eq_true (by omega)
                  have k10 : decide ((W.size : Int) > 10) = true := decide_eq_true (by omega)
                  clear hk HZS HZF HZG HZV hZd hZ HS HV HR0 HR5 HOK
                  go_wp2_with fail
                  refine (HDF.out _).mono ?_
                  rintro e w1 ⟨rfl, rfl⟩
                  go_wp2_with fail
                  refine (HDW.out _).mono ?_
                  rintro e w1 ⟨rfl, rfl⟩
                  go_wp2_with fail
                  go_ret2
                  exact ⟨rfl, rfl⟩
                · have k10 : decide ((W.size : Int) > 10) = false := decide_eq_false (by omega)
                  have HNB := Lib.hid (show ∀ j, j ≤ W.size → numN (W.data.toList.take j) ≤ 10000000000 from fun j hj => by
                    have h1 := numN_lt (W.data.toList.take j) (fun c hc => HWD.out c (List.mem_of_mem_take hc))
                    have h2 : (W.data.toList.take j).length ≤ 10 := by rw [List.length_take, list_size]; omega
                    have h3 : 10 ^ (W.data.toList.take j).length ≤ 10 ^ 10 := Nat.pow_le_pow_right (by omega) h2
                    omega)
                  have HZB := Lib.hid (show ∀ j, j ≤ 3 → numN (W.data.toList ++ Z.take j) ≤ 10000000000000 from fun j hj => by
                    have h1 := numN_lt (W.data.toList ++ Z.take j) (fun c hc => by
                      rcases List.mem_append.1 hc with hc | hc
                      · exact HWD.out c hc
                      · exact hZd c (List.mem_of_mem_take hc))
                    have h2 : (W.data.toList ++ Z.take j).length ≤ 13 := by rw [List.length_append, List.length_take, list_size]; omega
                    have h3 : 10 ^ (W.data.toList ++ Z.take j).length ≤ 10 ^ 13 := Nat.pow_le_pow_right (by omega) h2
                    omega)
                  clear hZd hZ HS HV HOK
                  rcases hk with k1 | ⟨k1, rfl⟩
                  · go_wp2_with fail
                    refine (HDF.out _).mono ?_
                    rintro e w1 ⟨rfl, rfl⟩
                    go_wp2_with fail
                    refine (HDW.out _).mono ?_
                    rintro e w1 ⟨rfl, rfl⟩
                    go_wp2_with fail
                    go_loop [7, 8] (fun s7 s8 => ∃ k : Nat, k ≤ W.size ∧ s8 = .int .i64 (k : Int) ∧ s7 = .int .i64 ((numN (W.data.toList.take k) : Nat) : Int)) (fun _ s8 => (W.size - (intOf s8)).toNat)
                    case atStart => exact ⟨0, Nat.zero_le _, rfl, rfl⟩
                    case round =>
                      obtain ⟨j, hj, rfl, rfl⟩ := hrel
                      have hyb := HNB.out j hj
                      by_cases hjl : j < W.size
                      · have hl2 : (j : Int) < (W.size : Int) := by omega
                        have hjL : j < W.data.toList.length := by rw [list_size]; exact hjl
                        have hst := numN_take hjL
                        have hge : W.data.toList[j]'hjL = W[j]'hjl := rfl
                        rw [hge] at hst
                        have HST := Lib.hid hst
                        have hdg := dig_bd (HWD.out _ (show W[j]'hjl ∈ W.data.toList by rw [Array.mem_toList_iff]; exact Array.getElem_mem hjl))
                        clear hst hge
                        generalize numN (W.data.toList.take j) = y at *
                        obtain ⟨cn, hcn⟩ : ∃ cn, (W[j]'hjl).toNat = cn := ⟨_, rfl⟩
                        rw [hcn] at hdg HST
                        have hc1 : (48 : Int) ≤ (cn : Int) := by omega
                        have hc2 : (cn : Int) ≤ 57 := by omega
                        go_wp2_with fail
                        go_round
                        case rel => exact ⟨j + 1, by omega, by go_num, by rw [HST.out]; congr 1; omega⟩
                        case measure => simp [intOf]; omega
                      · obtain rfl : j = W.size := by omega
                        have hl2 : ¬ (W.size : Int) < (W.size : Int) := by omega
                        have htk : W.data.toList.take W.size = W.data.toList := by rw [← list_size, List.take_length]
                        rw [htk] at hyb ⊢
                        clear htk
                        go_wp2_with fail
                        go_loop [7, 9] (fun s7 s9 => ∃ k : Nat, k ≤ 3 ∧ s9 = .int .i64 (k : Int) ∧ s7 = .int .i64 ((numN (W.data.toList ++ Z.take k) : Nat) : Int)) (fun _ s9 => (3 - (intOf s9)).toNat)
                        case atStart => exact ⟨0, by omega, rfl, by simp⟩
                        case round =>
                          obtain ⟨j, hj, rfl, rfl⟩ := hrel
                          have hyb2 := HZB.out j hj
                          by_cases hjl : j < 3
                          · have hl3 : (j : Int) < 3 := by omega
                            have HST := Lib.hid (HZS.out j hjl)
                            generalize numN (W.data.toList ++ Z.take j) = y at *
                            by_cases hjf : j < F.size
                            · have hl4 : (j : Int) < (F.size : Int) := by omega
                              obtain ⟨hz1, hz2⟩ := HZF.out j hjf
                              have HZ1 := Lib.hid hz1
                              clear hz1
                              obtain ⟨cn, hcn⟩ : ∃ cn, (F[j]'hjf).toNat = cn := ⟨_, rfl⟩
                              rw [hcn] at hz2 HZ1
                              have hc1 : (48 : Int) ≤ (cn : Int) := by omega
                              have hc2 : (cn : Int) ≤ 57 := by omega
                              go_wp2_with fail
                              go_round
                              case rel => exact ⟨j + 1, by omega, by go_num, by rw [HST.out, HZ1.out]; congr 1; omega⟩
                              case measure => simp [intOf]; omega
                            · have hl4 : ¬ (j : Int) < (F.size : Int) := by omega
                              have HZ0 := Lib.hid (HZG.out j hjl (by omega))
                              go_wp2_with fail
                              go_round
                              case rel => exact ⟨j + 1, by omega, by go_num, by (rw [HST.out, HZ0.out]) <;> first | (congr 1; done) | (congr 1; omega)⟩
                              case measure => simp [intOf]; omega
                          · obtain rfl : j = 3 := by omega
                            have hl3 : ¬ (3 : Int) < 3 := by omega
                            have HVE := Lib.hid HZV.out
                            rw [HVE.out] at hyb2 ⊢
                            by_cases hv : 1000000000 < v
                            · have hv2 : (1000000000 : Int) < (v : Int) := by omega
                              have hr := HR5.out hv
                              subst hr
                              have d1 : decide ((v : Int) > 1000000000) = true := decide_eq_true (by omega)
                              go_wp2_with fail
                              go_ret2
                              exact ⟨rfl, rfl⟩
                            · have hr := HR0.out (by omega)
                              subst hr
                              have d1 : decide ((v : Int) > 1000000000) = false := decide_eq_false (by omega)
                              have hv2 : ¬ (1000000000 : Int) < (v : Int) := by omega
                              go_wp2_with fail
                              go_ret2
                              exact ⟨rfl, rfl⟩
                  · go_wp2_with fail
                    refine (HDF.out _).mono ?_
                    rintro e w1 ⟨rfl, rfl⟩
                    go_wp2_with fail
                    refine (HDW.out _).mono ?_
                    rintro e w1 ⟨rfl, rfl⟩
                    go_wp2_with fail
                    go_loop [7, 8] (fun s7 s8 => ∃ k : Nat, k ≤ W.size ∧ s8 = .int .i64 (k : Int) ∧ s7 = .int .i64 ((numN (W.data.toList.take k) : Nat) : Int)) (fun _ s8 => (W.size - (intOf s8)).toNat)
                    case atStart => exact ⟨0, Nat.zero_le _, rfl, rfl⟩
                    case round =>
                      obtain ⟨j, hj, rfl, rfl⟩ := hrel
                      have hyb := HNB.out j hj
                      by_cases hjl : j < W.size
                      · have hl2 : (j : Int) < (W.size : Int) := by omega
                        have hjL : j < W.data.toList.length := by rw [list_size]; exact hjl
                        have hst := numN_take hjL
                        have hge : W.data.toList[j]'hjL = W[j]'hjl := rfl
                        rw [hge] at hst
                        have HST := Lib.hid hst
                        have hdg := dig_bd (HWD.out _ (show W[j]'hjl ∈ W.data.toList by rw [Array.mem_toList_iff]; exact Array.getElem_mem hjl))
                        clear hst hge
                        generalize numN (W.data.toList.take j) = y at *
                        obtain ⟨cn, hcn⟩ : ∃ cn, (W[j]'hjl).toNat = cn := ⟨_, rfl⟩
                        rw [hcn] at hdg HST
                        have hc1 : (48 : Int) ≤ (cn : Int) := by omega
                        have hc2 : (cn : Int) ≤ 57 := by omega
                        go_wp2_with fail
                        go_round
                        case rel => exact ⟨j + 1, by omega, by go_num, by rw [HST.out]; congr 1; omega⟩
                        case measure => simp [intOf]; omega
                      · obtain rfl : j = W.size := by omega
                        have hl2 : ¬ (W.size : Int) < (W.size : Int) := by omega
                        have htk : W.data.toList.take W.size = W.data.toList := by rw [← list_size, List.take_length]
                        rw [htk] at hyb ⊢
                        clear htk
                        go_wp2_with fail
                        go_loop [7, 9] (fun s7 s9 => ∃ k : Nat, k ≤ 3 ∧ s9 = .int .i64 (k : Int) ∧ s7 = .int .i64 ((numN (W.data.toList ++ Z.take k) : Nat) : Int)) (fun _ s9 => (3 - (intOf s9)).toNat)
                        case atStart => exact ⟨0, by omega, rfl, by simp⟩
                        case round =>
                          obtain ⟨j, hj, rfl, rfl⟩ := hrel
                          have hyb2 := HZB.out j hj
                          by_cases hjl : j < 3
                          · have hl3 : (j : Int) < 3 := by omega
                            have HST := Lib.hid (HZS.out j hjl)
                            generalize numN (W.data.toList ++ Z.take j) = y at *
                            by_cases hjf : j < F.size
                            · have hl4 : (j : Int) < (F.size : Int) := by omega
                              obtain ⟨hz1, hz2⟩ := HZF.out j hjf
                              have HZ1 := Lib.hid hz1
                              clear hz1
                              obtain ⟨cn, hcn⟩ : ∃ cn, (F[j]'hjf).toNat = cn := ⟨_, rfl⟩
                              rw [hcn] at hz2 HZ1
                              have hc1 : (48 : Int) ≤ (cn : Int) := by omega
                              have hc2 : (cn : Int) ≤ 57 := by omega
                              go_wp2_with fail
                              go_round
                              case rel => exact ⟨j + 1, by omega, by go_num, by rw [HST.out, HZ1.out]; congr 1; omega⟩
                              case measure => simp [intOf]; omega
                            · have hl4 : ¬ (j : Int) < (F.size : Int) := by omega
                              have HZ0 := Lib.hid (HZG.out j hjl (by omega))
                              go_wp2_with fail
                              go_round
                              case rel => exact ⟨j + 1, by omega, by go_num, by (rw [HST.out, HZ0.out]) <;> first | (congr 1; done) | (congr 1; omega)⟩
                              case measure => simp [intOf]; omega
                          · obtain rfl : j = 3 := by omega
                            have hl3 : ¬ (3 : Int) < 3 := by omega
                            have HVE := Lib.hid HZV.out
                            rw [HVE.out] at hyb2 ⊢
                            by_cases hv : 1000000000 < v
                            · have hv2 : (1000000000 : Int) < (v : Int) := by omega
                              have hr := HR5.out hv
                              subst hr
                              have d1 : decide ((v : Int) > 1000000000) = true := decide_eq_true (by omega)
                              go_wp2_with fail
                              go_ret2
                              exact ⟨rfl, rfl⟩
                            · have hr := HR0.out (by omega)
                              subst hr
                              have d1 : decide ((v : Int) > 1000000000) = false := decide_eq_false (by omega)
                              have hv2 : ¬ (1000000000 : Int) < (v : Int) := by omega
                              go_wp2_with fail
                              go_ret2
                              exact ⟨rfl, rfl⟩
      · have hl : ¬ (k : Int) < (s.size : Int) := by omega
        have hpt : pt = false := by rw [HP.out]; exact decide_eq_false hlt
        subst hpt
        have hf0 := hnp rfl
        have hFe : F = ⟨#[]⟩ := bs_inj hf0
        subst hFe
        have HF3 := Lib.hid (show (⟨#[]⟩ : ByteArray).size ≤ 3 by decide)
        have HFD := Lib.hid (show ∀ c ∈ (⟨#[]⟩ : ByteArray).data.toList, digB c = true by simp)
        have HFOK := Lib.hid (show (!false || (digsB (⟨#[]⟩ : ByteArray).data.toList && decide ((⟨#[]⟩ : ByteArray).data.toList.length ≤ 3))) = true by decide)
        obtain ⟨F, hFF⟩ : ∃ F : ByteArray, F = ⟨#[]⟩ := ⟨_, rfl⟩
        rw [← hFF] at HF3 HFD HFOK HO HV
        have hF0 : F.size = 0 := by rw [hFF]; rfl
        have HFF := Lib.hid hFF
        have HF0 := Lib.hid hF0
        clear HP hf0 hFx HDF HF HY HN2 hnp hFF hF0
        cases hdw : digsB W.data.toList with
        | false =>
          rw [hdw] at HDW
          have hok : ok = false := by rw [HO.out, hdw]; rfl
          have hr := HR2.out hok
          subst hr
          clear HO HS
          go_wp2_with fail

          refine (HDW.out _).mono ?_
          rintro e w1 ⟨rfl, rfl⟩
          go_wp2_with fail
          go_ret2
          exact ⟨rfl, rfl⟩
        | true =>
          rw [hdw] at HDW
          obtain ⟨hwn, hwd⟩ := digs_out hdw
          have h0 : 0 < W.size := by
            rw [← list_size]
            cases hh : W.data.toList with
            | nil => exact absurd hh hwn
            | cons c t => simp
          have HWD := Lib.hid hwd
          have hhd := head_byte h0
          have h48 : (W[0]'h0 == 48) = (((W[0]'h0).toNat : Int) == 48) := u8_eq (W[0]'h0) 48 (by decide)
          have hq : ((W.data.toList).head? == some 48) = ((W[0]'h0) == 48) := by rw [hhd]; rfl
          obtain ⟨z, hz⟩ : ∃ z, ((((W[0]'h0).toNat : Int)) == 48) = z := ⟨_, rfl⟩
          have HZZ := Lib.hid (h48.trans hz)
          have HOK := Lib.hid (show ok = !(decide (1 < W.size) && z) by rw [HO.out, hdw, hq, h48.trans hz, list_size, HFOK.out]; cases z <;> simp)
          clear HO hq hhd h48 hwn
          by_cases hl1 : 1 < W.size ∧ z = true
          · obtain ⟨hl1, rfl⟩ := hl1
            have hok : ok = false := by rw [HOK.out]; simp [hl1]
            have hr := HR2.out hok
            subst hr
            have k1 : decide ((W.size : Int) > 1) = true := decide_eq_true (by omega)
            clear HS HOK
            go_wp2_with fail

            refine (HDW.out _).mono ?_
            rintro e w1 ⟨rfl, rfl⟩
            go_wp2_with fail
            go_ret2
            exact ⟨rfl, rfl⟩
          · have hok : ok = true := by
              rw [HOK.out]
              cases z with
              | false => simp
              | true => simp; have : ¬ 1 < W.size := fun h => hl1 ⟨h, rfl⟩; omega
            subst hok
            have hk : decide ((W.size : Int) > 1) = false ∨ (decide ((W.size : Int) > 1) = true ∧ z = false) := by
              by_cases h : 1 < W.size
              · right
                refine ⟨decide_eq_true (by omega), ?_⟩
                cases z with
                | false => rfl
                | true => exact absurd ⟨h, rfl⟩ hl1
              · left; exact decide_eq_false (by omega)
            have HR5 := Lib.hid (show 1000000000 < v → R = (0, 5) from fun h => by rw [HS.out, if_pos rfl, if_pos h])
            have HR0 := Lib.hid (show v ≤ 1000000000 → R = ((v : Int), 0) from fun h => by rw [HS.out, if_pos rfl, if_neg (by omega)])
            have HFALL := Lib.hid (HFD.out)
            obtain ⟨Z, hZ⟩ : ∃ Z, F.data.toList ++ List.replicate (3 - F.size) 48 = Z := ⟨_, rfl⟩
            have hZl : Z.length = 3 := by
              rw [← hZ, List.length_append, List.length_replicate, list_size]
              have := HF3.out
              omega
            have hZd : ∀ c ∈ Z, digB c = true := by
              intro c hc
              rw [← hZ] at hc
              rcases List.mem_append.1 hc with hc | hc
              · exact HFALL.out c hc
              · rw [List.eq_of_mem_replicate hc]; decide
            have HZV := Lib.hid (show numN (W.data.toList ++ Z.take 3) = v by
              rw [List.take_of_length_le (by omega), HV.out, list_size, ← hZ, List.append_assoc])
            have HZS := Lib.hid (show ∀ j (h : j < 3), numN (W.data.toList ++ Z.take (j + 1)) = numN (W.data.toList ++ Z.take j) * 10 + ((Z[j]'(by omega)).toNat - 48) from fun j h => by
              rw [List.take_succ_eq_append_getElem (by omega : j < Z.length), ← List.append_assoc, numN_snoc])
            have HZF := Lib.hid (show ∀ j (h : j < F.size), (∀ h3 : j < Z.length, (Z[j]'h3).toNat = (F[j]'h).toNat) ∧ (48 ≤ (F[j]'h).toNat ∧ (F[j]'h).toNat ≤ 57) from fun j h => by
              refine ⟨fun h3 => ?_, dig_bd (HFALL.out _ (by rw [Array.mem_toList_iff]; exact Array.getElem_mem h))⟩
              have hjF : j < F.data.toList.length := by rw [list_size]; exact h
              have : Z[j]'h3 = F.data.toList[j]'hjF := by
                subst hZ
                rw [List.getElem_append_left hjF]
              rw [this]
              rfl)
            have HZG := Lib.hid (show ∀ j (h : j < 3), F.size ≤ j → (Z[j]'(by omega)).toNat = 48 from fun j h h2 => by
              subst hZ
              rw [List.getElem_append_right (by rw [list_size]; exact h2), List.getElem_replicate]
              rfl)
            by_cases hl10 : 10 < W.size
            · have hz0 : z = false := by
                rcases hk with h | h
                · have := of_decide_eq_false h; omega
                · exact h.2
              subst hz0
              have hbig : 1000000000 < v := by
                have hc0 : (W[0]'h0) ≠ 48 := by
                  have := HZZ.out
                  intro h
                  rw [h] at this
                  exact absurd this (by decide)
                have hd0 : digB (W[0]'h0) = true := HWD.out _ (by rw [Array.mem_toList_iff]; exact Array.getElem_mem h0)
                have hcs := drop_cons W 0 h0
                rw [List.drop_zero] at hcs
                have hg := numN_ge (t := W.data.toList.drop (0 + 1)) hd0 hc0
                rw [← hcs, List.length_drop, list_size] at hg
                have h10 : 10 ^ 10 ≤ 10 ^ (W.size - (0 + 1)) := Nat.pow_le_pow_right (by omega) (by omega)
                have hv : v = numN W.data.toList * 10 ^ (F.data.toList ++ List.replicate (3 - F.data.toList.length) 48).length + numN (F.data.toList ++ List.replicate (3 - F.data.toList.length) 48) := by
                  rw [HV.out, List.append_assoc, numN_append]
                have hp1 : 1 ≤ 10 ^ (F.data.toList ++ List.replicate (3 - F.data.toList.length) 48).length := (Nat.pow_le_pow_right (by omega) (Nat.zero_le _) : 10 ^ 0 ≤ _)
                have hm : numN W.data.toList * 1 ≤ numN W.data.toList * 10 ^ (F.data.toList ++ List.replicate (3 - F.data.toList.length) 48).length := Nat.mul_le_mul_left _ hp1
                omega
              have hr := HR5.out hbig
              subst hr
              have k1 : decide ((W.size : Int) > 1) = true := decide_eq_true (by omega)
              have k10 : decide ((W.size : Int) > 10) = true := decide_eq_true (by omega)
              clear hk HZS HZF HZG HZV hZd hZ HS HV HR0 HR5 HOK
              go_wp2_with fail

              refine (HDW.out _).mono ?_
              rintro e w1 ⟨rfl, rfl⟩
              go_wp2_with fail
              go_ret2
              exact ⟨rfl, rfl⟩
            · have k10 : decide ((W.size : Int) > 10) = false := decide_eq_false (by omega)
              have HNB := Lib.hid (show ∀ j, j ≤ W.size → numN (W.data.toList.take j) ≤ 10000000000 from fun j hj => by
                have h1 := numN_lt (W.data.toList.take j) (fun c hc => HWD.out c (List.mem_of_mem_take hc))
                have h2 : (W.data.toList.take j).length ≤ 10 := by rw [List.length_take, list_size]; omega
                have h3 : 10 ^ (W.data.toList.take j).length ≤ 10 ^ 10 := Nat.pow_le_pow_right (by omega) h2
                omega)
              have HZB := Lib.hid (show ∀ j, j ≤ 3 → numN (W.data.toList ++ Z.take j) ≤ 10000000000000 from fun j hj => by
                have h1 := numN_lt (W.data.toList ++ Z.take j) (fun c hc => by
                  rcases List.mem_append.1 hc with hc | hc
                  · exact HWD.out c hc
                  · exact hZd c (List.mem_of_mem_take hc))
                have h2 : (W.data.toList ++ Z.take j).length ≤ 13 := by rw [List.length_append, List.length_take, list_size]; omega
                have h3 : 10 ^ (W.data.toList ++ Z.take j).length ≤ 10 ^ 13 := Nat.pow_le_pow_right (by omega) h2
                omega)
              clear hZd hZ HS HV HOK
              rcases hk with k1 | ⟨k1, rfl⟩
              · go_wp2_with fail

                refine (HDW.out _).mono ?_
                rintro e w1 ⟨rfl, rfl⟩
                go_wp2_with fail
                go_loop [7, 8] (fun s7 s8 => ∃ k : Nat, k ≤ W.size ∧ s8 = .int .i64 (k : Int) ∧ s7 = .int .i64 ((numN (W.data.toList.take k) : Nat) : Int)) (fun _ s8 => (W.size - (intOf s8)).toNat)
                case atStart => exact ⟨0, Nat.zero_le _, rfl, rfl⟩
                case round =>
                  obtain ⟨j, hj, rfl, rfl⟩ := hrel
                  have hyb := HNB.out j hj
                  by_cases hjl : j < W.size
                  · have hl2 : (j : Int) < (W.size : Int) := by omega
                    have hjL : j < W.data.toList.length := by rw [list_size]; exact hjl
                    have hst := numN_take hjL
                    have hge : W.data.toList[j]'hjL = W[j]'hjl := rfl
                    rw [hge] at hst
                    have HST := Lib.hid hst
                    have hdg := dig_bd (HWD.out _ (show W[j]'hjl ∈ W.data.toList by rw [Array.mem_toList_iff]; exact Array.getElem_mem hjl))
                    clear hst hge
                    generalize numN (W.data.toList.take j) = y at *
                    obtain ⟨cn, hcn⟩ : ∃ cn, (W[j]'hjl).toNat = cn := ⟨_, rfl⟩
                    rw [hcn] at hdg HST
                    have hc1 : (48 : Int) ≤ (cn : Int) := by omega
                    have hc2 : (cn : Int) ≤ 57 := by omega
                    go_wp2_with fail
                    go_round
                    case rel => exact ⟨j + 1, by omega, by go_num, by rw [HST.out]; congr 1; omega⟩
                    case measure => simp [intOf]; omega
                  · obtain rfl : j = W.size := by omega
                    have hl2 : ¬ (W.size : Int) < (W.size : Int) := by omega
                    have htk : W.data.toList.take W.size = W.data.toList := by rw [← list_size, List.take_length]
                    rw [htk] at hyb ⊢
                    clear htk
                    go_wp2_with fail
                    go_loop [7, 9] (fun s7 s9 => ∃ k : Nat, k ≤ 3 ∧ s9 = .int .i64 (k : Int) ∧ s7 = .int .i64 ((numN (W.data.toList ++ Z.take k) : Nat) : Int)) (fun _ s9 => (3 - (intOf s9)).toNat)
                    case atStart => exact ⟨0, by omega, rfl, by simp⟩
                    case round =>
                      obtain ⟨j, hj, rfl, rfl⟩ := hrel
                      have hyb2 := HZB.out j hj
                      by_cases hjl : j < 3
                      · have hl3 : (j : Int) < 3 := by omega
                        have HST := Lib.hid (HZS.out j hjl)
                        generalize numN (W.data.toList ++ Z.take j) = y at *
                        have hl4 : ¬ (j : Int) < 0 := by omega
                        have HZ0 := Lib.hid (HZG.out j hjl (by rw [HF0.out]; exact Nat.zero_le _))
                        go_wp2_with fail
                        go_round
                        case rel => exact ⟨j + 1, by omega, by go_num, by (rw [HST.out, HZ0.out]) <;> first | (congr 1; done) | (congr 1; omega)⟩
                        case measure => simp [intOf]; omega
                      · obtain rfl : j = 3 := by omega
                        have hl3 : ¬ (3 : Int) < 3 := by omega
                        have HVE := Lib.hid HZV.out
                        rw [HVE.out] at hyb2 ⊢
                        by_cases hv : 1000000000 < v
                        · have hv2 : (1000000000 : Int) < (v : Int) := by omega
                          have hr := HR5.out hv
                          subst hr
                          have d1 : decide ((v : Int) > 1000000000) = true := decide_eq_true (by omega)
                          go_wp2_with fail
                          go_ret2
                          exact ⟨rfl, rfl⟩
                        · have hr := HR0.out (by omega)
                          subst hr
                          have d1 : decide ((v : Int) > 1000000000) = false := decide_eq_false (by omega)
                          have hv2 : ¬ (1000000000 : Int) < (v : Int) := by omega
                          go_wp2_with fail
                          go_ret2
                          exact ⟨rfl, rfl⟩
              · go_wp2_with fail

                refine (HDW.out _).mono ?_
                rintro e w1 ⟨rfl, rfl⟩
                go_wp2_with fail
                go_loop [7, 8] (fun s7 s8 => ∃ k : Nat, k ≤ W.size ∧ s8 = .int .i64 (k : Int) ∧ s7 = .int .i64 ((numN (W.data.toList.take k) : Nat) : Int)) (fun _ s8 => (W.size - (intOf s8)).toNat)
                case atStart => exact ⟨0, Nat.zero_le _, rfl, rfl⟩
                case round =>
                  obtain ⟨j, hj, rfl, rfl⟩ := hrel
                  have hyb := HNB.out j hj
                  by_cases hjl : j < W.size
                  · have hl2 : (j : Int) < (W.size : Int) := by omega
                    have hjL : j < W.data.toList.length := by rw [list_size]; exact hjl
                    have hst := numN_take hjL
                    have hge : W.data.toList[j]'hjL = W[j]'hjl := rfl
                    rw [hge] at hst
                    have HST := Lib.hid hst
                    have hdg := dig_bd (HWD.out _ (show W[j]'hjl ∈ W.data.toList by rw [Array.mem_toList_iff]; exact Array.getElem_mem hjl))
                    clear hst hge
                    generalize numN (W.data.toList.take j) = y at *
                    obtain ⟨cn, hcn⟩ : ∃ cn, (W[j]'hjl).toNat = cn := ⟨_, rfl⟩
                    rw [hcn] at hdg HST
                    have hc1 : (48 : Int) ≤ (cn : Int) := by omega
                    have hc2 : (cn : Int) ≤ 57 := by omega
                    go_wp2_with fail
                    go_round
                    case rel => exact ⟨j + 1, by omega, by go_num, by rw [HST.out]; congr 1; omega⟩
                    case measure => simp [intOf]; omega
                  · obtain rfl : j = W.size := by omega
                    have hl2 : ¬ (W.size : Int) < (W.size : Int) := by omega
                    have htk : W.data.toList.take W.size = W.data.toList := by rw [← list_size, List.take_length]
                    rw [htk] at hyb ⊢
                    clear htk
                    go_wp2_with fail
                    go_loop [7, 9] (fun s7 s9 => ∃ k : Nat, k ≤ 3 ∧ s9 = .int .i64 (k : Int) ∧ s7 = .int .i64 ((numN (W.data.toList ++ Z.take k) : Nat) : Int)) (fun _ s9 => (3 - (intOf s9)).toNat)
                    case atStart => exact ⟨0, by omega, rfl, by simp⟩
                    case round =>
                      obtain ⟨j, hj, rfl, rfl⟩ := hrel
                      have hyb2 := HZB.out j hj
                      by_cases hjl : j < 3
                      · have hl3 : (j : Int) < 3 := by omega
                        have HST := Lib.hid (HZS.out j hjl)
                        generalize numN (W.data.toList ++ Z.take j) = y at *
                        have hl4 : ¬ (j : Int) < 0 := by omega
                        have HZ0 := Lib.hid (HZG.out j hjl (by rw [HF0.out]; exact Nat.zero_le _))
                        go_wp2_with fail
                        go_round
                        case rel => exact ⟨j + 1, by omega, by go_num, by (rw [HST.out, HZ0.out]) <;> first | (congr 1; done) | (congr 1; omega)⟩
                        case measure => simp [intOf]; omega
                      · obtain rfl : j = 3 := by omega
                        have hl3 : ¬ (3 : Int) < 3 := by omega
                        have HVE := Lib.hid HZV.out
                        rw [HVE.out] at hyb2 ⊢
                        by_cases hv : 1000000000 < v
                        · have hv2 : (1000000000 : Int) < (v : Int) := by omega
                          have hr := HR5.out hv
                          subst hr
                          have d1 : decide ((v : Int) > 1000000000) = true := decide_eq_true (by omega)
                          go_wp2_with fail
                          go_ret2
                          exact ⟨rfl, rfl⟩
                        · have hr := HR0.out (by omega)
                          subst hr
                          have d1 : decide ((v : Int) > 1000000000) = false := decide_eq_false (by omega)
                          have hv2 : ¬ (1000000000 : Int) < (v : Int) := by omega
                          go_wp2_with fail
                          go_ret2
                          exact ⟨rfl, rfl⟩
end Go.Proofs.YtiofekoadjgjdaaGreatDoor
