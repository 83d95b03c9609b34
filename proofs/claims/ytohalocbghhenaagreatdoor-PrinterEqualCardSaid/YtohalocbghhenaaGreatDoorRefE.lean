/- Contract of layer 9's reference: number. -/
import Derived.Test.YtohalocbghhenaaGreatDoorRefA
import Derived.Test.YtohalocbghhenaaGreatDoorRead
set_option linter.unusedSimpArgs false
set_option linter.unusedVariables false
namespace Go.Proofs.YtohalocbghhenaaGreatDoor
open Go.RowKit

theorem numN_one (c : UInt8) : numN [c] = c.toNat - 48 := by simp [numN]
theorem dig_bd {c : UInt8} (h : digB c = true) : 48 ≤ c.toNat ∧ c.toNat ≤ 57 := by
  rw [dig_num] at h
  simpa using h
theorem numN_lt : ∀ l : List UInt8, (∀ c ∈ l, digB c = true) → numN l < 10 ^ l.length
  | [], _ => by simp [numN]
  | c :: t, h => by
    have ih := numN_lt t (fun d hd => h d (by simp [hd]))
    have hc := dig_bd (h c (by simp))
    have e : numN (c :: t) = numN [c] * 10 ^ t.length + numN t := numN_append [c] t
    rw [e, numN_one, List.length_cons, Nat.pow_succ]
    have : (c.toNat - 48) * 10 ^ t.length ≤ 9 * 10 ^ t.length := Nat.mul_le_mul_right _ (by omega)
    omega
theorem numN_ge {c : UInt8} {t : List UInt8} (h : digB c = true) (h0 : c ≠ 48) : 10 ^ t.length ≤ numN (c :: t) := by
  have hc := dig_bd h
  have hn : c.toNat ≠ 48 := fun e => h0 (UInt8.toNat.inj (by rw [e]; rfl))
  have e : numN (c :: t) = numN [c] * 10 ^ t.length + numN t := numN_append [c] t
  rw [e, numN_one]
  have : 1 * 10 ^ t.length ≤ (c.toNat - 48) * 10 ^ t.length := Nat.mul_le_mul_right _ (by omega)
  omega
theorem numN_take {l : List UInt8} {k : Nat} (h : k < l.length) : numN (l.take (k + 1)) = numN (l.take k) * 10 + ((l[k]'h).toNat - 48) := by
  rw [List.take_succ_eq_append_getElem h, numN_snoc]
theorem whoL_cut (s : ByteArray) : s.extract 0 (twN (· != 46) s) = bs (whoL s.data.toList) := twN_ext (· != 46) s
theorem fraL_cut (s : ByteArray) : s.extract (twN (· != 46) s + 1) s.size = bs (fraL s.data.toList) := by
  refine (bs_of ?_).symm
  rw [ext_list, List.take_of_length_le (by rw [List.length_drop, list_size]; exact Nat.le_refl _)]
  unfold fraL
  rw [← (tw_take (· != 46) s.data.toList).2, List.drop_drop]
  rfl
theorem pnt_lt (s : ByteArray) : pntB s.data.toList = decide (twN (· != 46) s < s.size) := by
  have hl := (tw_take (· != 46) s.data.toList).1
  have hle := twN_le (· != 46) s
  cases hc : pntB s.data.toList with
  | true =>
    symm
    rw [decide_eq_true_eq]
    have hm := List.contains_iff_mem.1 hc
    rcases Nat.lt_or_ge (twN (· != 46) s) s.size with h | h
    · exact h
    · have he : (s.data.toList.takeWhile (· != 46)).length = s.data.toList.length := by rw [list_size]; exact Nat.le_antisymm hle h
      rw [he, List.take_length] at hl
      rw [hl] at hm
      have := List.all_eq_true.1 (List.all_takeWhile (p := (· != 46)) (l := s.data.toList)) 46 hm
      simp at this
  | false =>
    symm
    rw [decide_eq_false_iff_not]
    have h := (no_byte hc).1
    have he : twN (· != 46) s = s.size := by unfold twN; rw [h, list_size]
    omega
set_option maxHeartbeats 4000000 in
set_option maxRecDepth 100000 in
theorem rnumber_any (s : ByteArray) (hs : s.size ≤ 100000) (w : World) : Calls Tryz.prog 98 #[.string s] w fun e w' => e = .returned (.tuple #[.int .i64 (numS s.data.toList).1, .int .i64 (numS s.data.toList).2]) ∧ w = w' := by
  have HY := Lib.hid (twN_yes (· != 46) s)
  have HN := Lib.hid (twN_no (· != 46) s)
  have hle := twN_le (· != 46) s
  have HW := Lib.hid (whoL_cut s)
  have HF := Lib.hid (fraL_cut s)
  have HP := Lib.hid (pnt_lt s)
  have HO := Lib.hid (show numOk s.data.toList = ((digsB (whoL s.data.toList) && !(decide (1 < (whoL s.data.toList).length) && (whoL s.data.toList).head? == some 48)) && (!pntB s.data.toList || (digsB (fraL s.data.toList) && decide ((fraL s.data.toList).length ≤ 3)))) from rfl)
  have HV := Lib.hid (show numV s.data.toList = numN (whoL s.data.toList ++ fraL s.data.toList ++ List.replicate (3 - (fraL s.data.toList).length) 48) from rfl)
  have HS := Lib.hid (show numS s.data.toList = if numOk s.data.toList then (if 1000000000 < numV s.data.toList then (0, 5) else ((numV s.data.toList : Int), 0)) else (0, 2) from rfl)
  have hnp : pntB s.data.toList = false → fraL s.data.toList = [] := fun h => by
    unfold fraL; rw [(no_byte h).2]; rfl
  obtain ⟨l1, l2⟩ := tl_le (· != 46) s.data.toList
  have l1 : (whoL s.data.toList).length ≤ s.data.toList.length := l1
  have l2 : (fraL s.data.toList).length ≤ s.data.toList.length := l2
  rw [list_size] at l1 l2
  generalize numS s.data.toList = R at *
  generalize numOk s.data.toList = ok at *
  generalize numV s.data.toList = v at *
  generalize whoL s.data.toList = Wl at *
  generalize fraL s.data.toList = Fl at *
  generalize pntB s.data.toList = pt at *
  obtain ⟨p, hp⟩ : ∃ p, twN (· != 46) s = p := ⟨_, rfl⟩
  rw [hp] at hle HY HW HF HP
  have HN2 := Lib.hid (show ∀ h : p < s.size, (s[p]'h != 46) = false by subst hp; exact HN.out)
  clear HN hp
  obtain ⟨W, hW⟩ : ∃ W, bs Wl = W := ⟨_, rfl⟩
  obtain ⟨F, hF⟩ : ∃ F, bs Fl = F := ⟨_, rfl⟩
  have eW : Wl = W.data.toList := by rw [← hW, bs_data]
  have eF : Fl = F.data.toList := by rw [← hF, bs_data]
  rw [hW] at HW
  rw [hF] at HF
  clear hW hF
  subst eW eF
  rw [list_size] at l1 l2
  have HDW := Lib.hid (fun X => rdigits_any W (by omega) X)
  have HDF := Lib.hid (fun X => rdigits_any F (by omega) X)
  go_enter Tryz.func98, Tryz.ntmps98
  go_wp2_with fail
  go_loop [4] (fun s4 => ∃ k : Nat, k ≤ p ∧ s4 = .int .i64 (k : Int)) (fun s4 => (s.size - (intOf s4)).toNat)
  case atStart => exact ⟨0, Nat.zero_le _, rfl⟩
  case round =>
    obtain ⟨k, hk, rfl⟩ := hrel
    by_cases hkp : k < p
    · have hlt : k < s.size := by omega
      have hl : (k : Int) < (s.size : Int) := by omega
      have e46 : (s[k]'hlt == 46) = (((s[k]'hlt).toNat : Int) == 46) := u8_eq (s[k]'hlt) 46 (by decide)
      have hy := HY.out k hlt hkp
      have hc : (s[k]'hlt == 46) = false := by
        unfold bne at hy; simpa using hy
      rw [hc] at e46
      replace e46 := e46.symm
      have e46b : (((s[k]'hlt).toNat : Int) != 46) = true := by unfold bne; rw [e46]; rfl
      clear hy hc
      go_wp2_with fail
      go_round
      case rel => exact ⟨k + 1, by omega, by go_num⟩
      case measure => simp [intOf]; omega
    · obtain rfl : k = p := by omega
      have HR2 := Lib.hid (show ok = false → R = (0, 2) from fun h => by rw [HS.out, h]; rfl)
      have hWx := HW.out
      have hFx := HF.out
      by_cases hlt : k < s.size
      · have hl : (k : Int) < (s.size : Int) := by omega
        have hpt : pt = true := by rw [HP.out]; exact decide_eq_true hlt
        have e46 : (s[k]'hlt == 46) = (((s[k]'hlt).toNat : Int) == 46) := u8_eq (s[k]'hlt) 46 (by decide)
        have hc : (s[k]'hlt == 46) = true := by
          have := HN2.out hlt
          unfold bne at this; simpa using this
        rw [hc] at e46
        replace e46 := e46.symm
        have e46b : (((s[k]'hlt).toNat : Int) != 46) = false := by unfold bne; rw [e46]; rfl
        clear hc HY HN2
        cases hdf : digsB F.data.toList with
        | false =>
          rw [hdf] at HDF
          have hok : ok = false := by rw [HO.out, hpt, hdf]; simp
          have hr := HR2.out hok
          subst hr
          clear HO HS HV HP
          go_wp2_with fail
          refine (HDF.out _).mono ?_
          rintro e w1 ⟨rfl, rfl⟩
          go_wp2_with fail
          go_ret2
          exact ⟨rfl, rfl⟩
        | true =>
          rw [hdf] at HDF
          by_cases hf3 : 3 < F.size
          · have k3 : decide ((F.size : Int) > 3) = true := decide_eq_true (by omega)
            have hok : ok = false := by
              have : decide (F.data.toList.length ≤ 3) = false := decide_eq_false (by rw [list_size]; omega)
              rw [HO.out, hpt, hdf, this]; simp
            have hr := HR2.out hok
            subst hr
            clear HO HS HV HP
            go_wp2_with fail
            refine (HDF.out _).mono ?_
            rintro e w1 ⟨rfl, rfl⟩
            go_wp2_with fail
            go_ret2
            exact ⟨rfl, rfl⟩
          · have k3 : decide ((F.size : Int) > 3) = false := decide_eq_false (by omega)
            have HF3 := Lib.hid (show F.size ≤ 3 by omega)
            have HFD := Lib.hid (digs_out hdf).2
            have HFOK := Lib.hid (show (!pt || (digsB F.data.toList && decide (F.data.toList.length ≤ 3))) = true by
              rw [hdf, list_size]
              have : decide (F.size ≤ 3) = true := decide_eq_true (by omega)
              rw [this]; simp)
            clear HP
            cases hdw : digsB W.data.toList with
            | false =>
              rw [hdw] at HDW
              have hok : ok = false := by rw [HO.out, hdw]; rfl
              have hr := HR2.out hok
              subst hr
              clear HO HS
              go_wp2_with fail
              refine (HDF.out _).mono ?_
              rintro e w1 ⟨rfl, rfl⟩
              go_wp2_with fail
              refine (HDW.out _).mono ?_
              rintro e w1 ⟨rfl, rfl⟩
              go_wp2_with fail
              go_ret2
              exact ⟨rfl, rfl⟩
            | true =>
              rw [hdw] at HDW
              obtain ⟨hwn, hwd⟩ := digs_out hdw
              have h0 : 0 < W.size := by
                rw [← list_size]
                cases hh : W.data.toList with
                | nil => exact absurd hh hwn
                | cons c t => simp
              have HWD := Lib.hid hwd
              have hhd := head_byte h0
              have h48 : (W[0]'h0 == 48) = (((W[0]'h0).toNat : Int) == 48) := u8_eq (W[0]'h0) 48 (by decide)
              have hq : ((W.data.toList).head? == some 48) = ((W[0]'h0) == 48) := by rw [hhd]; rfl
              obtain ⟨z, hz⟩ : ∃ z, ((((W[0]'h0).toNat : Int)) == 48) = z := ⟨_, rfl⟩
              have HZZ := Lib.hid (h48.trans hz)
              have HOK := Lib.hid (show ok = !(decide (1 < W.size) && z) by rw [HO.out, hdw, hq, h48.trans hz, list_size, HFOK.out]; cases z <;> simp)
              clear HO hq hhd h48 hwn
              by_cases hl1 : 1 < W.size ∧ z = true
              · obtain ⟨hl1, rfl⟩ := hl1
                have hok : ok = false := by rw [HOK.out]; simp [hl1]
                have hr := HR2.out hok
                subst hr
                have k1 : decide ((W.size : Int) > 1) = true := decide_eq_true (by omega)
                clear HS HOK
                go_wp2_with fail
                refine (HDF.out _).mono ?_
                rintro e w1 ⟨rfl, rfl⟩
                go_wp2_with fail
                refine (HDW.out _).mono ?_
                rintro e w1 ⟨rfl, rfl⟩
                go_wp2_with fail
                go_ret2
                exact ⟨rfl, rfl⟩
              · have hok : ok = true := by
                  rw [HOK.out]
                  cases z with
                  | false => simp
                  | true => simp; have : ¬ 1 < W.size := fun h => hl1 ⟨h, rfl⟩; omega
                subst hok
                have hk : decide ((W.size : Int) > 1) = false ∨ (decide ((W.size : Int) > 1) = true ∧ z = false) := by
                  by_cases h : 1 < W.size
                  · right
                    refine ⟨decide_eq_true (by omega), ?_⟩
                    cases z with
                    | false => rfl
                    | true => exact absurd ⟨h, rfl⟩ hl1
                  · left; exact decide_eq_false (by omega)
                have HR5 := Lib.hid (show 1000000000 < v → R = (0, 5) from fun h => by rw [HS.out, if_pos rfl, if_pos h])
                have HR0 := Lib.hid (show v ≤ 1000000000 → R = ((v : Int), 0) from fun h => by rw [HS.out, if_pos rfl, if_neg (by omega)])
                have HFALL := Lib.hid (HFD.out)
                obtain ⟨Z, hZ⟩ : ∃ Z, F.data.toList ++ List.replicate (3 - F.size) 48 = Z := ⟨_, rfl⟩
                have hZl : Z.length = 3 := by
                  rw [← hZ, List.length_append, List.length_replicate, list_size]
                  have := HF3.out
                  omega
                have hZd : ∀ c ∈ Z, digB c = true := by
                  intro c hc
                  rw [← hZ] at hc
                  rcases List.mem_append.1 hc with hc | hc
                  · exact HFALL.out c hc
                  · rw [List.eq_of_mem_replicate hc]; decide
                have HZV := Lib.hid (show numN (W.data.toList ++ Z.take 3) = v by
                  rw [List.take_of_length_le (by omega), HV.out, list_size, ← hZ, List.append_assoc])
                have HZS := Lib.hid (show ∀ j (h : j < 3), numN (W.data.toList ++ Z.take (j + 1)) = numN (W.data.toList ++ Z.take j) * 10 + ((Z[j]'(by omega)).toNat - 48) from fun j h => by
                  rw [List.take_succ_eq_append_getElem (by omega : j < Z.length), ← List.append_assoc, numN_snoc])
                have HZF := Lib.hid (show ∀ j (h : j < F.size), (∀ h3 : j < Z.length, (Z[j]'h3).toNat = (F[j]'h).toNat) ∧ (48 ≤ (F[j]'h).toNat ∧ (F[j]'h).toNat ≤ 57) from fun j h => by
                  refine ⟨fun h3 => ?_, dig_bd (HFALL.out _ (by rw [Array.mem_toList_iff]; exact Array.getElem_mem h))⟩
                  have hjF : j < F.data.toList.length := by rw [list_size]; exact h
                  have : Z[j]'h3 = F.data.toList[j]'hjF := by
                    subst hZ
                    rw [List.getElem_append_left hjF]
                  rw [this]
                  rfl)
                have HZG := Lib.hid (show ∀ j (h : j < 3), F.size ≤ j → (Z[j]'(by omega)).toNat = 48 from fun j h h2 => by
                  subst hZ
                  rw [List.getElem_append_right (by rw [list_size]; exact h2), List.getElem_replicate]
                  rfl)
                by_cases hl10 : 10 < W.size
                · have hz0 : z = false := by
                    rcases hk with h | h
                    · have := of_decide_eq_false h; omega
                    · exact h.2
                  subst hz0
                  have hbig : 1000000000 < v := by
                    have hc0 : (W[0]'h0) ≠ 48 := by
                      have := HZZ.out
                      intro h
                      rw [h] at this
                      exact absurd this (by decide)
                    have hd0 : digB (W[0]'h0) = true := HWD.out _ (by rw [Array.mem_toList_iff]; exact Array.getElem_mem h0)
                    have hcs := drop_cons W 0 h0
                    rw [List.drop_zero] at hcs
                    have hg := numN_ge (t := W.data.toList.drop (0 + 1)) hd0 hc0
                    rw [← hcs, List.length_drop, list_size] at hg
                    have h10 : 10 ^ 10 ≤ 10 ^ (W.size - (0 + 1)) := Nat.pow_le_pow_right (by omega) (by omega)
                    have hv : v = numN W.data.toList * 10 ^ (F.data.toList ++ List.replicate (3 - F.data.toList.length) 48).length + numN (F.data.toList ++ List.replicate (3 - F.data.toList.length) 48) := by
                      rw [HV.out, List.append_assoc, numN_append]
                    have hp1 : 1 ≤ 10 ^ (F.data.toList ++ List.replicate (3 - F.data.toList.length) 48).length := (Nat.pow_le_pow_right (by omega) (Nat.zero_le _) : 10 ^ 0 ≤ _)
                    have hm : numN W.data.toList * 1 ≤ numN W.data.toList * 10 ^ (F.data.toList ++ List.replicate (3 - F.data.toList.length) 48).length := Nat.mul_le_mul_left _ hp1
                    omega
                  have hr := HR5.out hbig
                  subst hr
                  have k1 : decide ((W.size : Int) > 1) = true := decide_eq_true (by omega)
                  have k10 : decide ((W.size : Int) > 10) = true := decide_eq_true (by omega)
                  clear hk HZS HZF HZG HZV hZd hZ HS HV HR0 HR5 HOK
                  go_wp2_with fail
                  refine (HDF.out _).mono ?_
                  rintro e w1 ⟨rfl, rfl⟩
                  go_wp2_with fail
                  refine (HDW.out _).mono ?_
                  rintro e w1 ⟨rfl, rfl⟩
                  go_wp2_with fail
                  go_ret2
                  exact ⟨rfl, rfl⟩
                · have k10 : decide ((W.size : Int) > 10) = false := decide_eq_false (by omega)
                  have HNB := Lib.hid (show ∀ j, j ≤ W.size → numN (W.data.toList.take j) ≤ 10000000000 from fun j hj => by
                    have h1 := numN_lt (W.data.toList.take j) (fun c hc => HWD.out c (List.mem_of_mem_take hc))
                    have h2 : (W.data.toList.take j).length ≤ 10 := by rw [List.length_take, list_size]; omega
                    have h3 : 10 ^ (W.data.toList.take j).length ≤ 10 ^ 10 := Nat.pow_le_pow_right (by omega) h2
                    omega)
                  have HZB := Lib.hid (show ∀ j, j ≤ 3 → numN (W.data.toList ++ Z.take j) ≤ 10000000000000 from fun j hj => by
                    have h1 := numN_lt (W.data.toList ++ Z.take j) (fun c hc => by
                      rcases List.mem_append.1 hc with hc | hc
                      · exact HWD.out c hc
                      · exact hZd c (List.mem_of_mem_take hc))
                    have h2 : (W.data.toList ++ Z.take j).length ≤ 13 := by rw [List.length_append, List.length_take, list_size]; omega
                    have h3 : 10 ^ (W.data.toList ++ Z.take j).length ≤ 10 ^ 13 := Nat.pow_le_pow_right (by omega) h2
                    omega)
                  clear hZd hZ HS HV HOK
                  rcases hk with k1 | ⟨k1, rfl⟩
                  · go_wp2_with fail
                    refine (HDF.out _).mono ?_
                    rintro e w1 ⟨rfl, rfl⟩
                    go_wp2_with fail
                    refine (HDW.out _).mono ?_
                    rintro e w1 ⟨rfl, rfl⟩
                    go_wp2_with fail
                    go_loop [7, 8] (fun s7 s8 => ∃ k : Nat, k ≤ W.size ∧ s8 = .int .i64 (k : Int) ∧ s7 = .int .i64 ((numN (W.data.toList.take k) : Nat) : Int)) (fun _ s8 => (W.size - (intOf s8)).toNat)
                    case atStart => exact ⟨0, Nat.zero_le _, rfl, rfl⟩
                    case round =>
                      obtain ⟨j, hj, rfl, rfl⟩ := hrel
                      have hyb := HNB.out j hj
                      by_cases hjl : j < W.size
                      · have hl2 : (j : Int) < (W.size : Int) := by omega
                        have hjL : j < W.data.toList.length := by rw [list_size]; exact hjl
                        have hst := numN_take hjL
                        have hge : W.data.toList[j]'hjL = W[j]'hjl := rfl
                        rw [hge] at hst
                        have HST := Lib.hid hst
                        have hdg := dig_bd (HWD.out _ (show W[j]'hjl ∈ W.data.toList by rw [Array.mem_toList_iff]; exact Array.getElem_mem hjl))
                        clear hst hge
                        generalize numN (W.data.toList.take j) = y at *
                        obtain ⟨cn, hcn⟩ : ∃ cn, (W[j]'hjl).toNat = cn := ⟨_, rfl⟩
                        rw [hcn] at hdg HST
                        have hc1 : (48 : Int) ≤ (cn : Int) := by omega
                        have hc2 : (cn : Int) ≤ 57 := by omega
                        go_wp2_with fail
                        go_round
                        case rel => exact ⟨j + 1, by omega, by go_num, by rw [HST.out]; congr 1; omega⟩
                        case measure => simp [intOf]; omega
                      · obtain rfl : j = W.size := by omega
                        have hl2 : ¬ (W.size : Int) < (W.size : Int) := by omega
                        have htk : W.data.toList.take W.size = W.data.toList := by rw [← list_size, List.take_length]
                        rw [htk] at hyb ⊢
                        clear htk
                        go_wp2_with fail
                        go_loop [7, 9] (fun s7 s9 => ∃ k : Nat, k ≤ 3 ∧ s9 = .int .i64 (k : Int) ∧ s7 = .int .i64 ((numN (W.data.toList ++ Z.take k) : Nat) : Int)) (fun _ s9 => (3 - (intOf s9)).toNat)
                        case atStart => exact ⟨0, by omega, rfl, by simp⟩
                        case round =>
                          obtain ⟨j, hj, rfl, rfl⟩ := hrel
                          have hyb2 := HZB.out j hj
                          by_cases hjl : j < 3
                          · have hl3 : (j : Int) < 3 := by omega
                            have HST := Lib.hid (HZS.out j hjl)
                            generalize numN (W.data.toList ++ Z.take j) = y at *
                            by_cases hjf : j < F.size
                            · have hl4 : (j : Int) < (F.size : Int) := by omega
                              obtain ⟨hz1, hz2⟩ := HZF.out j hjf
                              have HZ1 := Lib.hid hz1
                              clear hz1
                              obtain ⟨cn, hcn⟩ : ∃ cn, (F[j]'hjf).toNat = cn := ⟨_, rfl⟩
                              rw [hcn] at hz2 HZ1
                              have hc1 : (48 : Int) ≤ (cn : Int) := by omega
                              have hc2 : (cn : Int) ≤ 57 := by omega
                              go_wp2_with fail
                              go_round
                              case rel => exact ⟨j + 1, by omega, by go_num, by rw [HST.out, HZ1.out]; congr 1; omega⟩
                              case measure => simp [intOf]; omega
                            · have hl4 : ¬ (j : Int) < (F.size : Int) := by omega
                              have HZ0 := Lib.hid (HZG.out j hjl (by omega))
                              go_wp2_with fail
                              go_round
                              case rel => exact ⟨j + 1, by omega, by go_num, by (rw [HST.out, HZ0.out]) <;> first | (congr 1; done) | (congr 1; omega)⟩
                              case measure => simp [intOf]; omega
                          · obtain rfl : j = 3 := by omega
                            have hl3 : ¬ (3 : Int) < 3 := by omega
                            have HVE := Lib.hid HZV.out
                            rw [HVE.out] at hyb2 ⊢
                            by_cases hv : 1000000000 < v
                            · have hv2 : (1000000000 : Int) < (v : Int) := by omega
                              have hr := HR5.out hv
                              subst hr
                              have d1 : decide ((v : Int) > 1000000000) = true := decide_eq_true (by omega)
                              go_wp2_with fail
                              go_ret2
                              exact ⟨rfl, rfl⟩
                            · have hr := HR0.out (by omega)
                              subst hr
                              have d1 : decide ((v : Int) > 1000000000) = false := decide_eq_false (by omega)
                              have hv2 : ¬ (1000000000 : Int) < (v : Int) := by omega
                              go_wp2_with fail
                              go_ret2
                              exact ⟨rfl, rfl⟩
                  · go_wp2_with fail
                    refine (HDF.out _).mono ?_
                    rintro e w1 ⟨rfl, rfl⟩
                    go_wp2_with fail
                    refine (HDW.out _).mono ?_
                    rintro e w1 ⟨rfl, rfl⟩
                    go_wp2_with fail
                    go_loop [7, 8] (fun s7 s8 => ∃ k : Nat, k ≤ W.size ∧ s8 = .int .i64 (k : Int) ∧ s7 = .int .i64 ((numN (W.data.toList.take k) : Nat) : Int)) (fun _ s8 => (W.size - (intOf s8)).toNat)
                    case atStart => exact ⟨0, Nat.zero_le _, rfl, rfl⟩
                    case round =>
                      obtain ⟨j, hj, rfl, rfl⟩ := hrel
                      have hyb := HNB.out j hj
                      by_cases hjl : j < W.size
                      · have hl2 : (j : Int) < (W.size : Int) := by omega
                        have hjL : j < W.data.toList.length := by rw [list_size]; exact hjl
                        have hst := numN_take hjL
                        have hge : W.data.toList[j]'hjL = W[j]'hjl := rfl
                        rw [hge] at hst
                        have HST := Lib.hid hst
                        have hdg := dig_bd (HWD.out _ (show W[j]'hjl ∈ W.data.toList by rw [Array.mem_toList_iff]; exact Array.getElem_mem hjl))
                        clear hst hge
                        generalize numN (W.data.toList.take j) = y at *
                        obtain ⟨cn, hcn⟩ : ∃ cn, (W[j]'hjl).toNat = cn := ⟨_, rfl⟩
                        rw [hcn] at hdg HST
                        have hc1 : (48 : Int) ≤ (cn : Int) := by omega
                        have hc2 : (cn : Int) ≤ 57 := by omega
                        go_wp2_with fail
                        go_round
                        case rel => exact ⟨j + 1, by omega, by go_num, by rw [HST.out]; congr 1; omega⟩
                        case measure => simp [intOf]; omega
                      · obtain rfl : j = W.size := by omega
                        have hl2 : ¬ (W.size : Int) < (W.size : Int) := by omega
                        have htk : W.data.toList.take W.size = W.data.toList := by rw [← list_size, List.take_length]
                        rw [htk] at hyb ⊢
                        clear htk
                        go_wp2_with fail
                        go_loop [7, 9] (fun s7 s9 => ∃ k : Nat, k ≤ 3 ∧ s9 = .int .i64 (k : Int) ∧ s7 = .int .i64 ((numN (W.data.toList ++ Z.take k) : Nat) : Int)) (fun _ s9 => (3 - (intOf s9)).toNat)
                        case atStart => exact ⟨0, by omega, rfl, by simp⟩
                        case round =>
                          obtain ⟨j, hj, rfl, rfl⟩ := hrel
                          have hyb2 := HZB.out j hj
                          by_cases hjl : j < 3
                          · have hl3 : (j : Int) < 3 := by omega
                            have HST := Lib.hid (HZS.out j hjl)
                            generalize numN (W.data.toList ++ Z.take j) = y at *
                            by_cases hjf : j < F.size
                            · have hl4 : (j : Int) < (F.size : Int) := by omega
                              obtain ⟨hz1, hz2⟩ := HZF.out j hjf
                              have HZ1 := Lib.hid hz1
                              clear hz1
                              obtain ⟨cn, hcn⟩ : ∃ cn, (F[j]'hjf).toNat = cn := ⟨_, rfl⟩
                              rw [hcn] at hz2 HZ1
                              have hc1 : (48 : Int) ≤ (cn : Int) := by omega
                              have hc2 : (cn : Int) ≤ 57 := by omega
                              go_wp2_with fail
                              go_round
                              case rel => exact ⟨j + 1, by omega, by go_num, by rw [HST.out, HZ1.out]; congr 1; omega⟩
                              case measure => simp [intOf]; omega
                            · have hl4 : ¬ (j : Int) < (F.size : Int) := by omega
                              have HZ0 := Lib.hid (HZG.out j hjl (by omega))
                              go_wp2_with fail
                              go_round
                              case rel => exact ⟨j + 1, by omega, by go_num, by (rw [HST.out, HZ0.out]) <;> first | (congr 1; done) | (congr 1; omega)⟩
                              case measure => simp [intOf]; omega
                          · obtain rfl : j = 3 := by omega
                            have hl3 : ¬ (3 : Int) < 3 := by omega
                            have HVE := Lib.hid HZV.out
                            rw [HVE.out] at hyb2 ⊢
                            by_cases hv : 1000000000 < v
                            · have hv2 : (1000000000 : Int) < (v : Int) := by omega
                              have hr := HR5.out hv
                              subst hr
                              have d1 : decide ((v : Int) > 1000000000) = true := decide_eq_true (by omega)
                              go_wp2_with fail
                              go_ret2
                              exact ⟨rfl, rfl⟩
                            · have hr := HR0.out (by omega)
                              subst hr
                              have d1 : decide ((v : Int) > 1000000000) = false := decide_eq_false (by omega)
                              have hv2 : ¬ (1000000000 : Int) < (v : Int) := by omega
                              go_wp2_with fail
                              go_ret2
                              exact ⟨rfl, rfl⟩
      · have hl : ¬ (k : Int) < (s.size : Int) := by omega
        have hpt : pt = false := by rw [HP.out]; exact decide_eq_false hlt
        subst hpt
        have hf0 := hnp rfl
        have hFe : F = ⟨#[]⟩ := bs_inj hf0
        subst hFe
        have HF3 := Lib.hid (show (⟨#[]⟩ : ByteArray).size ≤ 3 by decide)
        have HFD := Lib.hid (show ∀ c ∈ (⟨#[]⟩ : ByteArray).data.toList, digB c = true by simp)
        have HFOK := Lib.hid (show (!false || (digsB (⟨#[]⟩ : ByteArray).data.toList && decide ((⟨#[]⟩ : ByteArray).data.toList.length ≤ 3))) = true by decide)
        obtain ⟨F, hFF⟩ : ∃ F : ByteArray, F = ⟨#[]⟩ := ⟨_, rfl⟩
        rw [← hFF] at HF3 HFD HFOK HO HV
        have hF0 : F.size = 0 := by rw [hFF]; rfl
        have HFF := Lib.hid hFF
        have HF0 := Lib.hid hF0
        clear HP hf0 hFx HDF HF HY HN2 hnp hFF hF0
        cases hdw : digsB W.data.toList with
        | false =>
          rw [hdw] at HDW
          have hok : ok = false := by rw [HO.out, hdw]; rfl
          have hr := HR2.out hok
          subst hr
          clear HO HS
          go_wp2_with fail

          refine (HDW.out _).mono ?_
          rintro e w1 ⟨rfl, rfl⟩
          go_wp2_with fail
          go_ret2
          exact ⟨rfl, rfl⟩
        | true =>
          rw [hdw] at HDW
          obtain ⟨hwn, hwd⟩ := digs_out hdw
          have h0 : 0 < W.size := by
            rw [← list_size]
            cases hh : W.data.toList with
            | nil => exact absurd hh hwn
            | cons c t => simp
          have HWD := Lib.hid hwd
          have hhd := head_byte h0
          have h48 : (W[0]'h0 == 48) = (((W[0]'h0).toNat : Int) == 48) := u8_eq (W[0]'h0) 48 (by decide)
          have hq : ((W.data.toList).head? == some 48) = ((W[0]'h0) == 48) := by rw [hhd]; rfl
          obtain ⟨z, hz⟩ : ∃ z, ((((W[0]'h0).toNat : Int)) == 48) = z := ⟨_, rfl⟩
          have HZZ := Lib.hid (h48.trans hz)
          have HOK := Lib.hid (show ok = !(decide (1 < W.size) && z) by rw [HO.out, hdw, hq, h48.trans hz, list_size, HFOK.out]; cases z <;> simp)
          clear HO hq hhd h48 hwn
          by_cases hl1 : 1 < W.size ∧ z = true
          · obtain ⟨hl1, rfl⟩ := hl1
            have hok : ok = false := by rw [HOK.out]; simp [hl1]
            have hr := HR2.out hok
            subst hr
            have k1 : decide ((W.size : Int) > 1) = true := decide_eq_true (by omega)
            clear HS HOK
            go_wp2_with fail

            refine (HDW.out _).mono ?_
            rintro e w1 ⟨rfl, rfl⟩
            go_wp2_with fail
            go_ret2
            exact ⟨rfl, rfl⟩
          · have hok : ok = true := by
              rw [HOK.out]
              cases z with
              | false => simp
              | true => simp; have : ¬ 1 < W.size := fun h => hl1 ⟨h, rfl⟩; omega
            subst hok
            have hk : decide ((W.size : Int) > 1) = false ∨ (decide ((W.size : Int) > 1) = true ∧ z = false) := by
              by_cases h : 1 < W.size
              · right
                refine ⟨decide_eq_true (by omega), ?_⟩
                cases z with
                | false => rfl
                | true => exact absurd ⟨h, rfl⟩ hl1
              · left; exact decide_eq_false (by omega)
            have HR5 := Lib.hid (show 1000000000 < v → R = (0, 5) from fun h => by rw [HS.out, if_pos rfl, if_pos h])
            have HR0 := Lib.hid (show v ≤ 1000000000 → R = ((v : Int), 0) from fun h => by rw [HS.out, if_pos rfl, if_neg (by omega)])
            have HFALL := Lib.hid (HFD.out)
            obtain ⟨Z, hZ⟩ : ∃ Z, F.data.toList ++ List.replicate (3 - F.size) 48 = Z := ⟨_, rfl⟩
            have hZl : Z.length = 3 := by
              rw [← hZ, List.length_append, List.length_replicate, list_size]
              have := HF3.out
              omega
            have hZd : ∀ c ∈ Z, digB c = true := by
              intro c hc
              rw [← hZ] at hc
              rcases List.mem_append.1 hc with hc | hc
              · exact HFALL.out c hc
              · rw [List.eq_of_mem_replicate hc]; decide
            have HZV := Lib.hid (show numN (W.data.toList ++ Z.take 3) = v by
              rw [List.take_of_length_le (by omega), HV.out, list_size, ← hZ, List.append_assoc])
            have HZS := Lib.hid (show ∀ j (h : j < 3), numN (W.data.toList ++ Z.take (j + 1)) = numN (W.data.toList ++ Z.take j) * 10 + ((Z[j]'(by omega)).toNat - 48) from fun j h => by
              rw [List.take_succ_eq_append_getElem (by omega : j < Z.length), ← List.append_assoc, numN_snoc])
            have HZF := Lib.hid (show ∀ j (h : j < F.size), (∀ h3 : j < Z.length, (Z[j]'h3).toNat = (F[j]'h).toNat) ∧ (48 ≤ (F[j]'h).toNat ∧ (F[j]'h).toNat ≤ 57) from fun j h => by
              refine ⟨fun h3 => ?_, dig_bd (HFALL.out _ (by rw [Array.mem_toList_iff]; exact Array.getElem_mem h))⟩
              have hjF : j < F.data.toList.length := by rw [list_size]; exact h
              have : Z[j]'h3 = F.data.toList[j]'hjF := by
                subst hZ
                rw [List.getElem_append_left hjF]
              rw [this]
              rfl)
            have HZG := Lib.hid (show ∀ j (h : j < 3), F.size ≤ j → (Z[j]'(by omega)).toNat = 48 from fun j h h2 => by
              subst hZ
              rw [List.getElem_append_right (by rw [list_size]; exact h2), List.getElem_replicate]
              rfl)
            by_cases hl10 : 10 < W.size
            · have hz0 : z = false := by
                rcases hk with h | h
                · have := of_decide_eq_false h; omega
                · exact h.2
              subst hz0
              have hbig : 1000000000 < v := by
                have hc0 : (W[0]'h0) ≠ 48 := by
                  have := HZZ.out
                  intro h
                  rw [h] at this
                  exact absurd this (by decide)
                have hd0 : digB (W[0]'h0) = true := HWD.out _ (by rw [Array.mem_toList_iff]; exact Array.getElem_mem h0)
                have hcs := drop_cons W 0 h0
                rw [List.drop_zero] at hcs
                have hg := numN_ge (t := W.data.toList.drop (0 + 1)) hd0 hc0
                rw [← hcs, List.length_drop, list_size] at hg
                have h10 : 10 ^ 10 ≤ 10 ^ (W.size - (0 + 1)) := Nat.pow_le_pow_right (by omega) (by omega)
                have hv : v = numN W.data.toList * 10 ^ (F.data.toList ++ List.replicate (3 - F.data.toList.length) 48).length + numN (F.data.toList ++ List.replicate (3 - F.data.toList.length) 48) := by
                  rw [HV.out, List.append_assoc, numN_append]
                have hp1 : 1 ≤ 10 ^ (F.data.toList ++ List.replicate (3 - F.data.toList.length) 48).length := (Nat.pow_le_pow_right (by omega) (Nat.zero_le _) : 10 ^ 0 ≤ _)
                have hm : numN W.data.toList * 1 ≤ numN W.data.toList * 10 ^ (F.data.toList ++ List.replicate (3 - F.data.toList.length) 48).length := Nat.mul_le_mul_left _ hp1
                omega
              have hr := HR5.out hbig
              subst hr
              have k1 : decide ((W.size : Int) > 1) = true := decide_eq_true (by omega)
              have k10 : decide ((W.size : Int) > 10) = true := decide_eq_true (by omega)
              clear hk HZS HZF HZG HZV hZd hZ HS HV HR0 HR5 HOK
              go_wp2_with fail

              refine (HDW.out _).mono ?_
              rintro e w1 ⟨rfl, rfl⟩
              go_wp2_with fail
              go_ret2
              exact ⟨rfl, rfl⟩
            · have k10 : decide ((W.size : Int) > 10) = false := decide_eq_false (by omega)
              have HNB := Lib.hid (show ∀ j, j ≤ W.size → numN (W.data.toList.take j) ≤ 10000000000 from fun j hj => by
                have h1 := numN_lt (W.data.toList.take j) (fun c hc => HWD.out c (List.mem_of_mem_take hc))
                have h2 : (W.data.toList.take j).length ≤ 10 := by rw [List.length_take, list_size]; omega
                have h3 : 10 ^ (W.data.toList.take j).length ≤ 10 ^ 10 := Nat.pow_le_pow_right (by omega) h2
                omega)
              have HZB := Lib.hid (show ∀ j, j ≤ 3 → numN (W.data.toList ++ Z.take j) ≤ 10000000000000 from fun j hj => by
                have h1 := numN_lt (W.data.toList ++ Z.take j) (fun c hc => by
                  rcases List.mem_append.1 hc with hc | hc
                  · exact HWD.out c hc
                  · exact hZd c (List.mem_of_mem_take hc))
                have h2 : (W.data.toList ++ Z.take j).length ≤ 13 := by rw [List.length_append, List.length_take, list_size]; omega
                have h3 : 10 ^ (W.data.toList ++ Z.take j).length ≤ 10 ^ 13 := Nat.pow_le_pow_right (by omega) h2
                omega)
              clear hZd hZ HS HV HOK
              rcases hk with k1 | ⟨k1, rfl⟩
              · go_wp2_with fail

                refine (HDW.out _).mono ?_
                rintro e w1 ⟨rfl, rfl⟩
                go_wp2_with fail
                go_loop [7, 8] (fun s7 s8 => ∃ k : Nat, k ≤ W.size ∧ s8 = .int .i64 (k : Int) ∧ s7 = .int .i64 ((numN (W.data.toList.take k) : Nat) : Int)) (fun _ s8 => (W.size - (intOf s8)).toNat)
                case atStart => exact ⟨0, Nat.zero_le _, rfl, rfl⟩
                case round =>
                  obtain ⟨j, hj, rfl, rfl⟩ := hrel
                  have hyb := HNB.out j hj
                  by_cases hjl : j < W.size
                  · have hl2 : (j : Int) < (W.size : Int) := by omega
                    have hjL : j < W.data.toList.length := by rw [list_size]; exact hjl
                    have hst := numN_take hjL
                    have hge : W.data.toList[j]'hjL = W[j]'hjl := rfl
                    rw [hge] at hst
                    have HST := Lib.hid hst
                    have hdg := dig_bd (HWD.out _ (show W[j]'hjl ∈ W.data.toList by rw [Array.mem_toList_iff]; exact Array.getElem_mem hjl))
                    clear hst hge
                    generalize numN (W.data.toList.take j) = y at *
                    obtain ⟨cn, hcn⟩ : ∃ cn, (W[j]'hjl).toNat = cn := ⟨_, rfl⟩
                    rw [hcn] at hdg HST
                    have hc1 : (48 : Int) ≤ (cn : Int) := by omega
                    have hc2 : (cn : Int) ≤ 57 := by omega
                    go_wp2_with fail
                    go_round
                    case rel => exact ⟨j + 1, by omega, by go_num, by rw [HST.out]; congr 1; omega⟩
                    case measure => simp [intOf]; omega
                  · obtain rfl : j = W.size := by omega
                    have hl2 : ¬ (W.size : Int) < (W.size : Int) := by omega
                    have htk : W.data.toList.take W.size = W.data.toList := by rw [← list_size, List.take_length]
                    rw [htk] at hyb ⊢
                    clear htk
                    go_wp2_with fail
                    go_loop [7, 9] (fun s7 s9 => ∃ k : Nat, k ≤ 3 ∧ s9 = .int .i64 (k : Int) ∧ s7 = .int .i64 ((numN (W.data.toList ++ Z.take k) : Nat) : Int)) (fun _ s9 => (3 - (intOf s9)).toNat)
                    case atStart => exact ⟨0, by omega, rfl, by simp⟩
                    case round =>
                      obtain ⟨j, hj, rfl, rfl⟩ := hrel
                      have hyb2 := HZB.out j hj
                      by_cases hjl : j < 3
                      · have hl3 : (j : Int) < 3 := by omega
                        have HST := Lib.hid (HZS.out j hjl)
                        generalize numN (W.data.toList ++ Z.take j) = y at *
                        have hl4 : ¬ (j : Int) < 0 := by omega
                        have HZ0 := Lib.hid (HZG.out j hjl (by rw [HF0.out]; exact Nat.zero_le _))
                        go_wp2_with fail
                        go_round
                        case rel => exact ⟨j + 1, by omega, by go_num, by (rw [HST.out, HZ0.out]) <;> first | (congr 1; done) | (congr 1; omega)⟩
                        case measure => simp [intOf]; omega
                      · obtain rfl : j = 3 := by omega
                        have hl3 : ¬ (3 : Int) < 3 := by omega
                        have HVE := Lib.hid HZV.out
                        rw [HVE.out] at hyb2 ⊢
                        by_cases hv : 1000000000 < v
                        · have hv2 : (1000000000 : Int) < (v : Int) := by omega
                          have hr := HR5.out hv
                          subst hr
                          have d1 : decide ((v : Int) > 1000000000) = true := decide_eq_true (by omega)
                          go_wp2_with fail
                          go_ret2
                          exact ⟨rfl, rfl⟩
                        · have hr := HR0.out (by omega)
                          subst hr
                          have d1 : decide ((v : Int) > 1000000000) = false := decide_eq_false (by omega)
                          have hv2 : ¬ (1000000000 : Int) < (v : Int) := by omega
                          go_wp2_with fail
                          go_ret2
                          exact ⟨rfl, rfl⟩
              · go_wp2_with fail

                refine (HDW.out _).mono ?_
                rintro e w1 ⟨rfl, rfl⟩
                go_wp2_with fail
                go_loop [7, 8] (fun s7 s8 => ∃ k : Nat, k ≤ W.size ∧ s8 = .int .i64 (k : Int) ∧ s7 = .int .i64 ((numN (W.data.toList.take k) : Nat) : Int)) (fun _ s8 => (W.size - (intOf s8)).toNat)
                case atStart => exact ⟨0, Nat.zero_le _, rfl, rfl⟩
                case round =>
                  obtain ⟨j, hj, rfl, rfl⟩ := hrel
                  have hyb := HNB.out j hj
                  by_cases hjl : j < W.size
                  · have hl2 : (j : Int) < (W.size : Int) := by omega
                    have hjL : j < W.data.toList.length := by rw [list_size]; exact hjl
                    have hst := numN_take hjL
                    have hge : W.data.toList[j]'hjL = W[j]'hjl := rfl
                    rw [hge] at hst
                    have HST := Lib.hid hst
                    have hdg := dig_bd (HWD.out _ (show W[j]'hjl ∈ W.data.toList by rw [Array.mem_toList_iff]; exact Array.getElem_mem hjl))
                    clear hst hge
                    generalize numN (W.data.toList.take j) = y at *
                    obtain ⟨cn, hcn⟩ : ∃ cn, (W[j]'hjl).toNat = cn := ⟨_, rfl⟩
                    rw [hcn] at hdg HST
                    have hc1 : (48 : Int) ≤ (cn : Int) := by omega
                    have hc2 : (cn : Int) ≤ 57 := by omega
                    go_wp2_with fail
                    go_round
                    case rel => exact ⟨j + 1, by omega, by go_num, by rw [HST.out]; congr 1; omega⟩
                    case measure => simp [intOf]; omega
                  · obtain rfl : j = W.size := by omega
                    have hl2 : ¬ (W.size : Int) < (W.size : Int) := by omega
                    have htk : W.data.toList.take W.size = W.data.toList := by rw [← list_size, List.take_length]
                    rw [htk] at hyb ⊢
                    clear htk
                    go_wp2_with fail
                    go_loop [7, 9] (fun s7 s9 => ∃ k : Nat, k ≤ 3 ∧ s9 = .int .i64 (k : Int) ∧ s7 = .int .i64 ((numN (W.data.toList ++ Z.take k) : Nat) : Int)) (fun _ s9 => (3 - (intOf s9)).toNat)
                    case atStart => exact ⟨0, by omega, rfl, by simp⟩
                    case round =>
                      obtain ⟨j, hj, rfl, rfl⟩ := hrel
                      have hyb2 := HZB.out j hj
                      by_cases hjl : j < 3
                      · have hl3 : (j : Int) < 3 := by omega
                        have HST := Lib.hid (HZS.out j hjl)
                        generalize numN (W.data.toList ++ Z.take j) = y at *
                        have hl4 : ¬ (j : Int) < 0 := by omega
                        have HZ0 := Lib.hid (HZG.out j hjl (by rw [HF0.out]; exact Nat.zero_le _))
                        go_wp2_with fail
                        go_round
                        case rel => exact ⟨j + 1, by omega, by go_num, by (rw [HST.out, HZ0.out]) <;> first | (congr 1; done) | (congr 1; omega)⟩
                        case measure => simp [intOf]; omega
                      · obtain rfl : j = 3 := by omega
                        have hl3 : ¬ (3 : Int) < 3 := by omega
                        have HVE := Lib.hid HZV.out
                        rw [HVE.out] at hyb2 ⊢
                        by_cases hv : 1000000000 < v
                        · have hv2 : (1000000000 : Int) < (v : Int) := by omega
                          have hr := HR5.out hv
                          subst hr
                          have d1 : decide ((v : Int) > 1000000000) = true := decide_eq_true (by omega)
                          go_wp2_with fail
                          go_ret2
                          exact ⟨rfl, rfl⟩
                        · have hr := HR0.out (by omega)
                          subst hr
                          have d1 : decide ((v : Int) > 1000000000) = false := decide_eq_false (by omega)
                          have hv2 : ¬ (1000000000 : Int) < (v : Int) := by omega
                          go_wp2_with fail
                          go_ret2
                          exact ⟨rfl, rfl⟩
end Go.Proofs.YtohalocbghhenaaGreatDoor
/- Contract of layer 9's reference: Title. -/
namespace Go.Proofs.YtohalocbghhenaaGreatDoor
open Go.RowKit

set_option maxHeartbeats 2000000 in
set_option maxRecDepth 100000 in
theorem rtitle_any (s : ByteArray) (hs : s.size ≤ 1000000000) (w : World) : Calls Tryz.prog 95 #[.string s] w fun e w' => e = .returned (.int .i64 (titE s.data.toList)) ∧ w = w' := by
  by_cases h0 : s.size = 0
  · have k1 : ((s.size : Int) == 0) = true := by rw [beq_iff_eq]; omega
    have HE := Lib.hid (show titE s.data.toList = 2 by rw [size0 h0]; rfl)
    clear h0
    go_enter Tryz.func95, Tryz.ntmps95
    go_wp2_with fail
    go_ret
    exact ⟨by rw [HE.out]; rfl, rfl⟩
  · have hp : 0 < s.size := by omega
    have k1 : ((s.size : Int) == 0) = false := by rw [beq_eq_false_iff_ne]; omega
    have hL : s.size - 1 < s.size := by omega
    have hd := head_byte hp
    have hl := last_byte hL
    have HX := Lib.hid (show titE s.data.toList = if ((s[0]'hp) = 32 ∨ (s[s.size - 1]'hL) = 32) then 2 else if s.data.toList.all titB then (if 40 < s.size then 6 else 0) else 2 by
      unfold titE
      rw [hd, hl, list_size]
      simp)
    have e0 := eq32 (s[0]'hp)
    have e1 := eq32 (s[s.size - 1]'hL)
    clear hd hl
    generalize titE s.data.toList = R at *
    cases h1 : (s[0]'hp == 32) with
    | true =>
      have HE := Lib.hid (show R = 2 by rw [HX.out, if_pos (.inl (by simpa using h1))])
      rw [h1] at e0
      replace e0 := e0.symm
      clear HX e1 h1
      go_enter Tryz.func95, Tryz.ntmps95
      go_wp2_with fail
      go_ret
      exact ⟨by rw [HE.out]; rfl, rfl⟩
    | false =>
      rw [h1] at e0
      replace e0 := e0.symm
      cases h2 : (s[s.size - 1]'hL == 32) with
      | true =>
        have HE := Lib.hid (show R = 2 by rw [HX.out, if_pos (.inr (by simpa using h2))])
        rw [h2] at e1
        replace e1 := e1.symm
        clear HX h1 h2 h0
        go_enter Tryz.func95, Tryz.ntmps95
        go_wp2_with fail
        go_ret
        exact ⟨by rw [HE.out]; rfl, rfl⟩
      | false =>
        have HE := Lib.hid (show R = if s.data.toList.all titB then (if 40 < s.size then 6 else 0) else 2 by
          rw [HX.out, if_neg (by
            intro h
            rcases h with h | h
            · rw [h] at h1; exact absurd h1 (by decide)
            · rw [h] at h2; exact absurd h2 (by decide))])
        rw [h2] at e1
        replace e1 := e1.symm
        clear HX h1 h2 h0
        go_enter Tryz.func95, Tryz.ntmps95
        go_wp2_with fail
        go_loop [3] (fun s21 => ∃ k : Nat, k ≤ s.size ∧ s21 = .int .i64 (k : Int) ∧ Hid (∀ (j : Nat) (h : j < s.size), j < k → titB (s[j]'h) = true)) (fun s21 => (s.size - (intOf s21)).toNat)
        case atStart => exact ⟨0, Nat.zero_le _, rfl, Lib.hid (fun j _ h => absurd h (Nat.not_lt_zero j))⟩
        case round =>
          obtain ⟨k, hk, rfl, HK⟩ := hrel
          by_cases hlt : k < s.size
          · have hl : (k : Int) < (s.size : Int) := by omega
            have hq : (s[k]'hlt == 34) = (((s[k]'hlt).toNat : Int) == 34) := u8_eq (s[k]'hlt) 34 (by decide)
            have HTB := Lib.hid (show titB (s[k]'hlt) = (decide (32 ≤ (s[k]'hlt).toNat) && decide ((s[k]'hlt).toNat ≤ 126) && (s[k]'hlt) != 34) from rfl)
            by_cases g1 : 32 ≤ (s[k]'hlt).toNat
            · by_cases g2 : (s[k]'hlt).toNat ≤ 126
              · cases g3 : (s[k]'hlt == 34) with
                | true =>
                  have HF := Lib.hid (all_false (p := titB) hlt (by rw [HTB.out, bne, g3]; simp))
                  rw [g3] at hq
                  have g4 := hq.symm
                  have g5 : decide (((s[k]'hlt).toNat : Int) < 32) = false := by simp; omega
                  have g6 : decide (((s[k]'hlt).toNat : Int) > 126) = false := by simp; omega
                  clear hq g3 HTB
                  go_wp2_with fail
                  go_ret
                  exact ⟨by rw [HE.out, HF.out]; rfl, rfl⟩
                | false =>
                  have HF := Lib.hid (show titB (s[k]'hlt) = true by rw [HTB.out, bne, g3]; simp [g1, g2])
                  rw [g3] at hq
                  have g4 := hq.symm
                  have g5 : decide (((s[k]'hlt).toNat : Int) < 32) = false := by simp; omega
                  have g6 : decide (((s[k]'hlt).toNat : Int) > 126) = false := by simp; omega
                  clear hq g3 HTB
                  go_wp2_with fail
                  go_round
                  case rel =>
                    refine ⟨k + 1, by omega, by go_num, Lib.hid (fun j h hj => ?_)⟩
                    by_cases e : j = k
                    · subst e; exact HF.out
                    · exact HK.out j h (by omega)
                  case measure => simp [intOf]; omega
              · have HF := Lib.hid (all_false (p := titB) hlt (by rw [HTB.out]; simp [g2]))
                have g5 : decide (((s[k]'hlt).toNat : Int) < 32) = false := by simp; omega
                have g6 : decide (((s[k]'hlt).toNat : Int) > 126) = true := by simp; omega
                clear hq HTB
                go_wp2_with fail
                go_ret
                exact ⟨by rw [HE.out, HF.out]; rfl, rfl⟩
            · have HF := Lib.hid (all_false (p := titB) hlt (by rw [HTB.out]; simp [g1]))
              have g5 : decide (((s[k]'hlt).toNat : Int) < 32) = true := by simp; omega
              clear hq HTB
              go_wp2_with fail
              go_ret
              exact ⟨by rw [HE.out, HF.out]; rfl, rfl⟩
          · obtain rfl : k = s.size := by omega
            have hl : ¬ (s.size : Int) < (s.size : Int) := by omega
            have HA := Lib.hid (show s.data.toList.all titB = true from all_iff.2 (fun j h => HK.out j h h))
            by_cases g : 40 < s.size
            · have g1 : decide ((s.size : Int) > 40) = true := by simp; omega
              go_wp2_with fail
              go_ret
              exact ⟨by rw [HE.out, HA.out, if_pos rfl, if_pos g]; rfl, rfl⟩
            · have g1 : decide ((s.size : Int) > 40) = false := by simp; omega
              go_wp2_with fail
              go_ret
              exact ⟨by rw [HE.out, HA.out, if_pos rfl, if_neg g]; rfl, rfl⟩
end Go.Proofs.YtohalocbghhenaaGreatDoor
/- Contract of layer 9's reference: Token. -/
namespace Go.Proofs.YtohalocbghhenaaGreatDoor
open Go.RowKit

theorem wrd_pt (c : UInt8) : wrdB c = (runB c && (c != 46)) :=
  eq_of_beq (all_u8 (P := fun c => wrdB c == (runB c && (c != 46))) (by decide +kernel) c)
theorem run_wrds : ∀ {l : List UInt8}, (∀ c ∈ l, runB c = true) → l.all wrdB = !pntB l
  | [], _ => rfl
  | c :: t, h => by
    have ih := run_wrds (l := t) (fun d hd => h d (by simp [hd]))
    have hc := h c (by simp)
    rw [List.all_cons, ih, wrd_pt, hc]
    unfold pntB
    rw [List.contains_cons]
    have : ((46 : UInt8) == c) = (c == 46) := by
      rw [Bool.eq_iff_iff, beq_iff_eq, beq_iff_eq]
      exact eq_comm
    rw [this]
    unfold bne
    cases (c == 46) <;> simp
theorem letters_no {l : List UInt8} (hl : l.any letB = true) : numOk l = false := by
  cases h : numOk l with
  | false => rfl
  | true =>
    unfold numOk at h
    rw [Bool.and_eq_true, Bool.and_eq_true] at h
    obtain ⟨⟨h1, _⟩, h2⟩ := h
    obtain ⟨_, w⟩ := digs_out h1
    obtain ⟨c, hc, hcl⟩ := List.any_eq_true.1 hl
    have hd : c ∈ whoL l ∨ c ∈ l.dropWhile (· != 46) := by
      have := List.takeWhile_append_dropWhile (p := (· != 46)) (l := l)
      rw [← this] at hc
      exact List.mem_append.1 hc
    rcases hd with hd | hd
    · rw [dig_let c (w c hd)] at hcl
      exact absurd hcl (by decide)
    · cases hp : pntB l with
      | false =>
        rw [(no_byte hp).2] at hd
        simp at hd
      | true =>
        rw [hp] at h2
        have h3 : digsB (fraL l) = true := by
          simp at h2; exact h2.1
        obtain ⟨_, f⟩ := digs_out h3
        have hcase : c = 46 ∨ c ∈ fraL l := by
          unfold fraL
          cases hdw : l.dropWhile (· != 46) with
          | nil => rw [hdw] at hd; simp at hd
          | cons b r =>
            rw [hdw] at hd
            rcases List.mem_cons.1 hd with rfl | hd
            · left
              have hx := List.head?_dropWhile_not (p := (· != 46)) (l := l)
              rw [hdw] at hx
              simpa using hx
            · right; exact hd
        rcases hcase with rfl | hf
        · exact absurd hcl (by decide)
        · rw [dig_let c (f c hf)] at hcl
          exact absurd hcl (by decide)
theorem runR_ref {l : List UInt8} (h : ∀ c ∈ l, runB c = true) : runR l = if l.any letB then (if pntB l then tokE 2 else if 32 < l.length then tokE 6 else (⟨1, bs l, 0, 0⟩, l.length, 0)) else if (numS l).2 = 0 then (⟨2, bs [], (numS l).1, 0⟩, l.length, 0) else tokE (numS l).2 := by
  have hw : wordB l = (l.any letB && !pntB l) := by unfold wordB; rw [run_wrds h]
  unfold runR
  rw [hw]
  cases h1 : l.any letB with
  | false => rfl
  | true =>
    cases h2 : pntB l with
    | false => rfl
    | true =>
      have : numS l = (0, 2) := by unfold numS; rw [letters_no h1]; rfl
      rw [this]
      rfl
/-- where a string stops: at the quotation mark, at a line break, at the end -/
def stpB (c : UInt8) : Bool := c != 34 && c != 10
theorem titE_line {l : List UInt8} (h : (10 : UInt8) ∈ l) : titE l = 2 := by
  unfold titE
  have : l.all titB = false := by
    rw [Bool.eq_false_iff]
    intro ha
    have := List.all_eq_true.1 ha 10 h
    exact absurd this (by decide)
  rw [this]
  split <;> rfl
theorem strR_ref (t : List UInt8) : ((t.takeWhile stpB).length = t.length → strR t = tokE 2) ∧
    (∀ c, t[(t.takeWhile stpB).length]? = some c → (c ≠ 34 → strR t = tokE 2) ∧ (c = 34 → strR t = if titE (t.takeWhile stpB) = 0 then (⟨3, bs (t.takeWhile stpB), 0, 0⟩, (t.takeWhile stpB).length + 2, 0) else tokE (titE (t.takeWhile stpB)))) := by
  have hle : (t.takeWhile stpB).length ≤ t.length := (List.takeWhile_sublist _).length_le
  have hall : ∀ c ∈ t.takeWhile stpB, stpB c = true := List.all_eq_true.1 (List.all_takeWhile (p := stpB) (l := t))
  have hne : ∀ c ∈ t.takeWhile stpB, (c != 34) = true := fun c hc => by
    have := hall c hc
    unfold stpB at this
    rw [Bool.and_eq_true] at this
    exact this.1
  have htk := (tw_take stpB t).1
  refine ⟨fun h => ?_, fun c hc => ⟨fun h34 => ?_, fun h34 => ?_⟩⟩
  · rw [h, List.take_length] at htk
    rw [← htk] at hne
    have hq : quoL t = t := by
      have := tw_app (r := []) hne (by simp)
      rw [List.append_nil] at this
      exact this
    unfold strR
    rw [if_pos (by rw [hq])]
  · obtain ⟨hlt, hg⟩ := List.getElem?_eq_some_iff.1 hc
    obtain ⟨d, hd1, hd2⟩ := tw_end stpB t hlt
    rw [hc] at hd1
    obtain rfl := Option.some.inj hd1
    have h10 : c = 10 := by
      unfold stpB at hd2
      have h1 : (c != 34) = true := by simpa using h34
      rw [h1, Bool.true_and] at hd2
      simpa using hd2
    subst h10
    have hsplit : t = t.takeWhile stpB ++ 10 :: t.drop ((t.takeWhile stpB).length + 1) := by
      conv => lhs; rw [← List.take_append_drop (t.takeWhile stpB).length t, htk, List.drop_eq_getElem_cons hlt, hg]
    have hmem : (10 : UInt8) ∈ quoL t := by
      unfold quoL
      rw [hsplit, List.takeWhile_append_of_pos hne, List.takeWhile_cons_of_pos (by decide)]
      simp
    unfold strR
    split
    · rfl
    · rw [titE_line hmem]; rfl
  · subst h34
    obtain ⟨hlt, hg⟩ := List.getElem?_eq_some_iff.1 hc
    have hsplit : t = t.takeWhile stpB ++ 34 :: t.drop ((t.takeWhile stpB).length + 1) := by
      conv => lhs; rw [← List.take_append_drop (t.takeWhile stpB).length t, htk, List.drop_eq_getElem_cons hlt, hg]
    have hq : quoL t = t.takeWhile stpB := by
      unfold quoL
      conv => lhs; rw [hsplit, List.takeWhile_append_of_pos hne, List.takeWhile_cons_of_neg (by decide), List.append_nil]
    unfold strR
    rw [hq, if_neg (by omega)]
def tokR (l : List UInt8) (p : Nat) : Tk × Nat × Int := if (readL l).2.2 = 0 then ({ (readL l).1 with a := (p : Int) }, p + (readL l).2.1, 0) else (noTk, 0, (readL l).2.2)
/-- a run of bytes from an offset -/
theorem run_at (g : UInt8 → Bool) (s : ByteArray) (p : Nat) (hp : p ≤ s.size) : ∃ q, p ≤ q ∧ q ≤ s.size ∧ q = p + ((s.data.toList.drop p).takeWhile g).length ∧ s.extract p q = bs ((s.data.toList.drop p).takeWhile g) ∧
    (∀ (j : Nat) (h : j < s.size), p ≤ j → j < q → g (s[j]'h) = true) ∧ (∀ h : q < s.size, g (s[q]'h) = false) := by
  have hle : ((s.data.toList.drop p).takeWhile g).length ≤ (s.data.toList.drop p).length := (List.takeWhile_sublist g).length_le
  rw [List.length_drop, list_size] at hle
  refine ⟨_, Nat.le_add_right _ _, by omega, rfl, ?_, fun j h h1 h2 => ?_, fun h => ?_⟩
  · refine (bs_of ?_).symm
    rw [ext_list, Nat.add_sub_cancel_left]
    exact (tw_take g _).1
  · obtain ⟨c, e1, e2⟩ := tw_get g (s.data.toList.drop p) (j - p) (by omega)
    rw [List.getElem?_drop, show p + (j - p) = j by omega, list_get s j h] at e1
    rw [Option.some.inj e1]
    exact e2
  · obtain ⟨c, e1, e2⟩ := tw_end g (s.data.toList.drop p) (by rw [List.length_drop, list_size]; omega)
    rw [List.getElem?_drop, list_get s _ h] at e1
    rw [Option.some.inj e1]
    exact e2
set_option maxHeartbeats 4000000 in
set_option maxRecDepth 100000 in
theorem rtoken_any (s : ByteArray) (hs : s.size ≤ 100000) (p : Nat) (hp : p ≤ s.size) (w : World) : Calls Tryz.prog 80 #[.string s, .int .i64 (p : Int)] w fun e w' => e = .returned (resV (tokR (s.data.toList.drop p) p)) ∧ Below w.heap.size w w' := by
  by_cases hpe : p = s.size
  · subst hpe
    have HR := Lib.hid (show tokR (s.data.toList.drop s.size) s.size = (⟨5, bs [], 0, (s.size : Int)⟩, s.size, 0) by
      rw [drop_end s _ (Nat.le_refl _)]; rfl)
    have k0 : (((s.size : Int)) == (s.size : Int)) = true := by simp
    go_enter Tryz.func80, Tryz.ntmps80
    go_wp2_with fail
    refine bodyPost_ret (v := resV (⟨5, bs [], 0, (s.size : Int)⟩, s.size, 0)) (by simp [results, Tryz.results80, go_sem, resV, Tk.val, bs]) rfl ⟨by rw [HR.out], (by repeat (first | with_reducible exact Below.refl _ _ | (with_reducible refine Below.setCell ?_ (by first | exact Nat.le_refl _ | omega | (simp; done) | (simp; omega)) _) | (with_reducible refine Below.alloc ?_ (by first | exact Nat.le_refl _ | omega | (simp; done) | (simp; omega)) _) | with_reducible refine Below.drew ?_ | with_reducible refine bel_drewN ?_ _ | (with_reducible refine bel_by (by with_reducible assumption) (by first | exact Nat.le_refl _ | omega | (simp; done) | (simp; omega)) ?_)))⟩
  · have hps : p < s.size := by omega
    have hpi : (p : Int) < (s.size : Int) := by omega
    have k0 : (((p : Int)) == (s.size : Int)) = false := by rw [beq_eq_false_iff_ne]; omega
    obtain ⟨q, hpq, hqs, hqe, hU, hyes, hno⟩ := run_at runB s p hp
    have HRUN := Lib.hid (fun c W => rrun_any c W)
    have hdc := drop_cons s p hps
    have HYES := Lib.hid hyes
    have HNO := Lib.hid hno
    have e34 : (s[p]'hps == 34) = (((s[p]'hps).toNat : Int) == 34) := u8_eq (s[p]'hps) 34 (by decide)
    have HSG := Lib.hid (fun W => rsign_any (s[p]'hps) W)
    clear hyes hno hpe
    cases hrc : runB (s[p]'hps) with
    | true =>
      have h34 : (s[p]'hps == 34) = false := by
        rw [beq_eq_false_iff_ne]
        intro h; rw [h] at hrc; exact absurd hrc (by decide)
      rw [h34] at e34
      replace e34 := e34.symm
      have h8 : (kB (s[p]'hps) == 8) = false := by
        unfold runB at hrc
        simp at hrc ⊢
        omega
      rw [h8] at HSG
      have hR : readL (s.data.toList.drop p) = runR ((s.data.toList.drop p).takeWhile runB) := by
        rw [hdc, readL_cons, if_pos hrc]
      have hall : ∀ c ∈ (s.data.toList.drop p).takeWhile runB, runB c = true := List.all_eq_true.1 (List.all_takeWhile (p := runB) (l := s.data.toList.drop p))
      rw [runR_ref hall] at hR
      have hq2 : p < q := by
        rw [hqe, hdc, List.takeWhile_cons_of_pos hrc]
        simp
      have HRR := Lib.hid (show tokR (s.data.toList.drop p) p = if (readL (s.data.toList.drop p)).2.2 = 0 then ({ (readL (s.data.toList.drop p)).1 with a := (p : Int) }, p + (readL (s.data.toList.drop p)).2.1, 0) else (noTk, 0, (readL (s.data.toList.drop p)).2.2) from rfl)
      rw [hR] at HRR
      generalize tokR (s.data.toList.drop p) p = R at *
      clear hR hall hdc hrc h34 h8
      generalize (s.data.toList.drop p).takeWhile runB = rl at *
      obtain ⟨U, hUU⟩ : ∃ U, bs rl = U := ⟨_, rfl⟩
      have eU : rl = U.data.toList := by rw [← hUU, bs_data]
      rw [hUU] at hU HRR
      clear hUU
      subst eU
      rw [list_size] at hqe HRR
      have hUz : U.size = q - p := by omega
      have hU0 : 0 < U.size := by omega
      obtain ⟨u1, u2⟩ := str_full hU0
      have hpu : p + U.size = q := by omega
      have HPU := Lib.hid hpu
      have hUb : U.size ≤ 100000 := by omega
      have HHL := Lib.hid (fun W => rhasL_any U (by omega) W)
      have HHP := Lib.hid (fun W => rhasP_any U (by omega) W)
      have HNU := Lib.hid (fun W => rnumber_any U (by omega) W)
      generalize U.data.toList.any letB = la at *
      generalize pntB U.data.toList = pt at *
      generalize numS U.data.toList = nu at *
      obtain ⟨nv, ne⟩ := nu
      simp only at HNU HRR
      have HUX := Lib.hid hU
      clear hU hqe hpu
      go_enter Tryz.func80, Tryz.ntmps80
      go_wp2_with fail
      go_loop [7] (fun s7 => ∃ k : Nat, p ≤ k ∧ k ≤ q ∧ s7 = .int .i64 (k : Int)) (fun s7 => (q - (intOf s7)).toNat)
      case atStart => exact ⟨p, Nat.le_refl _, by omega, rfl⟩
      case round =>
        obtain ⟨k, hk1, hk2, rfl⟩ := hrel
        by_cases hkq : k < q
        · have hks : k < s.size := by omega
          have hl : (k : Int) < (s.size : Int) := by omega
          have HK := Lib.hid (HRUN.out (s[k]'hks))
          rw [HYES.out k hks hk1 hkq] at HK
          go_wp2_with fail
          refine (HK.out _).mono ?_
          rintro e w1 ⟨rfl, rfl⟩
          go_wp2_with fail
          go_round
          case rel => exact ⟨k + 1, by omega, by omega, by go_num⟩
          case measure => simp [intOf]; omega
        · obtain rfl : k = q := by omega
          have hX := HUX.out
          by_cases hqz : k < s.size
          · have hl : (k : Int) < (s.size : Int) := by omega
            have HK := Lib.hid (HRUN.out (s[k]'hqz))
            rw [HNO.out hqz] at HK
            cases la with
            | true =>
              cases pt with
              | true =>
                have HR := Lib.hid (show R = (noTk, 0, 2) by rw [HRR.out]; rfl)
                clear HRR
                go_wp2_with fail
                refine (HK.out _).mono ?_
                rintro e w1 ⟨rfl, rfl⟩
                go_wp2_with fail
                refine (HSG.out _).mono ?_
                rintro e w1 ⟨rfl, rfl⟩
                go_wp2_with fail
                refine (HHL.out _).mono ?_
                rintro e w1 ⟨rfl, rfl⟩
                go_wp2_with fail
                refine (HHP.out _).mono ?_
                rintro e w1 ⟨rfl, rfl⟩
                go_wp2_with fail
                refine bodyPost_ret (v := resV (noTk, 0, 2)) (by simp [results, Tryz.results80, go_sem, resV, Tk.val, tokE, noTk, bs, hpi]) rfl ⟨by rw [HR.out], (by repeat (first | with_reducible exact Below.refl _ _ | (with_reducible refine Below.setCell ?_ (by first | exact Nat.le_refl _ | omega | (simp; done) | (simp; omega)) _) | (with_reducible refine Below.alloc ?_ (by first | exact Nat.le_refl _ | omega | (simp; done) | (simp; omega)) _) | with_reducible refine Below.drew ?_ | with_reducible refine bel_drewN ?_ _ | (with_reducible refine bel_by (by with_reducible assumption) (by first | exact Nat.le_refl _ | omega | (simp; done) | (simp; omega)) ?_)))⟩
              | false =>
                by_cases h32 : 32 < U.size
                · have d1 : decide ((U.size : Int) > 32) = true := decide_eq_true (by omega)
                  have d2 : (32 : Int) < (U.size : Int) := by omega
                  have HR := Lib.hid (show R = (noTk, 0, 6) by
                    rw [HRR.out]
                    simp [h32, tokE])
                  clear HRR
                  go_wp2_with fail
                  refine (HK.out _).mono ?_
                  rintro e w1 ⟨rfl, rfl⟩
                  go_wp2_with fail
                  refine (HSG.out _).mono ?_
                  rintro e w1 ⟨rfl, rfl⟩
                  go_wp2_with fail
                  refine (HHL.out _).mono ?_
                  rintro e w1 ⟨rfl, rfl⟩
                  go_wp2_with fail
                  refine (HHP.out _).mono ?_
                  rintro e w1 ⟨rfl, rfl⟩
                  go_wp2_with fail
                  refine bodyPost_ret (v := resV (noTk, 0, 6)) (by simp [results, Tryz.results80, go_sem, resV, Tk.val, tokE, noTk, bs, hpi]) rfl ⟨by rw [HR.out], (by repeat (first | with_reducible exact Below.refl _ _ | (with_reducible refine Below.setCell ?_ (by first | exact Nat.le_refl _ | omega | (simp; done) | (simp; omega)) _) | (with_reducible refine Below.alloc ?_ (by first | exact Nat.le_refl _ | omega | (simp; done) | (simp; omega)) _) | with_reducible refine Below.drew ?_ | with_reducible refine bel_drewN ?_ _ | (with_reducible refine bel_by (by with_reducible assumption) (by first | exact Nat.le_refl _ | omega | (simp; done) | (simp; omega)) ?_)))⟩
                · have d1 : decide ((U.size : Int) > 32) = false := decide_eq_false (by omega)
                  have d2 : ¬ (32 : Int) < (U.size : Int) := by omega
                  have HR := Lib.hid (show R = (⟨1, U, 0, (p : Int)⟩, k, 0) by
                    have h := HPU.out
                    rw [HRR.out]
                    simp [h32, h])
                  clear HRR
                  go_wp2_with fail
                  refine (HK.out _).mono ?_
                  rintro e w1 ⟨rfl, rfl⟩
                  go_wp2_with fail
                  refine (HSG.out _).mono ?_
                  rintro e w1 ⟨rfl, rfl⟩
                  go_wp2_with fail
                  refine (HHL.out _).mono ?_
                  rintro e w1 ⟨rfl, rfl⟩
                  go_wp2_with fail
                  refine (HHP.out _).mono ?_
                  rintro e w1 ⟨rfl, rfl⟩
                  go_wp2_with fail
                  refine bodyPost_ret (v := resV (⟨1, U, 0, (p : Int)⟩, k, 0)) (by simp [results, Tryz.results80, go_sem, resV, Tk.val, tokE, noTk, bs, hpi]) rfl ⟨by rw [HR.out], (by repeat (first | with_reducible exact Below.refl _ _ | (with_reducible refine Below.setCell ?_ (by first | exact Nat.le_refl _ | omega | (simp; done) | (simp; omega)) _) | (with_reducible refine Below.alloc ?_ (by first | exact Nat.le_refl _ | omega | (simp; done) | (simp; omega)) _) | with_reducible refine Below.drew ?_ | with_reducible refine bel_drewN ?_ _ | (with_reducible refine bel_by (by with_reducible assumption) (by first | exact Nat.le_refl _ | omega | (simp; done) | (simp; omega)) ?_)))⟩
            | false =>
              by_cases hne : ne = 0
              · subst hne
                have HR := Lib.hid (show R = (⟨2, bs [], nv, (p : Int)⟩, k, 0) by
                  have h := HPU.out
                  rw [HRR.out]
                  simp [h])
                clear HRR
                go_wp2_with fail
                refine (HK.out _).mono ?_
                rintro e w1 ⟨rfl, rfl⟩
                go_wp2_with fail
                refine (HSG.out _).mono ?_
                rintro e w1 ⟨rfl, rfl⟩
                go_wp2_with fail
                refine (HHL.out _).mono ?_
                rintro e w1 ⟨rfl, rfl⟩
                go_wp2_with fail
                refine (HNU.out _).mono ?_
                rintro e w1 ⟨rfl, rfl⟩
                go_wp2_with fail
                refine bodyPost_ret (v := resV (⟨2, bs [], nv, (p : Int)⟩, k, 0)) (by simp [results, Tryz.results80, go_sem, resV, Tk.val, tokE, noTk, bs, hpi]) rfl ⟨by rw [HR.out], (by repeat (first | with_reducible exact Below.refl _ _ | (with_reducible refine Below.setCell ?_ (by first | exact Nat.le_refl _ | omega | (simp; done) | (simp; omega)) _) | (with_reducible refine Below.alloc ?_ (by first | exact Nat.le_refl _ | omega | (simp; done) | (simp; omega)) _) | with_reducible refine Below.drew ?_ | with_reducible refine bel_drewN ?_ _ | (with_reducible refine bel_by (by with_reducible assumption) (by first | exact Nat.le_refl _ | omega | (simp; done) | (simp; omega)) ?_)))⟩
              · have e1 : (ne != 0) = true := by simpa using hne
                have e2 : (ne == 0) = false := by simpa using hne
                have HR := Lib.hid (show R = (noTk, 0, ne) by
                  rw [HRR.out]
                  simp [hne, tokE])
                clear HRR hne
                go_wp2_with fail
                refine (HK.out _).mono ?_
                rintro e w1 ⟨rfl, rfl⟩
                go_wp2_with fail
                refine (HSG.out _).mono ?_
                rintro e w1 ⟨rfl, rfl⟩
                go_wp2_with fail
                refine (HHL.out _).mono ?_
                rintro e w1 ⟨rfl, rfl⟩
                go_wp2_with fail
                refine (HNU.out _).mono ?_
                rintro e w1 ⟨rfl, rfl⟩
                go_wp2_with fail
                refine bodyPost_ret (v := resV (noTk, 0, ne)) (by simp [results, Tryz.results80, go_sem, resV, Tk.val, tokE, noTk, bs, hpi]) rfl ⟨by rw [HR.out], (by repeat (first | with_reducible exact Below.refl _ _ | (with_reducible refine Below.setCell ?_ (by first | exact Nat.le_refl _ | omega | (simp; done) | (simp; omega)) _) | (with_reducible refine Below.alloc ?_ (by first | exact Nat.le_refl _ | omega | (simp; done) | (simp; omega)) _) | with_reducible refine Below.drew ?_ | with_reducible refine bel_drewN ?_ _ | (with_reducible refine bel_by (by with_reducible assumption) (by first | exact Nat.le_refl _ | omega | (simp; done) | (simp; omega)) ?_)))⟩
          · have hl : ¬ (k : Int) < (s.size : Int) := by omega
            cases la with
            | true =>
              cases pt with
              | true =>
                have HR := Lib.hid (show R = (noTk, 0, 2) by rw [HRR.out]; rfl)
                clear HRR
                go_wp2_with fail
                refine (HSG.out _).mono ?_
                rintro e w1 ⟨rfl, rfl⟩
                go_wp2_with fail
                refine (HHL.out _).mono ?_
                rintro e w1 ⟨rfl, rfl⟩
                go_wp2_with fail
                refine (HHP.out _).mono ?_
                rintro e w1 ⟨rfl, rfl⟩
                go_wp2_with fail
                refine bodyPost_ret (v := resV (noTk, 0, 2)) (by simp [results, Tryz.results80, go_sem, resV, Tk.val, tokE, noTk, bs, hpi]) rfl ⟨by rw [HR.out], (by repeat (first | with_reducible exact Below.refl _ _ | (with_reducible refine Below.setCell ?_ (by first | exact Nat.le_refl _ | omega | (simp; done) | (simp; omega)) _) | (with_reducible refine Below.alloc ?_ (by first | exact Nat.le_refl _ | omega | (simp; done) | (simp; omega)) _) | with_reducible refine Below.drew ?_ | with_reducible refine bel_drewN ?_ _ | (with_reducible refine bel_by (by with_reducible assumption) (by first | exact Nat.le_refl _ | omega | (simp; done) | (simp; omega)) ?_)))⟩
              | false =>
                by_cases h32 : 32 < U.size
                · have d1 : decide ((U.size : Int) > 32) = true := decide_eq_true (by omega)
                  have d2 : (32 : Int) < (U.size : Int) := by omega
                  have HR := Lib.hid (show R = (noTk, 0, 6) by
                    rw [HRR.out]
                    simp [h32, tokE])
                  clear HRR
                  go_wp2_with fail
                  refine (HSG.out _).mono ?_
                  rintro e w1 ⟨rfl, rfl⟩
                  go_wp2_with fail
                  refine (HHL.out _).mono ?_
                  rintro e w1 ⟨rfl, rfl⟩
                  go_wp2_with fail
                  refine (HHP.out _).mono ?_
                  rintro e w1 ⟨rfl, rfl⟩
                  go_wp2_with fail
                  refine bodyPost_ret (v := resV (noTk, 0, 6)) (by simp [results, Tryz.results80, go_sem, resV, Tk.val, tokE, noTk, bs, hpi]) rfl ⟨by rw [HR.out], (by repeat (first | with_reducible exact Below.refl _ _ | (with_reducible refine Below.setCell ?_ (by first | exact Nat.le_refl _ | omega | (simp; done) | (simp; omega)) _) | (with_reducible refine Below.alloc ?_ (by first | exact Nat.le_refl _ | omega | (simp; done) | (simp; omega)) _) | with_reducible refine Below.drew ?_ | with_reducible refine bel_drewN ?_ _ | (with_reducible refine bel_by (by with_reducible assumption) (by first | exact Nat.le_refl _ | omega | (simp; done) | (simp; omega)) ?_)))⟩
                · have d1 : decide ((U.size : Int) > 32) = false := decide_eq_false (by omega)
                  have d2 : ¬ (32 : Int) < (U.size : Int) := by omega
                  have HR := Lib.hid (show R = (⟨1, U, 0, (p : Int)⟩, k, 0) by
                    have h := HPU.out
                    rw [HRR.out]
                    simp [h32, h])
                  clear HRR
                  go_wp2_with fail
                  refine (HSG.out _).mono ?_
                  rintro e w1 ⟨rfl, rfl⟩
                  go_wp2_with fail
                  refine (HHL.out _).mono ?_
                  rintro e w1 ⟨rfl, rfl⟩
                  go_wp2_with fail
                  refine (HHP.out _).mono ?_
                  rintro e w1 ⟨rfl, rfl⟩
                  go_wp2_with fail
                  refine bodyPost_ret (v := resV (⟨1, U, 0, (p : Int)⟩, k, 0)) (by simp [results, Tryz.results80, go_sem, resV, Tk.val, tokE, noTk, bs, hpi]) rfl ⟨by rw [HR.out], (by repeat (first | with_reducible exact Below.refl _ _ | (with_reducible refine Below.setCell ?_ (by first | exact Nat.le_refl _ | omega | (simp; done) | (simp; omega)) _) | (with_reducible refine Below.alloc ?_ (by first | exact Nat.le_refl _ | omega | (simp; done) | (simp; omega)) _) | with_reducible refine Below.drew ?_ | with_reducible refine bel_drewN ?_ _ | (with_reducible refine bel_by (by with_reducible assumption) (by first | exact Nat.le_refl _ | omega | (simp; done) | (simp; omega)) ?_)))⟩
            | false =>
              by_cases hne : ne = 0
              · subst hne
                have HR := Lib.hid (show R = (⟨2, bs [], nv, (p : Int)⟩, k, 0) by
                  have h := HPU.out
                  rw [HRR.out]
                  simp [h])
                clear HRR
                go_wp2_with fail
                refine (HSG.out _).mono ?_
                rintro e w1 ⟨rfl, rfl⟩
                go_wp2_with fail
                refine (HHL.out _).mono ?_
                rintro e w1 ⟨rfl, rfl⟩
                go_wp2_with fail
                refine (HNU.out _).mono ?_
                rintro e w1 ⟨rfl, rfl⟩
                go_wp2_with fail
                refine bodyPost_ret (v := resV (⟨2, bs [], nv, (p : Int)⟩, k, 0)) (by simp [results, Tryz.results80, go_sem, resV, Tk.val, tokE, noTk, bs, hpi]) rfl ⟨by rw [HR.out], (by repeat (first | with_reducible exact Below.refl _ _ | (with_reducible refine Below.setCell ?_ (by first | exact Nat.le_refl _ | omega | (simp; done) | (simp; omega)) _) | (with_reducible refine Below.alloc ?_ (by first | exact Nat.le_refl _ | omega | (simp; done) | (simp; omega)) _) | with_reducible refine Below.drew ?_ | with_reducible refine bel_drewN ?_ _ | (with_reducible refine bel_by (by with_reducible assumption) (by first | exact Nat.le_refl _ | omega | (simp; done) | (simp; omega)) ?_)))⟩
              · have e1 : (ne != 0) = true := by simpa using hne
                have e2 : (ne == 0) = false := by simpa using hne
                have HR := Lib.hid (show R = (noTk, 0, ne) by
                  rw [HRR.out]
                  simp [hne, tokE])
                clear HRR hne
                go_wp2_with fail
                refine (HSG.out _).mono ?_
                rintro e w1 ⟨rfl, rfl⟩
                go_wp2_with fail
                refine (HHL.out _).mono ?_
                rintro e w1 ⟨rfl, rfl⟩
                go_wp2_with fail
                refine (HNU.out _).mono ?_
                rintro e w1 ⟨rfl, rfl⟩
                go_wp2_with fail
                refine bodyPost_ret (v := resV (noTk, 0, ne)) (by simp [results, Tryz.results80, go_sem, resV, Tk.val, tokE, noTk, bs, hpi]) rfl ⟨by rw [HR.out], (by repeat (first | with_reducible exact Below.refl _ _ | (with_reducible refine Below.setCell ?_ (by first | exact Nat.le_refl _ | omega | (simp; done) | (simp; omega)) _) | (with_reducible refine Below.alloc ?_ (by first | exact Nat.le_refl _ | omega | (simp; done) | (simp; omega)) _) | with_reducible refine Below.drew ?_ | with_reducible refine bel_drewN ?_ _ | (with_reducible refine bel_by (by with_reducible assumption) (by first | exact Nat.le_refl _ | omega | (simp; done) | (simp; omega)) ?_)))⟩
    | false =>
      have hq2 : q = p := by
        rw [hqe, hdc, List.takeWhile_cons_of_neg (by rw [hrc]; simp)]
        simp
      subst hq2
      have hUe : s.extract q q = ⟨#[]⟩ := by
        rw [hU, hdc, List.takeWhile_cons_of_neg (by rw [hrc]; simp)]
        rfl
      have HK := Lib.hid (HRUN.out (s[q]'hps))
      rw [hrc] at HK
      have hR : readL (s.data.toList.drop q) = if kB (s[q]'hps) = 3 then strR (s.data.toList.drop (q + 1)) else if kB (s[q]'hps) = 8 then (⟨4, bs [s[q]'hps], 0, 0⟩, 1, 0) else tokE 2 := by
        rw [hdc, readL_cons, if_neg (by rw [hrc]; simp)]
      have HRR := Lib.hid (show tokR (s.data.toList.drop q) q = if (readL (s.data.toList.drop q)).2.2 = 0 then ({ (readL (s.data.toList.drop q)).1 with a := (q : Int) }, q + (readL (s.data.toList.drop q)).2.1, 0) else (noTk, 0, (readL (s.data.toList.drop q)).2.2) from rfl)
      rw [hR] at HRR
      have hE : s.extract q (q + 1) = bs [s[q]'hps] := by
        refine (bs_of ?_).symm
        rw [ext_list, Nat.add_sub_cancel_left, hdc]
        rfl
      have h3 := kB_quote (s[q]'hps)
      generalize tokR (s.data.toList.drop q) q = R at *
      clear hR hqe hU hrc hdc HYES HNO HRUN
      cases h34 : (s[q]'hps == 34) with
      | false =>
        rw [h34] at e34 h3
        replace e34 := e34.symm
        have hk3 : ¬ kB (s[q]'hps) = 3 := by simpa using h3
        rw [if_neg hk3] at HRR
        have u1 : ((⟨#[]⟩ : ByteArray).toList == []) = true := by rw [empty_list]; rfl
        clear h3 h34 hk3
        cases h8 : (kB (s[q]'hps) == 8) with
        | true =>
          rw [h8] at HSG
          have hk8 : kB (s[q]'hps) = 8 := by simpa using h8
          rw [if_pos hk8] at HRR
          have HR := Lib.hid (show R = (⟨4, bs [s[q]'hps], 0, (q : Int)⟩, q + 1, 0) by rw [HRR.out]; rfl)
          have HE := hE
          clear h8 hk8 HRR
          go_enter Tryz.func80, Tryz.ntmps80
          go_wp2_with fail
          go_loop [7] (fun s7 => s7 = .int .i64 (q : Int)) (fun _ => 0)
          case atStart => rfl
          case round =>
            subst hrel
            go_wp2_with fail
            refine (HK.out _).mono ?_
            rintro e w1 ⟨rfl, rfl⟩
            go_wp2_with fail
            refine (HSG.out _).mono ?_
            rintro e w1 ⟨rfl, rfl⟩
            go_wp2_with fail
            refine bodyPost_ret (v := resV (⟨4, bs [s[q]'hps], 0, (q : Int)⟩, q + 1, 0)) (by simp [results, Tryz.results80, go_sem, resV, Tk.val, HE]) rfl ⟨by rw [HR.out], (by repeat (first | with_reducible exact Below.refl _ _ | (with_reducible refine Below.setCell ?_ (by first | exact Nat.le_refl _ | omega | (simp; done) | (simp; omega)) _) | (with_reducible refine Below.alloc ?_ (by first | exact Nat.le_refl _ | omega | (simp; done) | (simp; omega)) _) | with_reducible refine Below.drew ?_ | with_reducible refine bel_drewN ?_ _ | (with_reducible refine bel_by (by with_reducible assumption) (by first | exact Nat.le_refl _ | omega | (simp; done) | (simp; omega)) ?_)))⟩
        | false =>
          rw [h8] at HSG
          have hk8 : ¬ kB (s[q]'hps) = 8 := by simpa using h8
          rw [if_neg hk8] at HRR
          have HR := Lib.hid (show R = (noTk, 0, 2) by rw [HRR.out]; rfl)
          clear h8 hk8 HRR hE
          go_enter Tryz.func80, Tryz.ntmps80
          go_wp2_with fail
          go_loop [7] (fun s7 => s7 = .int .i64 (q : Int)) (fun _ => 0)
          case atStart => rfl
          case round =>
            subst hrel
            go_wp2_with fail
            refine (HK.out _).mono ?_
            rintro e w1 ⟨rfl, rfl⟩
            go_wp2_with fail
            refine (HSG.out _).mono ?_
            rintro e w1 ⟨rfl, rfl⟩
            go_wp2_with fail
            refine bodyPost_ret (v := resV (noTk, 0, 2)) (by simp [results, Tryz.results80, go_sem, resV, Tk.val, noTk, bs]) rfl ⟨by rw [HR.out], (by repeat (first | with_reducible exact Below.refl _ _ | (with_reducible refine Below.setCell ?_ (by first | exact Nat.le_refl _ | omega | (simp; done) | (simp; omega)) _) | (with_reducible refine Below.alloc ?_ (by first | exact Nat.le_refl _ | omega | (simp; done) | (simp; omega)) _) | with_reducible refine Below.drew ?_ | with_reducible refine bel_drewN ?_ _ | (with_reducible refine bel_by (by with_reducible assumption) (by first | exact Nat.le_refl _ | omega | (simp; done) | (simp; omega)) ?_)))⟩
      | true =>
        rw [h34] at e34 h3
        replace e34 := e34.symm
        have hk3 : kB (s[q]'hps) = 3 := by simpa using h3
        rw [if_pos hk3] at HRR
        obtain ⟨m, hm1, hm2, hme, hT, hyes, hno⟩ := run_at stpB s (q + 1) (by omega)
        obtain ⟨sr1, sr2⟩ := strR_ref (s.data.toList.drop (q + 1))
        rw [List.length_drop, list_size] at sr1
        have HYES := Lib.hid hyes
        have HNO := Lib.hid hno
        have hml : ((s.data.toList.drop (q + 1)).takeWhile stpB).length = m - (q + 1) := by omega
        rw [hml] at sr1 sr2
        have HSR1 := Lib.hid sr1
        have HSR2 := Lib.hid (show ∀ h : m < s.size, ((s[m]'h) ≠ 34 → strR (s.data.toList.drop (q + 1)) = tokE 2) ∧ ((s[m]'h) = 34 → strR (s.data.toList.drop (q + 1)) = if titE ((s.data.toList.drop (q + 1)).takeWhile stpB) = 0 then (⟨3, bs ((s.data.toList.drop (q + 1)).takeWhile stpB), 0, 0⟩, m - (q + 1) + 2, 0) else tokE (titE ((s.data.toList.drop (q + 1)).takeWhile stpB))) from fun h => sr2 (s[m]'h) (by
          rw [List.getElem?_drop, show q + 1 + (m - (q + 1)) = m by omega, list_get s m h]))
        clear sr1 sr2 hyes hno h3 hk3 h34 hE hme hml
        generalize strR (s.data.toList.drop (q + 1)) = SR at *
        generalize (s.data.toList.drop (q + 1)).takeWhile stpB = tl at *
        obtain ⟨T, hTT⟩ : ∃ T, bs tl = T := ⟨_, rfl⟩
        have eT : tl = T.data.toList := by rw [← hTT, bs_data]
        rw [hTT] at hT HSR2
        clear hTT
        subst eT
        have hTz : T.size = m - (q + 1) := by rw [← hT]; simp; omega
        have HTI := Lib.hid (fun W => rtitle_any T (by omega) W)
        generalize titE T.data.toList = te at *
        have HTX := Lib.hid hT
        clear hT hTz
        have u1 : ((⟨#[]⟩ : ByteArray).toList == []) = true := by rw [empty_list]; rfl
        go_enter Tryz.func80, Tryz.ntmps80
        go_wp2_with fail
        go_loop [7] (fun s7 => s7 = .int .i64 (q : Int)) (fun _ => 0)
        case atStart => rfl
        case round =>
          subst hrel
          go_wp2_with fail
          refine (HK.out _).mono ?_
          rintro e w1 ⟨rfl, rfl⟩
          go_wp2_with fail
          go_loop [7] (fun s7 => ∃ k : Nat, q + 1 ≤ k ∧ k ≤ m ∧ s7 = .int .i64 (k : Int)) (fun s7 => (m - (intOf s7)).toNat)
          case atStart => exact ⟨q + 1, Nat.le_refl _, by omega, by go_num⟩
          case round =>
            obtain ⟨k, hk1, hk2, rfl⟩ := hrel
            by_cases hkm : k < m
            · have hks : k < s.size := by omega
              have hl : (k : Int) < (s.size : Int) := by omega
              have hst := HYES.out k hks hk1 hkm
              have f34 : (s[k]'hks == 34) = (((s[k]'hks).toNat : Int) == 34) := u8_eq (s[k]'hks) 34 (by decide)
              have f10 : (s[k]'hks == 10) = (((s[k]'hks).toNat : Int) == 10) := u8_eq (s[k]'hks) 10 (by decide)
              unfold stpB bne at hst
              rw [f34, f10] at hst
              have hst2 : (((s[k]'hks).toNat : Int) == 34) = false ∧ (((s[k]'hks).toNat : Int) == 10) = false := by
                cases h1 : (((s[k]'hks).toNat : Int) == 34) <;> cases h2 : (((s[k]'hks).toNat : Int) == 10) <;> rw [h1, h2] at hst <;> first | exact ⟨rfl, rfl⟩ | exact absurd hst (by decide)
              obtain ⟨g34, g10⟩ := hst2
              have g34b : (((s[k]'hks).toNat : Int) != 34) = true := by unfold bne; rw [g34]; rfl
              have g10b : (((s[k]'hks).toNat : Int) != 10) = true := by unfold bne; rw [g10]; rfl
              clear hst f34 f10
              go_wp2_with fail
              go_round
              case rel => exact ⟨k + 1, by omega, by omega, by go_num⟩
              case measure => simp [intOf]; omega
            · obtain rfl : k = m := by omega
              by_cases hms : k < s.size
              · have hl : (k : Int) < (s.size : Int) := by omega
                have n0 : ((k : Int) == (s.size : Int)) = false := by rw [beq_eq_false_iff_ne]; omega
                have f34 : (s[k]'hms == 34) = (((s[k]'hms).toNat : Int) == 34) := u8_eq (s[k]'hms) 34 (by decide)
                cases h34 : (s[k]'hms == 34) with
                | true =>
                  rw [h34] at f34
                  replace f34 := f34.symm
                  have f34b : (((s[k]'hms).toNat : Int) != 34) = false := by unfold bne; rw [f34]; rfl
                  have hSR := (HSR2.out hms).2 (by simpa using h34)
                  have hX := HTX.out
                  by_cases ht0 : te = 0
                  · subst ht0
                    rw [if_pos rfl] at hSR
                    have HR := Lib.hid (show R = (⟨3, T, 0, (q : Int)⟩, k + 1, 0) by
                      rw [HRR.out, hSR]
                      simp
                      omega)
                    clear hSR h34
                    go_wp2_with fail
                    refine (HTI.out _).mono ?_
                    rintro e w1 ⟨rfl, rfl⟩
                    go_wp2_with fail
                    refine bodyPost_ret (v := resV (⟨3, T, 0, (q : Int)⟩, k + 1, 0)) (by simp [results, Tryz.results80, go_sem, resV, Tk.val]) rfl ⟨by rw [HR.out], (by repeat (first | with_reducible exact Below.refl _ _ | (with_reducible refine Below.setCell ?_ (by first | exact Nat.le_refl _ | omega | (simp; done) | (simp; omega)) _) | (with_reducible refine Below.alloc ?_ (by first | exact Nat.le_refl _ | omega | (simp; done) | (simp; omega)) _) | with_reducible refine Below.drew ?_ | with_reducible refine bel_drewN ?_ _ | (with_reducible refine bel_by (by with_reducible assumption) (by first | exact Nat.le_refl _ | omega | (simp; done) | (simp; omega)) ?_)))⟩
                  · rw [if_neg ht0] at hSR
                    have e1 : (te != 0) = true := by simpa using ht0
                    have e2 : (te == 0) = false := by simpa using ht0
                    have HR := Lib.hid (show R = (noTk, 0, te) by
                      rw [HRR.out, hSR]
                      simp [tokE, ht0])
                    clear hSR h34 ht0
                    go_wp2_with fail
                    refine (HTI.out _).mono ?_
                    rintro e w1 ⟨rfl, rfl⟩
                    go_wp2_with fail
                    refine bodyPost_ret (v := resV (noTk, 0, te)) (by simp [results, Tryz.results80, go_sem, resV, Tk.val, noTk, bs]) rfl ⟨by rw [HR.out], (by repeat (first | with_reducible exact Below.refl _ _ | (with_reducible refine Below.setCell ?_ (by first | exact Nat.le_refl _ | omega | (simp; done) | (simp; omega)) _) | (with_reducible refine Below.alloc ?_ (by first | exact Nat.le_refl _ | omega | (simp; done) | (simp; omega)) _) | with_reducible refine Below.drew ?_ | with_reducible refine bel_drewN ?_ _ | (with_reducible refine bel_by (by with_reducible assumption) (by first | exact Nat.le_refl _ | omega | (simp; done) | (simp; omega)) ?_)))⟩
                | false =>
                  rw [h34] at f34
                  replace f34 := f34.symm
                  have f34b : (((s[k]'hms).toNat : Int) != 34) = true := by unfold bne; rw [f34]; rfl
                  have hst := HNO.out hms
                  have h10 : (s[k]'hms == 10) = true := by
                    unfold stpB bne at hst
                    rw [h34] at hst
                    simpa using hst
                  have f10 : (s[k]'hms == 10) = (((s[k]'hms).toNat : Int) == 10) := u8_eq (s[k]'hms) 10 (by decide)
                  rw [h10] at f10
                  replace f10 := f10.symm
                  have f10b : (((s[k]'hms).toNat : Int) != 10) = false := by unfold bne; rw [f10]; rfl
                  have hSR := (HSR2.out hms).1 (by simpa using h34)
                  have HR := Lib.hid (show R = (noTk, 0, 2) by rw [HRR.out, hSR]; rfl)
                  clear hSR h34 hst h10
                  go_wp2_with fail
                  refine bodyPost_ret (v := resV (noTk, 0, 2)) (by simp [results, Tryz.results80, go_sem, resV, Tk.val, noTk, bs]) rfl ⟨by rw [HR.out], (by repeat (first | with_reducible exact Below.refl _ _ | (with_reducible refine Below.setCell ?_ (by first | exact Nat.le_refl _ | omega | (simp; done) | (simp; omega)) _) | (with_reducible refine Below.alloc ?_ (by first | exact Nat.le_refl _ | omega | (simp; done) | (simp; omega)) _) | with_reducible refine Below.drew ?_ | with_reducible refine bel_drewN ?_ _ | (with_reducible refine bel_by (by with_reducible assumption) (by first | exact Nat.le_refl _ | omega | (simp; done) | (simp; omega)) ?_)))⟩
              · obtain rfl : k = s.size := by omega
                have hl : ¬ (s.size : Int) < (s.size : Int) := by omega
                have n0 : (((s.size : Int)) == (s.size : Int)) = true := by simp
                have hSR := HSR1.out rfl
                have HR := Lib.hid (show R = (noTk, 0, 2) by rw [HRR.out, hSR]; rfl)
                clear hSR
                go_wp2_with fail
                refine bodyPost_ret (v := resV (noTk, 0, 2)) (by simp [results, Tryz.results80, go_sem, resV, Tk.val, noTk, bs]) rfl ⟨by rw [HR.out], (by repeat (first | with_reducible exact Below.refl _ _ | (with_reducible refine Below.setCell ?_ (by first | exact Nat.le_refl _ | omega | (simp; done) | (simp; omega)) _) | (with_reducible refine Below.alloc ?_ (by first | exact Nat.le_refl _ | omega | (simp; done) | (simp; omega)) _) | with_reducible refine Below.drew ?_ | with_reducible refine bel_drewN ?_ _ | (with_reducible refine bel_by (by with_reducible assumption) (by first | exact Nat.le_refl _ | omega | (simp; done) | (simp; omega)) ?_)))⟩
end Go.Proofs.YtohalocbghhenaaGreatDoor
