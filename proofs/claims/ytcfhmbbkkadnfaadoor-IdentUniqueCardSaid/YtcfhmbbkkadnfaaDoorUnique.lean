/- The walk of IdentUnique. -/
import Derived.Test.YtcfhmbbkkadnfaaDoorUniqP
import Derived.Test.YtcfhmbbkkadnfaaDoorUnions
import Derived.Test.YtcfhmbbkkadnfaaDoorAbbreviates
set_option linter.unusedSimpArgs false
set_option linter.unusedVariables false
namespace Go.Proofs.YtcfhmbbkkadnfaaDoor
open Go.RowKit

theorem abbL_len (S : List ByteArray) (l : Int) : (abbL S l).length = S.length := by simp [abbL]
theorem abbL_get (S : List ByteArray) (l : Int) (k : Nat) (h : k < (abbL S l).length) : (abbL S l)[k]'h = abbAt S l k := by simp [abbL]
theorem begQ {W : World} {s p : ByteArray} {r : Bool} (hs : s.size ≤ 9223372036854775807) (hp : p.size ≤ 9223372036854775807) (hr : begB s p = r) :
    Calls Tryd.prog 42 #[.string s, .string p] W fun e w' => e = .returned (.bool r) ∧ W = w' := by
  subst hr; exact begins_any s p hs hp W
theorem ne_list {x y : ByteArray} (h : x ≠ y) : (x.toList == y.toList) = false := eq_no.2 h
set_option maxHeartbeats 4000000 in
set_option maxRecDepth 100000 in
theorem unique_in {a : Option Addr} {b off len cap : Nat} {L : List ByteArray} {w : World} (h : SlS w a b off len cap L) (na : a = none → cap = 0) (hs : smallB L = true) (l : Nat) (h1 : 1 ≤ l) (h2 : l ≤ 9223372036854775807) :
    Calls Tryd.prog 10 #[.slice a len cap, .int .i64 (l : Int)] w fun e w' => e = .returned (.bool true) ∧ Below w.heap.size w w' := by
  obtain ⟨hz1, hz2⟩ := small_len hs
  have HL0 := Lib.hid h
  have hlen : len ≤ 60 := by rw [← h.hl]; exact hz1
  have hSz : ∀ x ∈ setL L, x.size ≤ 1500 := fun x hx => hz2 x ((set_mem x L).1 hx)
  have hSl : (setL L).length ≤ 60 := Nat.le_trans (set_len L) hz1
  have hSs := set_srt L
  clear h hz1 hz2
  go_enter Tryd.func10, Tryd.ntmps10
  go_wp2_with fail
  refine (awake_any _).mono ?_
  rintro e w1 ⟨rfl, hb⟩
  have HB := Lib.hid hb
  have HS1 := Lib.hid (HL0.out.keep hb)
  clear hb HL0
  go_wp2_with fail
  refine (small_any HS1.out).mono ?_
  rw [hs]
  rintro e w2 ⟨rfl, rfl⟩
  go_wp2_with fail
  refine (set_any HS1.out na (by omega)).mono ?_
  rintro e w3 ⟨v, rfl, hown, hb⟩
  obtain ⟨aS, bS, cS, rfl, hsS, nS⟩ := own_any hown
  have HB3 := Lib.hid (HB.out.trans (hb.mono HB.out.size))
  clear hown hb HB HS1 nS
  obtain ⟨S, hS⟩ : ∃ S, setL L = S := ⟨_, rfl⟩
  rw [hS] at hsS hSz hSl hSs ⊢
  clear hS
  obtain ⟨m, hm⟩ : ∃ m, S.length = m := ⟨_, rfl⟩
  rw [hm] at hSl hsS ⊢
  have HS3 := Lib.hid hsS
  clear hsS
  go_wp2_with fail
  refine (abb_any HS3.out (by omega) (fun x hx => Nat.le_trans (hSz x hx) (by omega)) hSs (l : Int) (by omega) (by omega)).mono ?_
  rintro e w4 ⟨g, rfl, ho, hg, hb⟩
  have HS4 := Lib.hid (HS3.out.keep hb)
  have HB4 := Lib.hid (HB3.out.trans (hb.mono HB3.out.size))
  have HO4 := Lib.hid ho
  clear hb hg ho HS3 HB3
  rw [hm] at HO4 ⊢
  have hcapS := HS4.out.hcap
  have hmaxS := HS4.out.hmax
  unfold maxLen at hmaxS
  have HM := Lib.hid hm
  have HSZ := Lib.hid hSz
  have HSS := Lib.hid hSs
  clear hm hSz hSs
  have k1 : ¬ (l : Int) < 1 := by omega
  have k2 : decide ((l : Int) < 1) = false := decide_eq_false k1
  have k3 : ((m : Int) != (m : Int)) = false := by simp
  go_wp2_with fail
  go_loopw [8] (fun sI wr => ∃ (i q : Nat), i ≤ m ∧ sI = .int .i64 (i : Int) ∧ w4.drewN q = wr) (fun sI _ => (m - (intOf sI)).toNat)
  case atStart => exact ⟨0, 0, Nat.zero_le _, rfl, rfl⟩
  case round =>
    obtain ⟨i, q, hi, rfl, rfl⟩ := hrel
    by_cases hlt : i < m
    · have l2 : (i : Int) < (m : Int) := by omega
      obtain rfl := HS4.out.ha (by omega)
      have hiS : i < S.length := by rw [HM.out]; exact hlt
      have cI : ∀ q, (w4.drewN q).cell? ⟨bS, i, none⟩ = some (.string (S.getD i ⟨#[]⟩)) := fun q => by rw [getD_in S i hiS]; have := HS4.out.cell i hiS; rw [Nat.zero_add] at this; exact this
      have cO : ∀ q, (w4.drewN q).cell? ⟨g, i, none⟩ = some (.string (abbAt S (l : Int) i)) := fun q => by
        have := HO4.out.cell i (by rw [abbL_len]; exact hiS)
        rw [abbL_get, Nat.zero_add] at this
        exact this
      have hsz : (S.getD i ⟨#[]⟩).size ≤ 1500 := by rw [getD_in S i hiS]; exact HSZ.out _ (List.getElem_mem hiS)
      have hn := un_le S l i
      have hon := un_size S l i
      have hat := un_at S l i
      have HCK := Lib.hid (fun (q k : Nat) (hk : k < S.length) => (show (w4.drewN q).cell? ⟨bS, k, none⟩ = some (.string (S[k]'hk)) from by have := HS4.out.cell k hk; rw [Nat.zero_add] at this; exact this))
      have HOK := Lib.hid (fun (q k : Nat) (hk : k < S.length) => (show (w4.drewN q).cell? ⟨g, k, none⟩ = some (.string (abbAt S (l : Int) k)) from by
        have := HO4.out.cell k (by rw [abbL_len]; exact hk)
        rw [abbL_get, Nat.zero_add] at this
        exact this))
      have HNE := Lib.hid (fun (k : Nat) (hk : k < S.length) (hne : k ≠ i) => ne_list (un_ne HSS.out h1 hiS hk hne))
      have HBG := Lib.hid (fun (k : Nat) (hk : k < S.length) (hne : k ≠ i) (hl : unN S l i < (S.getD i ⟨#[]⟩).size) => un_beg HSS.out h1 hiS hk hne hl)
      have HST := Lib.hid (fun (k : Nat) (v : Bool) (hb : false = true ↔ Shr S i (unN S l i) k) (hk : k < S.length) (hne : k ≠ i) (hv : (decide (0 < unN S l i) && decide (unN S l i - 1 ≤ cpl (S[k]'hk) (S.getD i ⟨#[]⟩))) = v) => shr_step hb hk hne hv)
      have HAL := Lib.hid (fun (hl : l < unN S l i) => shr_all h1 hiS hl)
      have HBE := Lib.hid (fun (k : Nat) (hk : k < S.length) => begB_iff (S[k]'hk) (S.getD i ⟨#[]⟩) (unN S l i - 1) (by omega))
      have HEX := Lib.hid (show (abbAt S (l : Int) i).extract 0 (unN S l i - 1) = (S.getD i ⟨#[]⟩).extract 0 (unN S l i - 1) by rw [hat]; exact ext_ext _ _ _ (by omega))
      have HCI := Lib.hid cI
      have HCO := Lib.hid cO
      have HON := Lib.hid hon
      have HAT := Lib.hid hat
      obtain ⟨n, hnn⟩ : ∃ n, unN S l i = n := ⟨_, rfl⟩
      obtain ⟨s, hss⟩ : ∃ s, S.getD i ⟨#[]⟩ = s := ⟨_, rfl⟩
      obtain ⟨o, hoo⟩ : ∃ o, abbAt S (l : Int) i = o := ⟨_, rfl⟩
      rw [hnn] at hn HBG HST HAL HBE HEX HON HAT
      rw [hss] at hn hsz HBG HST HBE HEX HCI HAT
      rw [hoo] at HNE HBG HEX HCO HON HAT
      clear cI cO hon hat hnn hss hoo
      have hoz : o.size ≤ 1500 := by rw [HON.out]; omega
      have c1 := HCI.out q
      have c2 := HCO.out q
      obtain ⟨wo, hwo⟩ : ∃ wo, w4.drewN q = wo := ⟨_, rfl⟩
      rw [hwo] at c1 c2 ⊢
      have HWO := Lib.hid hwo
      clear hwo
      have k4 : decide (n > s.size) = false := decide_eq_false (by omega)
      have k5 : decide ((n : Int) > (s.size : Int)) = false := decide_eq_false (by omega)
      have k6 : (n : Int) ≤ (s.size : Int) := by omega
      have k7 : ((s.extract 0 n).toList == o.toList) = true := by rw [HAT.out]; simp
      have k8 : o.size = n := HON.out
      go_wp2_with fail
      go_quiet (fail)
      go_wp2_with fail
      go_loopw [10, 11] (fun s10 s11 wr => ∃ (k q2 : Nat) (bb : Bool), k ≤ m ∧ s10 = .bool bb ∧ s11 = .int .i64 (k : Int) ∧ w4.drewN q2 = wr ∧ Hid (bb = true ↔ Shr S i n k)) (fun _ s11 _ => (m - (intOf s11)).toNat)
      case atStart => exact ⟨0, q + nq, false, Nat.zero_le _, rfl, rfl, by rw [← HWO.out, World.drewN_drewN], Lib.hid (shr_none S i n)⟩
      case round =>
        obtain ⟨k, q2, bb, hk, rfl, rfl, rfl, HA⟩ := hrel
        by_cases hlk : k < m
        · have l3 : (k : Int) < (m : Int) := by omega
          have hkS : k < S.length := by rw [HM.out]; exact hlk
          have d1 := HCI.out q2
          have d2 := HCO.out q2
          have d3 := HCK.out q2 k hkS
          have d4 := HOK.out q2 k hkS
          have hkz := HSZ.out _ (List.getElem_mem hkS)
          have HNK := Lib.hid (HNE.out k hkS)
          have HBK := Lib.hid (HBG.out k hkS)
          have HSK := Lib.hid (HST.out k)
          have HEK := Lib.hid (HBE.out k hkS)
          obtain ⟨y, hy⟩ : ∃ y, S[k]'hkS = y := ⟨_, rfl⟩
          obtain ⟨z, hz⟩ : ∃ z, abbAt S (l : Int) k = z := ⟨_, rfl⟩
          rw [hy] at d3 hkz HBK HEK
          rw [hz] at d4 HNK
          have HYY := Lib.hid hy
          clear hy hz
          obtain ⟨wi, hwi⟩ : ∃ wi, w4.drewN q2 = wi := ⟨_, rfl⟩
          rw [hwi] at d1 d2 d3 d4 ⊢
          have HWI := Lib.hid hwi
          clear hwi
          by_cases hki : k = i
          · have k9 : ((k : Int) == (i : Int)) = true := by rw [hki]; simp
            have HKI := Lib.hid hki
            clear hki
            go_wp2_with fail
            go_roundw
            case rel => exact ⟨k + 1, q2, bb, by omega, rfl, by go_num, HWI.out, Lib.hid (by have := HKI.out; subst this; exact shr_skip HA.out)⟩
            case measure => simp [intOf]; omega
          · have k9 : ((k : Int) == (i : Int)) = false := by rw [beq_eq_false_iff_ne]; omega
            have kA := HNK.out hki
            have HB1 := Lib.hid (fun (hl : n < s.size) W => begQ (W := W) (s := y) (p := o) (r := false) (by omega) (by omega) (HBK.out hki hl))
            have HB2 := Lib.hid (fun W => begQ (W := W) (s := y) (p := o.extract 0 (n - 1)) (r := decide (n - 1 ≤ cpl y s)) (by omega) (by rw [ext_size o _ (by omega)]; omega) (by rw [HEX.out]; exact HEK.out))
            have HK1 := Lib.hid (fun (v : Bool) (hb : false = true ↔ Shr S i n k) (hv : (decide (0 < n) && decide (n - 1 ≤ cpl y s)) = v) => HSK.out v hb hkS hki (by rw [HYY.out]; exact hv))
            have HKI := Lib.hid hki
            clear hki HNK HBK HSK HEK
            obtain ⟨v, hv⟩ : ∃ v, decide (n - 1 ≤ cpl y s) = v := ⟨_, rfl⟩
            rw [hv] at HB2 HK1
            clear hv
            by_cases hns : n < s.size
            · have ks : decide ((n : Int) < (s.size : Int)) = true := decide_eq_true (by omega)
              have ks2 : decide (n < s.size) = true := decide_eq_true hns
              have HBX := Lib.hid (HB1.out hns)
              clear HB1
              cases bb with
              | true =>
                have HA2 := Lib.hid (HA.out.1 rfl)
                clear HA
                go_wp2_with fail
                go_quiet ((first | (go_at_call 42; with_reducible exact quietS (HBX.out _))))
                have HWN := Lib.hid (show w4.drewN (q2 + nq) = wi.drewN nq by rw [← HWI.out, World.drewN_drewN])
                replace d1 : (wi.drewN nq).cell? ⟨bS, i, none⟩ = some (.string s) := d1
                replace d2 : (wi.drewN nq).cell? ⟨g, i, none⟩ = some (.string o) := d2
                replace d3 : (wi.drewN nq).cell? ⟨bS, k, none⟩ = some (.string y) := d3
                obtain ⟨q3, hq3⟩ : ∃ q3, q2 + nq = q3 := ⟨_, rfl⟩
                rw [hq3] at HWN
                clear hq3
                generalize wi.drewN nq = wj at *
                go_wp2_with fail
                go_quiet (fail)
                go_wp2_with fail
                go_roundw
                case rel => exact ⟨k + 1, q3 + nq, true, by omega, rfl, by go_num, by rw [← World.drewN_drewN, HWN.out], Lib.hid (shr_up2 HA2.out)⟩
                case measure => simp [intOf]; omega
              | false =>
                by_cases hn0 : 0 < n
                · have kn : decide ((n : Int) > 0) = true := decide_eq_true (by omega)
                  have kn2 : decide (0 < n) = true := decide_eq_true hn0
                  have kw : IntKind.i64.wrap ((n : Int) - 1) = ((n - 1 : Nat) : Int) := by rw [IntWalk.i64_in _ (by omega)]; omega
                  have kz : 0 ≤ (n : Int) - 1 := by omega
                  have HR2 := Lib.hid (HK1.out v HA.out (by rw [decide_eq_true hn0, Bool.true_and]))
                  go_wp2_with fail
                  go_quiet ((first | (go_at_call 42; with_reducible exact quietS (HBX.out _))))
                  have HWN := Lib.hid (show w4.drewN (q2 + nq) = wi.drewN nq by rw [← HWI.out, World.drewN_drewN])
                  replace d1 : (wi.drewN nq).cell? ⟨bS, i, none⟩ = some (.string s) := d1
                  replace d2 : (wi.drewN nq).cell? ⟨g, i, none⟩ = some (.string o) := d2
                  replace d3 : (wi.drewN nq).cell? ⟨bS, k, none⟩ = some (.string y) := d3
                  obtain ⟨q3, hq3⟩ : ∃ q3, q2 + nq = q3 := ⟨_, rfl⟩
                  rw [hq3] at HWN
                  clear hq3
                  generalize wi.drewN nq = wj at *
                  go_wp2_with fail
                  go_quiet ((first | (go_at_call 42; with_reducible exact quietS (HB2.out _))))
                  go_wp2_with fail
                  go_roundw
                  case rel => exact ⟨k + 1, q3 + nq, v, by omega, rfl, by go_num, by rw [← World.drewN_drewN, HWN.out], Lib.hid (HR2.out)⟩
                  case measure => simp [intOf]; omega
                · have kn : decide ((n : Int) > 0) = false := decide_eq_false (by omega)
                  have kn2 : decide (0 < n) = false := decide_eq_false hn0
                  have HR2 := Lib.hid (HK1.out false HA.out (by rw [decide_eq_false hn0, Bool.false_and]))
                  go_wp2_with fail
                  go_quiet ((first | (go_at_call 42; with_reducible exact quietS (HBX.out _))))
                  have HWN := Lib.hid (show w4.drewN (q2 + nq) = wi.drewN nq by rw [← HWI.out, World.drewN_drewN])
                  replace d1 : (wi.drewN nq).cell? ⟨bS, i, none⟩ = some (.string s) := d1
                  replace d2 : (wi.drewN nq).cell? ⟨g, i, none⟩ = some (.string o) := d2
                  replace d3 : (wi.drewN nq).cell? ⟨bS, k, none⟩ = some (.string y) := d3
                  obtain ⟨q3, hq3⟩ : ∃ q3, q2 + nq = q3 := ⟨_, rfl⟩
                  rw [hq3] at HWN
                  clear hq3
                  generalize wi.drewN nq = wj at *
                  go_wp2_with fail
                  go_quiet (fail)
                  go_wp2_with fail
                  go_roundw
                  case rel => exact ⟨k + 1, q3 + nq, false, by omega, rfl, by go_num, by rw [← World.drewN_drewN, HWN.out], Lib.hid (HR2.out)⟩
                  case measure => simp [intOf]; omega
            · have ks : decide ((n : Int) < (s.size : Int)) = false := decide_eq_false (by omega)
              have ks2 : decide (n < s.size) = false := decide_eq_false hns
              clear HB1
              cases bb with
              | true =>
                have HA2 := Lib.hid (HA.out.1 rfl)
                clear HA
                go_wp2_with fail
                go_quiet (fail)
                have HWN := Lib.hid (show w4.drewN (q2 + nq) = wi.drewN nq by rw [← HWI.out, World.drewN_drewN])
                replace d1 : (wi.drewN nq).cell? ⟨bS, i, none⟩ = some (.string s) := d1
                replace d2 : (wi.drewN nq).cell? ⟨g, i, none⟩ = some (.string o) := d2
                replace d3 : (wi.drewN nq).cell? ⟨bS, k, none⟩ = some (.string y) := d3
                obtain ⟨q3, hq3⟩ : ∃ q3, q2 + nq = q3 := ⟨_, rfl⟩
                rw [hq3] at HWN
                clear hq3
                generalize wi.drewN nq = wj at *
                go_wp2_with fail
                go_quiet (fail)
                go_wp2_with fail
                go_roundw
                case rel => exact ⟨k + 1, q3 + nq, true, by omega, rfl, by go_num, by rw [← World.drewN_drewN, HWN.out], Lib.hid (shr_up2 HA2.out)⟩
                case measure => simp [intOf]; omega
              | false =>
                by_cases hn0 : 0 < n
                · have kn : decide ((n : Int) > 0) = true := decide_eq_true (by omega)
                  have kn2 : decide (0 < n) = true := decide_eq_true hn0
                  have kw : IntKind.i64.wrap ((n : Int) - 1) = ((n - 1 : Nat) : Int) := by rw [IntWalk.i64_in _ (by omega)]; omega
                  have kz : 0 ≤ (n : Int) - 1 := by omega
                  have HR2 := Lib.hid (HK1.out v HA.out (by rw [decide_eq_true hn0, Bool.true_and]))
                  go_wp2_with fail
                  go_quiet (fail)
                  have HWN := Lib.hid (show w4.drewN (q2 + nq) = wi.drewN nq by rw [← HWI.out, World.drewN_drewN])
                  replace d1 : (wi.drewN nq).cell? ⟨bS, i, none⟩ = some (.string s) := d1
                  replace d2 : (wi.drewN nq).cell? ⟨g, i, none⟩ = some (.string o) := d2
                  replace d3 : (wi.drewN nq).cell? ⟨bS, k, none⟩ = some (.string y) := d3
                  obtain ⟨q3, hq3⟩ : ∃ q3, q2 + nq = q3 := ⟨_, rfl⟩
                  rw [hq3] at HWN
                  clear hq3
                  generalize wi.drewN nq = wj at *
                  go_wp2_with fail
                  go_quiet ((first | (go_at_call 42; with_reducible exact quietS (HB2.out _))))
                  go_wp2_with fail
                  go_roundw
                  case rel => exact ⟨k + 1, q3 + nq, v, by omega, rfl, by go_num, by rw [← World.drewN_drewN, HWN.out], Lib.hid (HR2.out)⟩
                  case measure => simp [intOf]; omega
                · have kn : decide ((n : Int) > 0) = false := decide_eq_false (by omega)
                  have kn2 : decide (0 < n) = false := decide_eq_false hn0
                  have HR2 := Lib.hid (HK1.out false HA.out (by rw [decide_eq_false hn0, Bool.false_and]))
                  go_wp2_with fail
                  go_quiet (fail)
                  have HWN := Lib.hid (show w4.drewN (q2 + nq) = wi.drewN nq by rw [← HWI.out, World.drewN_drewN])
                  replace d1 : (wi.drewN nq).cell? ⟨bS, i, none⟩ = some (.string s) := d1
                  replace d2 : (wi.drewN nq).cell? ⟨g, i, none⟩ = some (.string o) := d2
                  replace d3 : (wi.drewN nq).cell? ⟨bS, k, none⟩ = some (.string y) := d3
                  obtain ⟨q3, hq3⟩ : ∃ q3, q2 + nq = q3 := ⟨_, rfl⟩
                  rw [hq3] at HWN
                  clear hq3
                  generalize wi.drewN nq = wj at *
                  go_wp2_with fail
                  go_quiet (fail)
                  go_wp2_with fail
                  go_roundw
                  case rel => exact ⟨k + 1, q3 + nq, false, by omega, rfl, by go_num, by rw [← World.drewN_drewN, HWN.out], Lib.hid (HR2.out)⟩
                  case measure => simp [intOf]; omega
        · obtain rfl : k = m := by omega
          have l3 : ¬ (k : Int) < (k : Int) := by omega
          obtain ⟨wi, hwi⟩ : ∃ wi, w4.drewN q2 = wi := ⟨_, rfl⟩
          rw [hwi] at ⊢
          have HWI := Lib.hid hwi
          clear hwi
          by_cases hln : l < n
          · have kl : decide ((n : Int) > (l : Int)) = true := decide_eq_true (by omega)
            have kl2 : decide (n > l) = true := decide_eq_true (by omega)
            have kl3 : decide (l < n) = true := decide_eq_true (by omega)
            obtain rfl : bb = true := HA.out.2 (by have := HAL.out hln; rw [HM.out] at this; exact this)
            go_wp2_with fail
            go_roundw
            case rel => exact ⟨i + 1, q2, by omega, by go_num, HWI.out⟩
            case measure => simp [intOf]; omega
          · have kl : decide ((n : Int) > (l : Int)) = false := decide_eq_false (by omega)
            have kl2 : decide (n > l) = false := decide_eq_false (by omega)
            have kl3 : decide (l < n) = false := decide_eq_false (by omega)
            go_wp2_with fail
            go_roundw
            case rel => exact ⟨i + 1, q2, by omega, by go_num, HWI.out⟩
            case measure => simp [intOf]; omega
    · have l2 : ¬ (i : Int) < (m : Int) := by omega
      have HBq := Lib.hid (bel_drewN HB4.out q)
      generalize w4.drewN q = wq at *
      go_wp2
      go_ret
      exact ⟨rfl, HBq.out⟩
end Go.Proofs.YtcfhmbbkkadnfaaDoor
