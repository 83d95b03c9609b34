/- The law of blocks within each other: for every number and source. -/
import Derived.Test.YtepigooldelgnaaDoorPrl
import Derived.Test.YtepigooldelgnaaDoorNesP
set_option linter.unusedSimpArgs false
set_option linter.unusedVariables false
namespace Go.Proofs.YtepigooldelgnaaDoor
open Go.RowKit

theorem opn_app : ∀ (n : Nat) (X : List UInt8), opn n X = opn n [] ++ X
  | 0, X => rfl
  | n + 1, X => by rw [opn, opn, opn_app n X]; simp
theorem opn_snoc : ∀ (n : Nat), opn (n + 1) [] = opn n [] ++ [97, 123]
  | 0 => rfl
  | n + 1 => by
    have ih := opn_snoc n
    show 97 :: 123 :: opn (n + 1) [] = (97 :: 123 :: opn n []) ++ [97, 123]
    rw [ih]
    simp
def nesS (n k : Nat) (s : ByteArray) : ByteArray := bs (opn n (s.data.toList ++ 10 :: List.replicate k 125))
theorem nesS_list (n k : Nat) (s : ByteArray) : (nesS n k s).data.toList = opn n (s.data.toList ++ 10 :: List.replicate k 125) := bs_data _
theorem nesS_zero (n : Nat) (s : ByteArray) : bs (opn n []) ++ (s ++ ⟨#[10]⟩) = nesS n 0 s := by
  apply bs_inj
  rw [nesS_list, opn_app n (s.data.toList ++ 10 :: List.replicate 0 125)]
  unfold bs
  simp
theorem nesS_succ (n k : Nat) (s : ByteArray) : nesS n k s ++ ⟨#[125]⟩ = nesS n (k + 1) s := by
  apply bs_inj
  rw [nesS_list, opn_app n (s.data.toList ++ 10 :: List.replicate (k + 1) 125), List.replicate_succ']
  unfold nesS bs
  rw [opn_app n (s.data.toList ++ 10 :: List.replicate k 125)]
  simp
theorem opnS_succ (k : Nat) : bs (opn k []) ++ ⟨#[97, 123]⟩ = bs (opn (k + 1) []) := by
  apply bs_inj
  rw [bs_data, opn_snoc]
  unfold bs
  simp
theorem nesS_size (n k : Nat) (s : ByteArray) : (nesS n k s).size = 2 * n + (s.size + (k + 1)) := by
  unfold nesS
  rw [bs_size, opn_len, List.length_append, List.length_cons, List.length_replicate, list_size]
set_option maxHeartbeats 8000000 in
set_option maxRecDepth 100000 in
theorem nests_walk (n : Int) (s : ByteArray) (hn1 : -9223372036854775808 ≤ n) (hn2 : n ≤ 9223372036854775807) (hs : s.size ≤ 9223372036854775807) (w : World) (hT : Tabs w) : Calls Tryd.prog 6 #[.int .i64 n, .string s] w fun e w' => e = .returned (.bool true) ∧ Below w.heap.size w w' := by
  have HA := Lib.hid (awake_any w hT)
  have HT := Lib.hid hT
  clear hT
  by_cases h1 : n < 0
  · have k1 : decide (n < 0) = true := decide_eq_true h1
    go_enter Tryd.func6, Tryd.ntmps6
    go_wp2_with fail
    refine HA.out.mono ?_
    rintro e w1 ⟨rfl, hb1⟩
    go_wp2_with fail
    go_ret
    exact ⟨rfl, hb1⟩
  by_cases h2 : 20 < n
  · have k1 : decide (n < 0) = false := decide_eq_false h1
    have k2 : decide (n > 20) = true := decide_eq_true h2
    go_enter Tryd.func6, Tryd.ntmps6
    go_wp2_with fail
    refine HA.out.mono ?_
    rintro e w1 ⟨rfl, hb1⟩
    go_wp2_with fail
    go_ret
    exact ⟨rfl, hb1⟩
  by_cases h3 : 200 < s.size
  · have k1 : decide (n < 0) = false := decide_eq_false h1
    have k2 : decide (n > 20) = false := decide_eq_false h2
    have k3 : decide ((s.size : Int) > 200) = true := decide_eq_true (by omega)
    go_enter Tryd.func6, Tryd.ntmps6
    go_wp2_with fail
    refine HA.out.mono ?_
    rintro e w1 ⟨rfl, hb1⟩
    go_wp2_with fail
    go_ret
    exact ⟨rfl, hb1⟩
  obtain ⟨N, rfl⟩ : ∃ N : Nat, n = (N : Int) := ⟨n.toNat, by omega⟩
  have hN : N ≤ 20 := by omega
  have hs2 : s.size ≤ 200 := by omega
  have k1 : decide ((N : Int) < 0) = false := decide_eq_false h1
  have k2 : decide ((N : Int) > 20) = false := decide_eq_false h2
  have k3 : decide ((s.size : Int) > 200) = false := decide_eq_false (by omega)
  clear h1 h2 h3 hn1 hn2 hs
  have HP := Lib.hid (fun W hW => parl_any s W hW)
  have HBAD := Lib.hid (@parS_bad s)
  have HGOOD := Lib.hid (@parS_good s)
  have HCNT := Lib.hid (parS_count s)
  have HNE := Lib.hid (fun (ha : (parS s).2.1 = 0) => parS_nest N s (nesS N N s) (nesS_list N N s) (by rw [nesS_size]; omega) ha)
  have HPN := Lib.hid (fun W hW => parl_any (nesS N N s) W hW)
  have HBN := Lib.hid (@parS_bad (nesS N N s))
  have HGN := Lib.hid (@parS_good (nesS N N s))
  have HCN := Lib.hid (parS_count (nesS N N s))
  generalize parS (nesS N N s) = Q at *
  generalize parS s = P at *
  obtain ⟨c, pc, pa⟩ := P
  obtain ⟨d, qc, qa⟩ := Q
  unfold PrlPost fV at HP HPN
  simp only at HP HPN HBAD HGOOD HCNT HNE HBN HGN HCN
  go_enter Tryd.func6, Tryd.ntmps6
  go_wp2_with fail
  refine HA.out.mono ?_
  rintro e w1 ⟨rfl, hb1⟩
  have HB1 := Lib.hid hb1
  have HT1 := Lib.hid (HT.out.below hb1)
  clear hb1 HA
  go_wp2_with fail
  refine (HP.out _ HT1.out).mono ?_
  rintro e w2 ⟨a2, b2, cap2, rfl, _, hb2⟩
  have HB2 := Lib.hid (HB1.out.trans (Below.mono hb2 HB1.out.size))
  clear hb2 HB1
  have hs2w := HB2.out.size
  have HF2 := Lib.hid (ft_new w2 pc pa 26)
  have HB3 := Lib.hid (HB2.out.alloc (by omega) (.cells #[.int .i64 pc, .int .i64 pa] 26))
  obtain ⟨f0, f1, ff, fl⟩ := HF2.out
  by_cases hpc : pc = 0
  · subst hpc
    have hg := HGOOD.out rfl
    simp only [Prod.mk.injEq, true_and] at hg
    subst hg
    have HNE2 := Lib.hid (HNE.out rfl)
    clear HBAD HGOOD HNE
    have hb3w := HB3.out
    go_wp2_with fail
    clear f0 f1 ff fl
    refine (HP.out _ (HT.out.below HB3.out)).mono ?_
    rintro e w4 ⟨a4, b4, cap4, rfl, sl4, hb4⟩
    have HB4 := Lib.hid (HB3.out.trans (Below.mono hb4 HB3.out.size))
    have HM := Lib.hid (SlC.mono (G := fun y => y < w4.heap.size) (fun y hy => hy.2) sl4)
    clear sl4 hb4 HB3 HB2 hb3w HF2
    have hs4w := HB4.out.size
    have HB5 := Lib.hid (HB4.out.alloc (by omega) (.cells #[.int .i64 0, .int .i64 0] 26))
    have HW5 := Lib.hid ((Below.refl w4.heap.size w4).alloc (Nat.le_refl _) (.cells #[.int .i64 0, .int .i64 0] 26))
    go_wp2_with fail
    generalize w4.alloc (.cells #[.int .i64 0, .int .i64 0] 26) = w5 at *
    go_loopw [9, 10] (fun s9 s10 wr => ∃ k : Nat, k ≤ N ∧ s10 = .int .i64 (k : Int) ∧ s9 = .string (bs (opn k [])) ∧ w5 = wr) (fun _ s10 _ => (N - (intOf s10)).toNat)
    case atStart => exact ⟨0, Nat.zero_le _, rfl, rfl, rfl⟩
    case round =>
      obtain ⟨k, hk, rfl, rfl, rfl⟩ := hrel
      by_cases hlt : k < N
      · have hl : (k : Int) < (N : Int) := by omega
        have HSU := Lib.hid (opnS_succ k)
        have hsz : (bs (opn k [])).size ≤ 40 := by rw [bs_size, opn_len]; simp; omega
        generalize bs (opn k []) = S at *
        go_wp2_with fail
        go_roundw
        case rel => exact ⟨k + 1, by omega, by go_num, by rw [HSU.out], by simp⟩
        case measure => simp [intOf]; omega
      · have hl : ¬ (k : Int) < (N : Int) := by omega
        obtain rfl : k = N := by omega
        have HZE := Lib.hid (nesS_zero k s)
        have HSS := Lib.hid (fun j => nesS_succ k j s)
        have hsz : (bs (opn k [])).size ≤ 40 := by rw [bs_size, opn_len]; simp; omega
        generalize bs (opn k []) = S at *
        go_wp2_with fail
        rw [HZE.out]
        clear hsz HZE
        go_loopw [9, 11] (fun s9 s11 wr => ∃ j : Nat, j ≤ k ∧ s11 = .int .i64 (j : Int) ∧ s9 = .string (nesS k j s) ∧ w5 = wr) (fun _ s11 _ => (k - (intOf s11)).toNat)
        case atStart => exact ⟨0, Nat.zero_le _, rfl, rfl, rfl⟩
        case round =>
          obtain ⟨j, hj, rfl, rfl, rfl⟩ := hrel
          have hsz := nesS_size k j s
          by_cases hlt : j < k
          · have hl : (j : Int) < (k : Int) := by omega
            have HSU := Lib.hid (HSS.out j)
            generalize nesS k j s = S2 at *
            go_wp2_with fail
            go_roundw
            case rel => exact ⟨j + 1, by omega, by go_num, by rw [HSU.out], by simp⟩
            case measure => simp [intOf]; omega
          · have hl : ¬ (j : Int) < (k : Int) := by omega
            obtain rfl : j = k := by omega
            clear HSS
            generalize nesS j j s = S2 at *
            go_wp2_with fail
            refine (HPN.out _ (HT.out.below HB5.out)).mono ?_
            rintro e w6 ⟨a6, b6, cap6, rfl, sl6, hb6⟩
            have HB6 := Lib.hid (HB5.out.trans (Below.mono hb6 HB5.out.size))
            have HW6 := Lib.hid (HW5.out.trans (Below.mono hb6 HW5.out.size))
            have HL := Lib.hid (SlC.mono (G := fun y => y < w6.heap.size) (fun y hy => hy.2) sl6)
            clear sl6 hb6 HB5 HW5
            have hs6w := HB6.out.size
            have hs6v := HW6.out.size
            have HF6 := Lib.hid (ft_new w6 qc qa 26)
            have HB7 := Lib.hid (HB6.out.alloc (by omega) (.cells #[.int .i64 qc, .int .i64 qa] 26))
            have HW7 := Lib.hid (HW6.out.alloc (by omega) (.cells #[.int .i64 qc, .int .i64 qa] 26))
            have HX7 := Lib.hid ((Below.refl w6.heap.size w6).alloc (Nat.le_refl _) (.cells #[.int .i64 qc, .int .i64 qa] 26))
            clear HB6 HW6
            have HDM := Lib.hid (fun W (h : SlC W (fun y => y < w4.heap.size) a4 b4 0 c.len cap4 c) => depth_any (c.count + 1) (by have := HCNT.out; omega) c (Nat.lt_succ_self _) W _ a4 b4 0 cap4 h)
            have HCM := Lib.hid (fun W (h : SlC W (fun y => y < w4.heap.size) a4 b4 0 c.len cap4 c) => count_any (c.count + 1) (by have := HCNT.out; omega) c (Nat.lt_succ_self _) W _ a4 b4 0 cap4 h)
            have HDL := Lib.hid (fun W (h : SlC W (fun y => y < w6.heap.size) a6 b6 0 d.len cap6 d) => depth_any (d.count + 1) (by have := HCN.out; omega) d (Nat.lt_succ_self _) W _ a6 b6 0 cap6 h)
            have HCL := Lib.hid (fun W (h : SlC W (fun y => y < w6.heap.size) a6 b6 0 d.len cap6 d) => count_any (d.count + 1) (by have := HCN.out; omega) d (Nat.lt_succ_self _) W _ a6 b6 0 cap6 h)
            have hcc := HCNT.out
            have hcd := HCN.out
            have hdc := depth_count c
            have hdd := depth_count d
            obtain ⟨n1, n2, n3⟩ := HNE2.out
            obtain ⟨f0, f1, ff, fl⟩ := HF6.out
            by_cases h8 : 8 < j
            · have k8 : decide ((j : Int) > 8) = true := decide_eq_true (by omega)
              have hq := n1 h8
              simp only [Prod.mk.injEq] at hq
              obtain ⟨rfl, rfl, rfl⟩ := hq
              clear n1 n2 n3 HNE2 HDM HCM HDL HCL
              go_wp2_with fail
              go_ret
              exact ⟨by first | rfl | (simp [Cls.len]; done), HB7.out⟩
            · have k8 : decide ((j : Int) > 8) = false := decide_eq_false (by omega)
              generalize c.depth = dc at *
              generalize c.count = cc at *
              generalize d.depth = dd at *
              generalize d.count = cd at *
              go_wp2_with fail
              clear f0 f1 ff fl
              refine (HDM.out _ (HM.out.low (fun x hx => hx) HW7.out)).mono ?_
              rintro e w8 ⟨rfl, hb8⟩
              have HB8 := Lib.hid (HB7.out.trans (Below.mono hb8 HB7.out.size))
              have HW8 := Lib.hid (HW7.out.trans (Below.mono hb8 HW7.out.size))
              have HX8 := Lib.hid (HX7.out.trans (Below.mono hb8 HX7.out.size))
              obtain ⟨f0, f1, ff, fl⟩ := HF6.out.keep hb8
              have HF8 := Lib.hid (HF6.out.keep hb8)
              clear hb8 HB7 HW7 HX7 HF6
              by_cases hd8 : 8 < j + dc
              · have kd : decide ((j : Int) + (dc : Int) > 8) = true := decide_eq_true (by omega)
                have hq := n2 hd8
                subst hq
                clear n1 n2 n3 HNE2 HCM HDL HCL
                go_wp2_with fail
                go_ret
                exact ⟨rfl, HB8.out⟩
              · have kd : decide ((j : Int) + (dc : Int) > 8) = false := decide_eq_false (by omega)
                obtain ⟨q1, q2, q3⟩ := n3 (by omega)
                simp only [Prod.mk.injEq] at q1
                obtain ⟨rfl, rfl⟩ := q1
                clear n1 n2 n3 HNE2
                go_wp2_with fail
                clear f0 f1 ff fl
                refine (HDL.out _ (HL.out.low (fun x hx => hx) HX8.out)).mono ?_
                rintro e w9 ⟨rfl, hb9⟩
                have HB9 := Lib.hid (HB8.out.trans (Below.mono hb9 HB8.out.size))
                have HW9 := Lib.hid (HW8.out.trans (Below.mono hb9 HW8.out.size))
                have HX9 := Lib.hid (HX8.out.trans (Below.mono hb9 HX8.out.size))
                clear hb9 HB8 HW8 HX8
                go_wp2_with fail
                refine (HDM.out _ (HM.out.low (fun x hx => hx) HW9.out)).mono ?_
                rintro e w10 ⟨rfl, hb10⟩
                have HB10 := Lib.hid (HB9.out.trans (Below.mono hb10 HB9.out.size))
                have HW10 := Lib.hid (HW9.out.trans (Below.mono hb10 HW9.out.size))
                have HX10 := Lib.hid (HX9.out.trans (Below.mono hb10 HX9.out.size))
                clear hb10 HB9 HW9 HX9
                have e1 : ((dd : Int) == (j : Int) + (dc : Int)) = true := by simp; omega
                have e2 : ((cd : Int) == (j : Int) + (cc : Int)) = true := by simp; omega
                subst q2 q3
                go_wp2_with fail
                refine (HCL.out _ (HL.out.low (fun x hx => hx) HX10.out)).mono ?_
                rintro e w11 ⟨rfl, hb11⟩
                have HB11 := Lib.hid (HB10.out.trans (Below.mono hb11 HB10.out.size))
                have HW11 := Lib.hid (HW10.out.trans (Below.mono hb11 HW10.out.size))
                clear hb11 HB10 HW10 HX10
                go_wp2_with fail
                refine (HCM.out _ (HM.out.low (fun x hx => hx) HW11.out)).mono ?_
                rintro e w12 ⟨rfl, hb12⟩
                have HB12 := Lib.hid (HB11.out.trans (Below.mono hb12 HB11.out.size))
                clear hb12 HB11 HW11
                go_wp2_with fail
                go_ret
                exact ⟨by first | rfl | (simp; done), HB12.out⟩
  · have hpb : (pc == 0) = false := by simpa using hpc
    have hpn : (pc != 0) = true := by simpa using hpc
    have hbw := HB3.out
    go_wp2_with fail
    go_ret
    exact ⟨rfl, HB3.out⟩
end Go.Proofs.YtepigooldelgnaaDoor
