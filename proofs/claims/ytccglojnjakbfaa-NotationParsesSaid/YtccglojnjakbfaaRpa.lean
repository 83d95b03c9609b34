/- The reference's Parse. -/
import Derived.Test.YtccglojnjakbfaaRit
set_option linter.unusedSimpArgs false
set_option linter.unusedVariables false
namespace Go.Proofs.Ytccglojnjakbfaa
open Go.RowKit

theorem ritP_ok {L : List UInt8} {p n : Nat} (h : (itemP L p n).1 = 0) (hj : isAt 43 L (itemP L p n).2.2 = true) : ritP L p n = (⟨(itemP L p n).2.1.c, (itemP L p n).2.1.d, (itemP L p n).2.1.r, (itemP L p n).2.1.v, true⟩, (((itemP L p n).2.2 + 1 : Nat) : Int), 0, 0) := by
  unfold ritP; rw [if_pos h, if_pos hj]
theorem ritP_end {L : List UInt8} {p n : Nat} (h : (itemP L p n).1 = 0) (hj : isAt 43 L (itemP L p n).2.2 = false) : ritP L p n = ((itemP L p n).2.1, ((itemP L p n).2.2 : Int), 0, 0) := by
  unfold ritP; rw [if_pos h, if_neg (by rw [hj]; simp)]
theorem ritP_no {L : List UInt8} {p n : Nat} (h : (itemP L p n).1 ≠ 0) : ritP L p n = (It.zero, 0, (itemP L p n).1, ((itemP L p n).2.2 : Int)) := by
  unfold ritP; rw [if_neg h]
/-- one step of a chain, as the reference goes: an item, the place behind it and its sign, is it joined -/
theorem chn_step (s : ByteArray) (k : Nat) (ac : List It) (T : Int × List It × Nat) (hk : k ≤ s.size) (hac : ac.length ≤ 30) (h : chnP s.data.toList (s.size - k + 1) k ac = T) :
    (∃ (x : It) (q : Nat), ritP s.data.toList k ac.length = (x, (q : Int), 0, 0) ∧ k < q ∧ q ≤ s.size ∧ ac.length + 1 ≤ 30 ∧ (if x.j = true then chnP s.data.toList (s.size - q + 1) q (ac ++ [x]) = T else (0, ac ++ [x], q) = T)) ∨
    (∃ (c : Int) (q : Nat), c ≠ 0 ∧ ritP s.data.toList k ac.length = (It.zero, 0, c, (q : Int)) ∧ T = (c, ac, q)) := by
  have hat := itemP_at s.data.toList k ac.length (by rw [list_size]; exact hk)
  have hmx := itemP_max s.data.toList k ac.length
  have hj := itemP_j s.data.toList k ac.length
  rw [chnP] at h
  by_cases h0 : (itemP s.data.toList k ac.length).1 = 0
  · rw [if_pos h0] at h
    left
    have h30 := hmx h0
    have hkq := hat.2.2 h0
    by_cases h43 : isAt 43 s.data.toList (itemP s.data.toList k ac.length).2.2 = true
    · rw [if_pos h43] at h
      have hlt := isAt_lt h43
      rw [list_size] at hlt
      refine ⟨_, _, ritP_ok h0 h43, by omega, by omega, by omega, ?_⟩
      rw [if_pos rfl, ← h]
      exact chnP_fuel _ _ _ _ _ (by rw [list_size]; omega) (by rw [list_size]; omega) (by rw [list_size]; omega)
    · rw [if_neg h43] at h
      refine ⟨_, _, ritP_end h0 (by simpa using h43), hkq, by have := hat.2.1; rw [list_size] at this; exact this, by omega, ?_⟩
      rw [if_neg (by rw [hj]; simp)]
      exact h
  · rw [if_neg h0] at h
    right
    exact ⟨_, _, h0, ritP_no h0, h.symm⟩
set_option maxHeartbeats 4000000 in
set_option maxRecDepth 100000 in
theorem rparse_any (s : ByteArray) (hs : s.size ≤ 1000000) (w : World) : Calls Try.prog 12 #[.string s] w (ParPost w (parP s.data.toList)) := by
  obtain ⟨iz, hi, hz0, hz1, hz2⟩ := info_parts infoX
  have HSL := Lib.hid (list_size s)
  obtain ⟨T, hT⟩ : ∃ T, redP s.data.toList (s.size + 1) 0 [] = T := ⟨_, rfl⟩
  have HT := Lib.hid (show redP s.data.toList (s.size - 0 + 1) 0 [] = T from hT)
  have HPA := Lib.hid (show parP s.data.toList = if T.1 = 0 then (T.2.1, 0, 0) else ([], T.1, (T.2.2 : Int)) by unfold parP; rw [list_size, hT])
  have HF0 := Lib.hid ((ft_new w 0 0 26).keep ((Below.refl _ _).alloc (Nat.le_refl _) (.cells #[] 49)))
  have HB0 := Lib.hid (show Below w.heap.size w ((w.alloc (.cells #[.int .i64 0, .int .i64 0] 26)).alloc (.cells #[] 49)) from (by repeat (first | with_reducible exact Below.refl _ _ | (with_reducible refine Below.setCell ?_ (by first | exact Nat.le_refl _ | omega | (simp; done) | (simp; omega)) _) | (with_reducible refine Below.alloc ?_ (by first | exact Nat.le_refl _ | omega | (simp; done) | (simp; omega)) _) | with_reducible refine Below.drew ?_ | with_reducible refine bel_drewN ?_ _ | (with_reducible refine bel_by (by with_reducible assumption) (by first | exact Nat.le_refl _ | omega | (simp; done) | (simp; omega)) ?_))))
  have HO0 := Lib.hid (show ((w.alloc (.cells #[.int .i64 0, .int .i64 0] 26)).alloc (.cells #[] 49)).ownsRow (w.heap.size + 1) 49 5 (.slice (some ⟨w.heap.size + 1, 0, none⟩) 0 0) 0 [] by
    have := World.ownsRow_made (e := 49) (size := 5) (base := w.heap.size + 1) (w.alloc (.cells #[.int .i64 0, .int .i64 0] 26)) #[] 0 (by simp) (Nat.zero_le _) rfl
    simpa using this)
  have HIT := Lib.hid (fun p n W (hp : p ≤ s.size) (hn : n ≤ 1000) => ritem_any s hs p n hp hn W)
  unfold RitPost at HIT
  clear hT
  go_enter Try.func12, Try.ntmps12
  go_wp2_with fail
  generalize ((w.alloc (.cells #[.int .i64 0, .int .i64 0] 26)).alloc (.cells #[] 49)) = V0 at *
  go_loopw [4, 5] (fun s4 s5 wr => ∃ (p : Nat) (ac : List It), p ≤ s.size ∧ s5 = .int .i64 (p : Int) ∧ ac.length ≤ 30 ∧ Hid (wr.ownsRow (w.heap.size + 1) 49 5 s4 ac.length (flatX ac)) ∧ Hid (FtAt wr w.heap.size 0 0) ∧ Hid (Below w.heap.size w wr) ∧ Hid (redP s.data.toList (s.size - p + 1) p ac = T)) (fun _ s5 _ => (s.size - (intOf s5)).toNat)
  case atStart => exact ⟨0, [], Nat.zero_le _, rfl, by simp, HO0, HF0, HB0, HT⟩
  case round =>
    obtain ⟨p, ac, hp, rfl, hac, HO, HF, HB, HE⟩ := hrel
    clear HT HO0 HF0 HB0
    obtain ⟨ao, cv, rfl⟩ := own_form HO.out
    have hpl : p ≤ s.data.toList.length := by rw [HSL.out]; exact hp
    have hle := runN_le blB s.data.toList p hpl
    rw [HSL.out] at hle
    have HY := Lib.hid (runN_yes blB s p)
    have HN := Lib.hid (runN_no blB s p)
    have hE := HE.out
    rw [redP, HSL.out] at hE
    obtain ⟨r, hr⟩ : ∃ r, p + runN blB s.data.toList p = r := ⟨_, rfl⟩
    rw [hr] at hE hle
    have HE2 := Lib.hid hE
    have HY2 := Lib.hid (show ∀ (k : Nat) (hk : k < s.size), p ≤ k → k < r → (((s[k]'hk).toNat : Int) == 32) = true from fun k hk h1 h2 => by rw [← eq32]; exact HY.out k hk h1 (by omega))
    have HN2 := Lib.hid (show ∀ h : r < s.size, (((s[r]'h).toNat : Int) == 32) = false by subst hr; intro h; rw [← eq32]; exact HN.out h)
    have hpr : p ≤ r := by omega
    clear hE HE hr HY HN hpl
    go_wp2_with fail
    go_loop [5] (fun s5 => ∃ k : Nat, p ≤ k ∧ k ≤ r ∧ s5 = .int .i64 (k : Int)) (fun s5 => (s.size - (intOf s5)).toNat)
    case atStart => exact ⟨p, Nat.le_refl _, hpr, rfl⟩
    case round =>
      obtain ⟨k, hpk, hk, rfl⟩ := hrel
      by_cases hkr : k < r
      · have hlt : k < s.size := by omega
        have hl : (k : Int) < (s.size : Int) := by omega
        have hq := HY2.out k hlt hpk hkr
        go_wp2_with fail
        go_round
        case rel => exact ⟨k + 1, by omega, by omega, by go_num⟩
        case measure => simp [intOf]; omega
      · obtain rfl : k = r := by omega
        clear HY2
        by_cases hlt : k < s.size
        · have hl : (k : Int) < (s.size : Int) := by omega
          have hq := HN2.out hlt
          have hkn : ((k : Int) == (s.size : Int)) = false := by simp; omega
          have hE3 := HE2.out
          rw [if_neg (by omega)] at hE3
          have hat := chnP_at s.data.toList (s.size + 1) k ac (by rw [HSL.out]; omega) (by rw [HSL.out]; omega)
          have hln := chnP_len s.data.toList (s.size + 1) k ac hac
          rw [HSL.out] at hat
          obtain ⟨T3, hT3⟩ : ∃ T3, chnP s.data.toList (s.size + 1) k ac = T3 := ⟨_, rfl⟩
          have HT3 := Lib.hid (show chnP s.data.toList (s.size - k + 1) k ac = T3 by
            rw [← hT3]; exact chnP_fuel _ _ _ _ _ (by rw [HSL.out]; omega) (by rw [HSL.out]; omega) (by rw [HSL.out]; omega))
          rw [hT3] at hE3 hat hln
          have HE3 := Lib.hid hE3
          have HAT := Lib.hid hat
          have HLN := Lib.hid hln
          clear hE3 hat hln hT3 HE2 HN2
          go_wp2_with fail
          go_loopw [4, 5, 6] (fun s4 s5 s6 w2 => ∃ (k' : Nat) (ac' : List It) (j : Bool), k' ≤ s.size ∧ s5 = .int .i64 (k' : Int) ∧ s6 = .bool j ∧ ac'.length ≤ 30 ∧ Hid (w2.ownsRow (w.heap.size + 1) 49 5 s4 ac'.length (flatX ac')) ∧ Hid (FtAt w2 w.heap.size 0 0) ∧ Hid (Below w.heap.size w w2) ∧ Hid (if j = true then chnP s.data.toList (s.size - k' + 1) k' ac' = T3 else (0, ac', k') = T3)) (fun _ s5 _ _ => (s.size + 1 - (intOf s5)).toNat)
          case atStart => exact ⟨k, ac, true, by omega, rfl, rfl, hac, HO, HF, HB, Lib.hid (by rw [if_pos rfl]; exact HT3.out)⟩
          case round =>
            obtain ⟨k', ac', j, hk', rfl, rfl, hac', HO2, HF2, HB2, HJ⟩ := hrel
            clear HT3 HO HF HB
            obtain ⟨ao', cv', rfl⟩ := own_form HO2.out
            cases j with
            | false =>
              have hT3 : T3 = (0, ac', k') := by have := HJ.out; rw [if_neg (by simp)] at this; exact this.symm
              have hE4 := HE3.out
              rw [hT3, if_pos rfl] at hE4
              have hkk := HAT.out.2.2 (by rw [hT3])
              rw [hT3] at hkk
              simp only at hkk hE4
              have HE4 := Lib.hid hE4
              clear hE4 hT3 HJ HE3
              by_cases hlt2 : k' < s.size
              · have hl2 : (k' : Int) < (s.size : Int) := by omega
                have HIA := Lib.hid (isAt_yes (c := 32) hlt2)
                by_cases h32 : s[k']'hlt2 = 32
                · have k32 : (((s[k']'hlt2).toNat : Int) == 32) = true := by rw [← eq32, h32]; rfl
                  have k32' : (((s[k']'hlt2).toNat : Int) != 32) = false := by unfold bne; rw [k32]; rfl
                  have HE5 := Lib.hid (show redP s.data.toList (s.size - k' + 1) k' ac' = T by
                    rw [← HE4.out, if_pos (Or.inr (by rw [HIA.out, h32]; rfl))]
                    exact redP_fuel _ _ _ _ _ (by rw [HSL.out]; omega) (by rw [HSL.out]; omega) (by rw [HSL.out]; omega))
                  go_wp2_with fail
                  go_roundw
                  case rel => exact ⟨k', ac', by omega, rfl, hac', HO2, HF2, HB2, HE5⟩
                  case measure => simp [intOf]; omega
                · have k32 : (((s[k']'hlt2).toNat : Int) == 32) = false := by rw [← eq32]; simpa using h32
                  have k32' : (((s[k']'hlt2).toNat : Int) != 32) = true := by unfold bne; rw [k32]; rfl
                  have HPE := Lib.hid (show parP s.data.toList = ([], 2, (k' : Int)) by
                    have h5 := HE4.out
                    rw [if_neg (by rw [HIA.out]; simp; exact ⟨by omega, h32⟩)] at h5
                    rw [HPA.out, ← h5, if_neg (by simp)])
                  obtain ⟨y0, y1, yf, yl⟩ := HF2.out
                  go_wp2_with fail
                  have hbw := HB2.out
                  refine bodyPost_ret (v := .tuple #[.slice none 0 0, fV 2 (k' : Int)]) (by simp [results, Try.results12, go_sem, fV, y0, y1, yf, yl]) rfl ?_
                  rw [HPE.out]
                  exact ⟨_, rfl, World.ownsRow_nil _ _ _ _, (by repeat (first | with_reducible exact Below.refl _ _ | (with_reducible refine Below.setCell ?_ (by first | exact Nat.le_refl _ | omega | (simp; done) | (simp; omega)) _) | (with_reducible refine Below.alloc ?_ (by first | exact Nat.le_refl _ | omega | (simp; done) | (simp; omega)) _) | with_reducible refine Below.drew ?_ | with_reducible refine bel_drewN ?_ _ | (with_reducible refine bel_by (by with_reducible assumption) (by first | exact Nat.le_refl _ | omega | (simp; done) | (simp; omega)) ?_)))⟩
              · obtain rfl : k' = s.size := by omega
                have hl2 : ¬ (s.size : Int) < (s.size : Int) := by omega
                have HE5 := Lib.hid (show redP s.data.toList (s.size - s.size + 1) s.size ac' = T by
                  rw [← HE4.out, if_pos (Or.inl rfl)]
                  exact redP_fuel _ _ _ _ _ (by rw [HSL.out]; omega) (by rw [HSL.out]; omega) (by rw [HSL.out]; omega))
                go_wp2_with fail
                go_roundw
                case rel => exact ⟨s.size, ac', by omega, rfl, hac', HO2, HF2, HB2, HE5⟩
                case measure => simp [intOf]; omega
            | true =>
              have hst := chn_step s k' ac' T3 hk' hac' (by have := HJ.out; rw [if_pos rfl] at this; exact this)
              have HI := Lib.hid (fun W => HIT.out k' ac'.length W hk' (by omega))
              clear HJ
              rcases hst with ⟨x, q, hrit, hkq, hqs, hn30, hnx⟩ | ⟨c, q, hc, hrit, hTT⟩
              · rw [hrit] at HI
                have HNX := Lib.hid hnx
                clear hrit hnx
                obtain ⟨xc, xd, xr, xv, xj⟩ := x
                unfold It.val fV at HI
                simp only at HI HNX
                go_wp2_with fail
                refine (HI.out _).mono ?_
                rintro e w3 ⟨rfl, hb3⟩
                have HV1 := Lib.hid (HO2.out |> fun h => (own_below h hb3).alloc (.cells #[.string xc, .int .i64 xd, .bool xr, .bool xv, .bool xj] 49) |>.alloc (.cells #[.int .i64 0, .int .i64 0] 26))
                have HV2 := Lib.hid (((HF2.out.keep hb3).keep ((Below.refl _ _).alloc (Nat.le_refl _) (.cells #[.string xc, .int .i64 xd, .bool xr, .bool xv, .bool xj] 49))).keep ((Below.refl _ _).alloc (Nat.le_refl _) (.cells #[.int .i64 0, .int .i64 0] 26)))
                have HV3 := Lib.hid (show Below w.heap.size w ((w3.alloc (.cells #[.string xc, .int .i64 xd, .bool xr, .bool xv, .bool xj] 49)).alloc (.cells #[.int .i64 0, .int .i64 0] 26)) from ((HB2.out.trans (hb3.mono HB2.out.size)).alloc (Nat.le_trans HB2.out.size hb3.size) _).alloc (by have := HB2.out.size; have := hb3.size; simp; omega) _)
                have HV4 := Lib.hid ((it_new w3 ⟨xc, xd, xr, xv, xj⟩ 49).keep ((Below.refl _ _).alloc (Nat.le_refl _) (.cells #[.int .i64 0, .int .i64 0] 26)))
                have HV5 := Lib.hid (show FtAt ((w3.alloc (.cells #[.string xc, .int .i64 xd, .bool xr, .bool xv, .bool xj] 49)).alloc (.cells #[.int .i64 0, .int .i64 0] 26)) (w3.heap.size + 1) 0 0 by
                  have := ft_new (w3.alloc (.cells #[.string xc, .int .i64 xd, .bool xr, .bool xv, .bool xj] 49)) 0 0 26
                  rwa [World.size_alloc] at this)
                have HOL := Lib.hid (show ∀ g, (Value.slice ao' ac'.length cv').ownBlock = some g → w.heap.size + 1 ≤ g ∧ g < w3.heap.size from fun g h => (own_below HO2.out hb3).lt g h)
                have hlw : w.heap.size < w3.heap.size := (HF2.out.keep hb3).lt
                have HO3 := Lib.hid (HV1.out.alloc (.cells #[.string xc, .int .i64 xd, .bool xr, .bool xv, .bool xj] 49))
                have HF3 := Lib.hid (HV2.out.keep ((Below.refl _ _).alloc (Nat.le_refl _) (.cells #[.string xc, .int .i64 xd, .bool xr, .bool xv, .bool xj] 49)))
                have HB3 := Lib.hid (HV3.out.alloc (show w.heap.size ≤ _ by simp; omega) (.cells #[.string xc, .int .i64 xd, .bool xr, .bool xv, .bool xj] 49))
                have HX3 := Lib.hid (HV4.out.keep ((Below.refl _ _).alloc (Nat.le_refl _) (.cells #[.string xc, .int .i64 xd, .bool xr, .bool xv, .bool xj] 49)))
                have hce := it_cells ((w3.alloc (.cells #[.string xc, .int .i64 xd, .bool xr, .bool xv, .bool xj] 49)).alloc (.cells #[.int .i64 0, .int .i64 0] 26)) ⟨xc, xd, xr, xv, xj⟩
                simp only [World.size_alloc] at hce
                have HCE := Lib.hid hce
                clear hb3 HO2 HF2 HB2 HI hce HV1 HV2 HV3 HV4 HV5
                go_wp2_with (at_builtin; go_loud (refine wpList_append_blk _ rfl _ _ 23 rfl (w.heap.size + 1) 49 iz (.agg #[.string ⟨#[]⟩, .int .i64 0, .bool false, .bool false, .bool false]) 5 32 Try.underlying23 hi hz0 hz1 hz2 rfl (by decide) _ _ _ rfl HO3.out ⟨w3.heap.size + 1 + 1, 0, none⟩ 1 1 (encX ⟨xc, xd, xr, xv, xj⟩) rfl rfl HCE.out ?n1 ?n2 ?n3 ?n4 (by decide) ?_))
                case n1 => exact encX_one _
                case n2 => unfold maxLen; omega
                case n3 => omega
                case n4 => simp; omega
                intro v' w7 ho hg hbk
                have HO7 := Lib.hid (show w7.ownsRow (w.heap.size + 1) 49 5 v' (ac' ++ [(⟨xc, xd, xr, xv, xj⟩ : It)]).length (flatX (ac' ++ [(⟨xc, xd, xr, xv, xj⟩ : It)])) by rw [List.length_append, List.length_singleton, flatX_snoc]; exact ho)
                have HB7 := Lib.hid (HB3.out.grown hg (by simp; omega) (fun g h => by have := HOL.out g h; omega))
                have HF7 := Lib.hid (HF3.out.grown hg (fun e => by have := HOL.out _ e.symm; omega))
                have HX7 := Lib.hid (HX3.out.grown hg (fun e => by have := HOL.out _ e.symm; omega))
                clear ho hg hbk HO3 HF3 HB3 HX3 HCE HOL
                obtain ⟨z0, z1, z2, z3, z4, zf, zl⟩ := HX7.out
                simp only at z0 z1 z2 z3 z4
                go_wp2_with fail
                go_roundw
                case rel => exact ⟨q, ac' ++ [⟨xc, xd, xr, xv, xj⟩], xj, hqs, rfl, rfl, by rw [List.length_append, List.length_singleton]; omega, HO7, HF7, HB7, HNX⟩
                case measure => simp [intOf]; omega
              · rw [hrit] at HI
                have hE4 := HE3.out
                rw [hTT, if_neg hc] at hE4
                have HPE := Lib.hid (show parP s.data.toList = ([], c, (q : Int)) by rw [HPA.out, ← hE4, if_neg hc])
                have k0 : (c == 0) = false := by simpa using hc
                have k1 : (c != 0) = true := by simpa using hc
                clear hrit hTT hE4 hc
                unfold It.zero It.val fV at HI
                simp only at HI
                go_wp2_with fail
                refine (HI.out _).mono ?_
                rintro e w3 ⟨rfl, hb3⟩
                have hlw : w.heap.size < w3.heap.size := (HF2.out.keep hb3).lt
                have HV2 := Lib.hid (((HF2.out.keep hb3).keep ((Below.refl _ _).alloc (Nat.le_refl _) (.cells #[.string ⟨#[]⟩, .int .i64 0, .bool false, .bool false, .bool false] 49))).keep ((Below.refl _ _).alloc (Nat.le_refl _) (.cells #[.int .i64 c, .int .i64 (q : Int)] 26)))
                have HV3 := Lib.hid (show Below w.heap.size w ((w3.alloc (.cells #[.string ⟨#[]⟩, .int .i64 0, .bool false, .bool false, .bool false] 49)).alloc (.cells #[.int .i64 c, .int .i64 (q : Int)] 26)) from ((HB2.out.trans (hb3.mono HB2.out.size)).alloc (Nat.le_trans HB2.out.size hb3.size) _).alloc (by have := HB2.out.size; have := hb3.size; simp; omega) _)
                have HV5 := Lib.hid (show FtAt ((w3.alloc (.cells #[.string ⟨#[]⟩, .int .i64 0, .bool false, .bool false, .bool false] 49)).alloc (.cells #[.int .i64 c, .int .i64 (q : Int)] 26)) (w3.heap.size + 1) c q by
                  have := ft_new (w3.alloc (.cells #[.string ⟨#[]⟩, .int .i64 0, .bool false, .bool false, .bool false] 49)) c q 26
                  rwa [World.size_alloc] at this)
                clear hb3 HO2 HF2 HB2 HI
                obtain ⟨y0, y1, yf, yl⟩ := HV2.out
                obtain ⟨x0, x1, xf, xl⟩ := HV5.out
                go_wp2_with fail
                generalize ((w3.alloc (.cells #[.string ⟨#[]⟩, .int .i64 0, .bool false, .bool false, .bool false] 49)).alloc (.cells #[.int .i64 c, .int .i64 (q : Int)] 26)) = V at *
                have hne : w.heap.size ≠ w3.heap.size + 1 := by omega
                go_region
                all_goals
                  go_wp2_with fail
                  have hbw := HV3.out
                  refine bodyPost_ret (v := .tuple #[.slice none 0 0, fV c (q : Int)]) (by simp [results, Try.results12, go_sem, fV, y0, y1, yf, yl]) rfl ?_
                  rw [HPE.out]
                  exact ⟨_, rfl, World.ownsRow_nil _ _ _ _, hbw.trans (show Below w.heap.size V _ from by
                    first
                      | exact ((Below.refl _ _).drew.setCell (p := ⟨w.heap.size, 0, none⟩) (Nat.le_refl _) _).setCell (p := ⟨w.heap.size, 1, none⟩) (Nat.le_refl _) _
                      | exact (((Below.refl _ _).setCell (p := ⟨w.heap.size, 0, none⟩) (Nat.le_refl _) _).setCell (p := ⟨w.heap.size, 1, none⟩) (Nat.le_refl _) _).drew)⟩
        · obtain rfl : k = s.size := by omega
          have hl : ¬ (s.size : Int) < (s.size : Int) := by omega
          have hkn : ((s.size : Int) == (s.size : Int)) = true := by simp
          have HPE := Lib.hid (show parP s.data.toList = (ac, 0, 0) by
            have := HE2.out
            rw [if_pos rfl] at this
            rw [HPA.out, ← this, if_pos rfl])
          obtain ⟨y0, y1, yf, yl⟩ := HF.out
          go_wp2_with fail
          have hbw := HB.out
          refine bodyPost_ret (v := .tuple #[.slice ao ac.length cv, fV 0 0]) (by simp [results, Try.results12, go_sem, fV, y0, y1, yf, yl]) rfl ?_
          rw [HPE.out]
          exact ⟨_, rfl, own_low (ownsRow_setCell_below (ownsRow_setCell_below HO.out (Nat.lt_succ_self _) _) (Nat.lt_succ_self _) _) (Nat.le_succ _), (by repeat (first | with_reducible exact Below.refl _ _ | (with_reducible refine Below.setCell ?_ (by first | exact Nat.le_refl _ | omega | (simp; done) | (simp; omega)) _) | (with_reducible refine Below.alloc ?_ (by first | exact Nat.le_refl _ | omega | (simp; done) | (simp; omega)) _) | with_reducible refine Below.drew ?_ | with_reducible refine bel_drewN ?_ _ | (with_reducible refine bel_by (by with_reducible assumption) (by first | exact Nat.le_refl _ | omega | (simp; done) | (simp; omega)) ?_)))⟩
end Go.Proofs.Ytccglojnjakbfaa
