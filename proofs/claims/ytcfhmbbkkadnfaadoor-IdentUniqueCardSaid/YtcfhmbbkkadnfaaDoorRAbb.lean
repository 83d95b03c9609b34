/- Contract of layer 4: the reference's Abbreviation. -/
import Derived.Test.YtcfhmbbkkadnfaaDoorSmall
import Derived.Test.YtcfhmbbkkadnfaaDoorAbbP
import Derived.Test.YtcfhmbbkkadnfaaDoorRNatural
set_option linter.unusedSimpArgs false
set_option linter.unusedVariables false
namespace Go.Proofs.YtcfhmbbkkadnfaaDoor
open Go.RowKit

theorem begB_iff (x s : ByteArray) (n : Nat) (hn : n ≤ s.size) : begB x (s.extract 0 n) = decide (n ≤ cpl x s) := beg_iff x s n hn
theorem alone_step {L : List ByteArray} {i n k : Nat} {b v : Bool} (hb : b = true ↔ Alone L i n k) (hk : k < L.length) (hne : k ≠ i) (hv : decide (n ≤ cpl (L[k]'hk) (L.getD i ⟨#[]⟩)) = v) : ((b && !v) = true ↔ Alone L i n (k + 1)) := by
  rw [Bool.and_eq_true, hb]
  constructor
  · rintro ⟨h1, h2⟩ j hj hjk hji
    by_cases e : j = k
    · subst e
      rw [← hv] at h2
      simpa using h2
    · exact h1 j hj (by omega) hji
  · intro h
    refine ⟨fun j hj hjk hji => h j hj (by omega) hji, ?_⟩
    have := h k hk (by omega) hne
    rw [← hv]
    simpa using this
theorem alone_skip {L : List ByteArray} {i n : Nat} {b : Bool} (hb : b = true ↔ Alone L i n i) : (b = true ↔ Alone L i n (i + 1)) := by
  rw [hb]
  constructor
  · intro h j hj hjk hji
    exact h j hj (by omega) hji
  · intro h j hj hjk hji
    exact h j hj (by omega) hji

theorem alone_skip2 {L : List ByteArray} {i n k : Nat} (e : k = i) (hb : Alone L i n k) : (true = true ↔ Alone L i n (k + 1)) := by
  subst e
  exact alone_skip (by simpa using hb)
theorem alone_down {L : List ByteArray} {i n k : Nat} (hb : false = true ↔ Alone L i n k) : (false = true ↔ Alone L i n (k + 1)) :=
  ⟨fun h => absurd h (by simp), fun h => hb.2 (fun j hj hjk hji => h j hj (by omega) hji)⟩
set_option maxHeartbeats 2000000 in
set_option maxRecDepth 100000 in
theorem rabb_any {a : Option Addr} {b off len cap : Nat} {L : List ByteArray} {w : World} (h : SlS w a b off len cap L) (hsz : ∀ x ∈ L, x.size ≤ 1500) (hs : srtL L = true) (i least : Nat) (hi : i < len) (h1 : 1 ≤ least) (h2 : least ≤ 9223372036854775807) :
    Calls Tryd.prog 41 #[.slice a len cap, .int .i64 (i : Int), .int .i64 (least : Int)] w fun e w' => e = .returned (.string (abbAt L (least : Int) i)) ∧ ∃ n, w' = w.drewN n := by
  have h0 : 0 < len := by omega
  obtain rfl := h.ha h0
  have hmax := h.hmax
  have hcap := h.hcap
  unfold maxLen at hmax
  have HL := Lib.hid h.hl
  have hiL : i < L.length := by rw [h.hl]; exact hi
  have ci : ∀ n, (w.drewN n).cell? ⟨b, off + i, none⟩ = some (.string (L.getD i ⟨#[]⟩)) := fun n => by rw [getD_in L i hiL]; exact h.cell i hiL
  have hiz : (L.getD i ⟨#[]⟩).size ≤ 1500 := by rw [getD_in L i hiL]; exact hsz _ (List.getElem_mem hiL)
  have HCI := Lib.hid ci
  have HCK := Lib.hid (fun (n k : Nat) (hk : k < L.length) => (show (w.drewN n).cell? ⟨b, off + k, none⟩ = some (.string (L[k]'hk)) from h.cell k hk))
  have HKZ := Lib.hid (fun (k : Nat) (hk : k < L.length) => hsz _ (List.getElem_mem hk))
  have HAL := Lib.hid (fun (n : Nat) (hn : least ≤ n) => alone_iff hs (i := i) (n := n) (least := least) hiL hn (by omega))
  have HAB := Lib.hid (abb_need L least i)
  have HBG := Lib.hid (fun (n k : Nat) (hk : k < L.length) (hn : n ≤ (L.getD i ⟨#[]⟩).size) => begB_iff (L[k]'hk) (L.getD i ⟨#[]⟩) n hn)
  have HST := Lib.hid (fun (n k : Nat) (bb v : Bool) (hb : bb = true ↔ Alone L i n k) (hk : k < L.length) (hne : k ≠ i) (hv : decide (n ≤ cpl (L[k]'hk) (L.getD i ⟨#[]⟩)) = v) => alone_step hb hk hne hv)
  have hM : least ≤ needN L least i := by unfold needN; omega
  clear hsz hs h ci
  obtain ⟨M, hMM⟩ : ∃ M, needN L least i = M := ⟨_, rfl⟩
  rw [hMM] at HAL HAB hM
  clear hMM
  obtain ⟨s, hsd⟩ : ∃ s, L.getD i ⟨#[]⟩ = s := ⟨_, rfl⟩
  simp only [hsd] at HCI hiz HAB HBG HST
  obtain ⟨R, hR⟩ : ∃ R, abbAt L (least : Int) i = R := ⟨_, rfl⟩
  rw [hR] at HAB ⊢
  clear hR
  have HSD := Lib.hid hsd
  clear hsd
  go_enter Tryd.func41, Tryd.ntmps41
  go_wp2_with fail
  go_loopw [7] (fun s7 wr => ∃ (n m : Nat), least ≤ n ∧ n ≤ M ∧ s7 = .int .i64 (n : Int) ∧ w.drewN m = wr) (fun s7 _ => (s.size - (intOf s7)).toNat)
  case atStart => exact ⟨least, 0, Nat.le_refl _, hM, rfl, rfl⟩
  case round =>
    obtain ⟨n, m, hn, hnM, rfl, rfl⟩ := hrel
    have c1 := HCI.out m
    obtain ⟨wo, hwo⟩ : ∃ wo, w.drewN m = wo := ⟨_, rfl⟩
    rw [hwo] at c1 ⊢
    have HWO := Lib.hid hwo
    clear hwo
    by_cases hns : n < s.size
    · have l1 : (n : Int) < (s.size : Int) := by omega
      have ln : (n : Int) ≤ (s.size : Int) := by omega
      go_wp2_with fail
      go_loopw [8, 9] (fun s8 s9 wr => ∃ (k m2 : Nat) (bb : Bool), k ≤ len ∧ s8 = .bool bb ∧ s9 = .int .i64 (k : Int) ∧ w.drewN m2 = wr ∧ Hid (bb = true ↔ Alone L i n k)) (fun _ s9 _ => (len - (intOf s9)).toNat)
      case atStart => exact ⟨0, m, true, Nat.zero_le _, rfl, rfl, HWO.out, Lib.hid ⟨fun _ j hj hjk => absurd hjk (Nat.not_lt_zero j), fun _ => rfl⟩⟩
      case round =>
        obtain ⟨k, m2, bb, hk, rfl, rfl, rfl, HA⟩ := hrel
        by_cases hlt : k < len
        · have l2 : (k : Int) < (len : Int) := by omega
          have hkL : k < L.length := by rw [HL.out]; exact hlt
          have d1 := HCI.out m2
          have d2 := HCK.out m2 k hkL
          have hkz := HKZ.out k hkL
          have HBK := Lib.hid (HBG.out n k hkL (by omega))
          obtain ⟨y, hy⟩ : ∃ y, L[k]'hkL = y := ⟨_, rfl⟩
          rw [hy] at d2 hkz HBK
          have HYY := Lib.hid hy
          clear hy
          obtain ⟨wi, hwi⟩ : ∃ wi, w.drewN m2 = wi := ⟨_, rfl⟩
          rw [hwi] at d1 d2 ⊢
          have HWI := Lib.hid hwi
          clear hwi
          cases bb with
          | false =>
            go_wp2_with fail
            go_quiet (fail)
            go_wp2_with fail
            go_roundw
            case rel => exact ⟨k + 1, m2 + nq, false, by omega, rfl, by go_num, by rw [← HWI.out, World.drewN_drewN], Lib.hid (alone_down HA.out)⟩
            case measure => simp [intOf]; omega
          | true =>
            by_cases hki : k = i
            · have k1 : ((k : Int) == (i : Int)) = true := by rw [hki]; simp
              have HKI := Lib.hid hki
              clear hki
              go_wp2_with fail
              go_quiet (fail)
              go_wp2_with fail
              go_roundw
              case rel => exact ⟨k + 1, m2 + nq, true, by omega, rfl, by go_num, by rw [← HWI.out, World.drewN_drewN], Lib.hid (alone_skip2 HKI.out (by simpa using HA.out))⟩
              case measure => simp [intOf]; omega
            · have k1 : ((k : Int) == (i : Int)) = false := by rw [beq_eq_false_iff_ne]; omega
              have HBC := Lib.hid (fun W => begins_any y (s.extract 0 n) (by omega) (by rw [← list_size, cat_ext, List.length_take, list_size]; omega) W)
              rw [HBK.out] at HBC
              have HS1 := Lib.hid (fun (v : Bool) (hv : decide (n ≤ cpl y s) = v) => HST.out n k true v HA.out hkL hki (by rw [HYY.out]; exact hv))
              cases hv : decide (n ≤ cpl y s) with
              | false =>
                rw [hv] at HBC
                have HV := Lib.hid hv
                clear hv
                go_wp2_with fail
                go_quiet ((first | (go_at_call 42; exact quietS (HBC.out _))))
                go_wp2_with fail
                go_roundw
                case rel => exact ⟨k + 1, m2 + nq, true, by omega, rfl, by go_num, by rw [← HWI.out, World.drewN_drewN], Lib.hid (HS1.out false HV.out)⟩
                case measure => simp [intOf]; omega
              | true =>
                rw [hv] at HBC
                have HV := Lib.hid hv
                clear hv
                go_wp2_with fail
                go_quiet ((first | (go_at_call 42; exact quietS (HBC.out _))))
                go_wp2_with fail
                go_roundw
                case rel => exact ⟨k + 1, m2 + nq, false, by omega, rfl, by go_num, by rw [← HWI.out, World.drewN_drewN], Lib.hid (HS1.out true HV.out)⟩
                case measure => simp [intOf]; omega
        · obtain rfl : k = len := by omega
          have HAE := Lib.hid (show bb = true ↔ M ≤ n from by rw [HA.out, ← HL.out]; exact HAL.out n hn)
          have d1 := HCI.out m2
          obtain ⟨wi, hwi⟩ : ∃ wi, w.drewN m2 = wi := ⟨_, rfl⟩
          rw [hwi] at d1 ⊢
          have HWI := Lib.hid hwi
          clear hwi
          have l2 : ¬ (k : Int) < (k : Int) := by omega
          cases bb with
          | true =>
            have HR := Lib.hid (show R = s.extract 0 n by
              have := HAE.out.1 rfl
              rw [HAB.out, show min M s.size = n by omega])
            go_wp2
            go_ret
            exact ⟨by rw [HR.out]; rfl, m2, HWI.out.symm⟩
          | false =>
            have HR := Lib.hid (show ¬ M ≤ n from fun h => absurd (HAE.out.2 h) (by simp))
            go_wp2_with fail
            go_roundw
            case rel => exact ⟨n + 1, m2, by omega, by have := HR.out; omega, by go_num, HWI.out⟩
            case measure => simp [intOf]; omega
    · have l1 : ¬ (n : Int) < (s.size : Int) := by omega
      have HR := Lib.hid (show R = s by rw [HAB.out, show min M s.size = s.size by omega]; exact ext_whole s)
      go_wp2
      go_ret
      exact ⟨by rw [HR.out]; rfl, m, HWO.out.symm⟩
end Go.Proofs.YtcfhmbbkkadnfaaDoor
