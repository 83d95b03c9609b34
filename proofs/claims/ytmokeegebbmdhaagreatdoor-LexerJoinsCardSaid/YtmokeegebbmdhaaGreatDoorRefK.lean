/- Contract of layer 9's reference: Join. -/
import Derived.Test.YtmokeegebbmdhaaGreatDoorRefI
import Derived.Test.YtmokeegebbmdhaaGreatDoorJoin
set_option linter.unusedSimpArgs false
set_option linter.unusedVariables false
namespace Go.Proofs.YtmokeegebbmdhaaGreatDoor
open Go.RowKit

theorem jnT_snoc : ∀ (l : List Tk) (t : Tk), jnT (l ++ [t]) = if l = [] then spellT t else jnT l ++ 32 :: spellT t
  | [], t => by simp [jnT]
  | u :: r, t => by
    by_cases h : r = []
    · subst h; simp [jnT]
    · have ih : jnT (r ++ [t]) = jnT r ++ 32 :: spellT t := by rw [jnT_snoc r t, if_neg h]
      rw [if_neg (List.cons_ne_nil _ _), List.cons_append, jnT_cons u (r ++ [t]), if_neg (by simp), ih, jnT_cons u r, if_neg h]
      simp
theorem okJ_all : ∀ {L : List Tk}, okJ L = true → ∀ (i : Nat) (h : i < L.length), (L[i]'h).k = 5 → i + 1 = L.length
  | [], _, i, h, _ => by simp at h
  | t :: r, hok, i, h, h5 => by
    simp only [okJ, Bool.and_eq_true] at hok
    cases i with
    | zero =>
      have := hok.1.2
      simp only [List.getElem_cons_zero] at h5
      rw [h5] at this
      simp at this
      rw [this]; rfl
    | succ i =>
      have := okJ_all hok.2 i (by simpa using h) (by simpa using h5)
      simp [this]
theorem real_upto {L : List Tk} {i : Nat} (hi : i ≤ L.length) (h : ∀ (j : Nat) (hj : j < L.length), j < i → (L[j]'hj).k ≠ 5) (he : i = L.length ∨ ∃ h : i < L.length, (L[i]'h).k = 5 ∧ i + 1 = L.length) : real L = L.take i := by
  have h1 : real (L.take i) = L.take i := by
    unfold real
    rw [List.filter_eq_self]
    intro t ht
    obtain ⟨j, hj, rfl⟩ := List.getElem_of_mem ht
    have hj2 : j < i ∧ j < L.length := by
      rw [List.length_take] at hj; omega
    rw [List.getElem_take]
    simpa using h j hj2.2 hj2.1
  rcases he with he | ⟨hl, h5, he⟩
  · rw [he, List.take_length] at h1 ⊢
    exact h1
  · have h2 := real_take L i hl
    rw [he, List.take_length] at h2
    rw [h2, h1, h5]
    simp
set_option maxHeartbeats 4000000 in
set_option maxRecDepth 100000 in
theorem rjoin_any {w : World} {a : Option Addr} {b o n c : Nat} {L : List Tk} (hA : SlT w a b o n c L) (hn : n ≤ 1000000) (hz : ∀ t ∈ L, t.t.size ≤ 1000) (hT : Tabs w) :
    Calls Tryz.prog 18 #[.slice a n c] w fun e w' => e = .returned (.tuple #[.string (bs (joinS L).1), .int .i64 (joinS L).2]) ∧ Below w.heap.size w w' := by
  have HL := Lib.hid hA.hl
  have HA := Lib.hid hA
  have HT := Lib.hid hT
  have HVA := Lib.hid (fun (t : Tk) (ht : t ∈ L) (W : World) hW => rvalid_any t (hz t ht) W hW)
  have HSP := Lib.hid (fun (t : Tk) (ht : t ∈ L) (W : World) hW => rSpell_any t (by have := hz t ht; omega) W hW)
  have HJ := Lib.hid (show joinS L = if okJ L then (if 65536 < (jnT (real L)).length then ([], 6) else (jnT (real L), 0)) else ([], 1) from rfl)
  have HOV := Lib.hid (okJ_valid L)
  have HOA := Lib.hid (fun h => @okJ_all L h)
  have HRS := Lib.hid (fun (M : List Tk) h => real_sum M h)
  generalize joinS L = R at *
  clear hA hz hT
  go_enter Tryz.func18, Tryz.ntmps18
  go_wp2_with fail
  go_loopw [5] (fun s5 wr => ∃ (k : Nat), k ≤ n ∧ s5 = .int .i64 (k : Int) ∧ Hid (Below w.heap.size w wr) ∧ Hid (okJ L = okJ (L.drop k))) (fun s5 _ => (n - (intOf s5)).toNat)
  case atStart => exact ⟨0, Nat.zero_le _, rfl, Lib.hid (Below.refl _ _), Lib.hid rfl⟩
  case round =>
    obtain ⟨k, hk, rfl, HB, HK⟩ := hrel
    by_cases hlt : k < n
    · have hl : (k : Int) < (n : Int) := by omega
      have hkL : k < L.length := by rw [HL.out]; exact hlt
      have SA := HA.out.keep HB.out
      obtain rfl := SA.ha (by omega)
      have ba := SA.hb (by omega)
      have ca0 := SA.c0 k hkL
      have ca1 := SA.c1 k hkL
      have ca2 := SA.c2 k hkL
      have ca3 := SA.c3 k hkL
      have HD := Lib.hid (okJ_drop L k hkL)
      have HVK := Lib.hid (HVA.out (L[k]'hkL) (List.getElem_mem hkL))
      clear SA
      generalize L[k]'hkL = x at *
      obtain ⟨xk, xt, xn, xa⟩ := x
      simp only [Tk.val] at ca0 ca1 ca2 ca3 HVK HD
      cases hv : validT ⟨xk, xt, xn, xa⟩ with
      | false =>
        rw [hv] at HD HVK
        have HZ := Lib.hid (show R = ([], 1) by rw [HJ.out, HK.out, HD.out]; rfl)
        clear HD HJ HK HOV HOA HRS hv
        go_wp2_with fail
        refine (HVK.out _ (HT.out.below HB.out)).mono ?_
        rintro e w1 ⟨rfl, hb1⟩
        have HB1 := Lib.hid (bel_by hb1 HB.out.size HB.out)
        clear hb1
        go_wp2_with fail
        go_ret2
        exact ⟨by rw [HZ.out]; rfl, HB1.out⟩
      | true =>
        rw [hv] at HD HVK
        by_cases h5 : xk = 5
        · subst h5
          by_cases hlast : k + 1 = n
          · have hgl : decide ((k : Int) + 1 < (n : Int)) = false := decide_eq_false (by omega)
            have hgl2 : ¬ (k : Int) + 1 < (n : Int) := by omega
            have HK2 := Lib.hid (show okJ L = okJ (L.drop (k + 1)) by
              rw [HK.out, HD.out]
              have : decide (k + 1 = L.length) = true := decide_eq_true (by rw [HL.out]; exact hlast)
              rw [this]; rfl)
            clear HD HK hv
            go_wp2_with fail
            refine (HVK.out _ (HT.out.below HB.out)).mono ?_
            rintro e w1 ⟨rfl, hb1⟩
            have HB1 := Lib.hid (bel_by hb1 HB.out.size HB.out)
            have ca0' := (hb1.cell (p := ⟨b, o + k * 4, none⟩) ba).trans ca0
            clear hb1 ca0 ca1 ca2 ca3
            go_wp2_with fail
            go_roundw
            case rel => exact ⟨k + 1, by omega, by go_num, HB1, HK2⟩
            case measure => simp [intOf]; omega
          · have hgl : decide ((k : Int) + 1 < (n : Int)) = true := decide_eq_true (by omega)
            have hgl2 : (k : Int) + 1 < (n : Int) := by omega
            have HZ := Lib.hid (show R = ([], 1) by
              have hd : decide (k + 1 = L.length) = false := decide_eq_false (by rw [HL.out]; exact hlast)
              rw [HJ.out, HK.out, HD.out, hd]; rfl)
            clear HD HJ HK HOV HOA HRS hv
            go_wp2_with fail
            refine (HVK.out _ (HT.out.below HB.out)).mono ?_
            rintro e w1 ⟨rfl, hb1⟩
            have HB1 := Lib.hid (bel_by hb1 HB.out.size HB.out)
            have ca0' := (hb1.cell (p := ⟨b, o + k * 4, none⟩) ba).trans ca0
            clear hb1 ca0 ca1 ca2 ca3
            go_wp2_with fail
            go_ret2
            exact ⟨by rw [HZ.out]; rfl, HB1.out⟩
        · have h5b : (xk != 5) = true := by simpa using h5
          have h5c : (xk == 5) = false := by simpa using h5
          rw [h5b] at HD
          have HK2 := Lib.hid (show okJ L = okJ (L.drop (k + 1)) by rw [HK.out, HD.out]; rfl)
          clear HD HK h5 hv
          go_wp2_with fail
          refine (HVK.out _ (HT.out.below HB.out)).mono ?_
          rintro e w1 ⟨rfl, hb1⟩
          have HB1 := Lib.hid (bel_by hb1 HB.out.size HB.out)
          have ca0' := (hb1.cell (p := ⟨b, o + k * 4, none⟩) ba).trans ca0
          clear hb1 ca0 ca1 ca2 ca3
          go_wp2_with fail
          go_roundw
          case rel => exact ⟨k + 1, by omega, by go_num, HB1, HK2⟩
          case measure => simp [intOf]; omega
    · obtain rfl : k = n := by omega
      have hl : ¬ (k : Int) < (k : Int) := by omega
      have hdk : L.drop k = [] := by rw [← HL.out, List.drop_length]
      rw [hdk] at HK
      have HOKJ := Lib.hid (show okJ L = true from HK.out)
      have HOVV := Lib.hid (HOV.out HK.out)
      have HOAA := Lib.hid (HOA.out HK.out)
      have HJ2 := Lib.hid (show R = if 65536 < (jnT (real L)).length then ([], 6) else (jnT (real L), 0) by rw [HJ.out, if_pos HOKJ.out])
      clear hdk HK HOV HOA HJ HVA
      go_wp2_with fail
      go_loopw [4, 6] (fun s4 s6 wi => ∃ (i : Nat), i ≤ k ∧ s6 = .int .i64 (i : Int) ∧ Hid (Below w.heap.size w wi) ∧ Hid (∀ (j : Nat) (hj : j < L.length), j < i → (L[j]'hj).k ≠ 5) ∧ Hid (s4 = .string (bs (jnT (L.take i))))) (fun _ s6 _ => (k - (intOf s6)).toNat)
      case atStart => exact ⟨0, Nat.zero_le _, rfl, HB, Lib.hid (fun j _ h => absurd h (Nat.not_lt_zero j)), Lib.hid rfl⟩
      case round =>
        clear HB
        obtain ⟨i, hi, rfl, HB, HNE, HS4⟩ := hrel
        have hs4 := HS4.out
        have hjl := HRS.out (L.take i) (fun t ht => HOVV.out t (List.mem_of_mem_take ht))
        have hjt : (L.take i).length ≤ i := by rw [List.length_take]; omega
        rw [← bs_size] at hjl
        have HDD := Lib.hid (bs_data (jnT (L.take i)))
        obtain ⟨O, hO⟩ : ∃ O, bs (jnT (L.take i)) = O := ⟨_, rfl⟩
        rw [hO] at hs4 hjl HDD
        subst hs4
        have HO := Lib.hid hO
        clear hO
        have fin : (i = L.length ∨ ∃ h : i < L.length, (L[i]'h).k = 5 ∧ i + 1 = L.length) → real L = L.take i := fun he => real_upto (by rw [HL.out]; exact hi) HNE.out he
        by_cases hlt : i < k
        · have hl2 : (i : Int) < (k : Int) := by omega
          have hiL : i < L.length := by rw [HL.out]; exact hlt
          have SA := HA.out.keep HB.out
          obtain rfl := SA.ha (by omega)
          have ba := SA.hb (by omega)
          have ca0 := SA.c0 i hiL
          have ca1 := SA.c1 i hiL
          have ca2 := SA.c2 i hiL
          have ca3 := SA.c3 i hiL
          have hvi := HOVV.out (L[i]'hiL) (List.getElem_mem hiL)
          have hae := HOAA.out i hiL
          have HSK := Lib.hid (HSP.out (L[i]'hiL) (List.getElem_mem hiL))
          have hsl := spell_len (L[i]'hiL) hvi
          have hst : jnT (L.take (i + 1)) = if L.take i = [] then spellT (L[i]'hiL) else jnT (L.take i) ++ 32 :: spellT (L[i]'hiL) := by
            rw [List.take_succ_eq_append_getElem hiL, jnT_snoc]
          by_cases h5 : (L[i]'hiL).k = 5
          · have HFN := Lib.hid (fin (.inr ⟨hiL, h5, hae h5⟩))
            clear fin hae hst HSK SA hvi hsl
            rw [h5] at ca0
            have hoz : (jnT (L.take i)).length = O.size := by rw [← HO.out, bs_size]
            have hr := HJ2.out
            rw [HFN.out, hoz] at hr
            clear hoz
            by_cases h6 : 65536 < O.size
            · rw [if_pos h6] at hr
              subst hr
              have k1 : decide ((O.size : Int) > 65536) = true := decide_eq_true (by omega)
              have k2 : (65536 : Int) < (O.size : Int) := by omega
              clear HJ2
              go_wp2_with fail
              go_ret2
              exact ⟨rfl, HB.out⟩
            · rw [if_neg h6] at hr
              have HRR := Lib.hid hr
              have k1 : decide ((O.size : Int) > 65536) = false := decide_eq_false (by omega)
              have k2 : ¬ (65536 : Int) < (O.size : Int) := by omega
              clear HJ2 hr
              go_wp2_with fail
              go_ret2
              exact ⟨by rw [HRR.out]; simp only; rw [HO.out]; rfl, HB.out⟩
          · have hrs := rsp_ok hvi h5
            rw [hrs] at HSK
            have HNE2 := Lib.hid (show ∀ (j : Nat) (hj : j < L.length), j < i + 1 → (L[j]'hj).k ≠ 5 from fun j hj hj2 => by
              by_cases e : j = i
              · subst e; exact h5
              · exact HNE.out j hj (by omega))
            have h5b : ((L[i]'hiL).k != 5) = true := by simpa using h5
            have h5c : ((L[i]'hiL).k == 5) = false := by simpa using h5
            have HST := Lib.hid hst
            obtain ⟨P, hP⟩ : ∃ P, bs (spellT (L[i]'hiL)) = P := ⟨_, rfl⟩
            have hPl : spellT (L[i]'hiL) = P.data.toList := by rw [← hP, bs_data]
            have hPz : P.size ≤ 42 := by rw [← list_size, ← hPl]; exact hsl
            rw [hPl] at HST
            rw [hP] at HSK
            clear fin hae hst SA hvi hsl hrs h5 hP hPl
            generalize L[i]'hiL = x at *
            obtain ⟨xk, xt, xn, xa⟩ := x
            simp only [Tk.val] at ca0 ca1 ca2 ca3 HSK h5b h5c
            by_cases h0 : i = 0
            · have HO2 := Lib.hid (show O ++ P = bs (jnT (L.take (i + 1))) by
                have h1 := HST.out
                subst h0
                rw [List.take_zero, if_pos rfl] at h1
                rw [h1, ← HO.out]
                apply bs_inj
                rw [bs_data]
                simp [jnT, bs])
              have d0 : decide ((i : Int) > 0) = false := decide_eq_false (by omega)
              have d1 : ¬ (0 : Int) < (i : Int) := by omega
              have d2 : ¬ 0 < i := by omega
              have d3 : decide (0 < i) = false := decide_eq_false (by omega)
              clear HST h0
              go_wp2_with fail
              refine (HSK.out _ (HT.out.below HB.out)).mono ?_
              rintro e w1 ⟨rfl, hb1⟩
              have HB1 := Lib.hid (bel_by hb1 HB.out.size HB.out)
              clear hb1 ca0 ca1 ca2 ca3
              go_wp2_with fail
              go_roundw
              case rel => exact ⟨i + 1, by omega, by go_num, HB1, HNE2, Lib.hid (by rw [← HO2.out])⟩
              case measure => simp [intOf]; omega
            · have HO2 := Lib.hid (show O ++ ⟨#[32]⟩ ++ P = bs (jnT (L.take (i + 1))) by
                have h1 := HST.out
                have h2 : L.take i ≠ [] := by
                  intro h
                  have := congrArg List.length h
                  rw [List.length_take, List.length_nil] at this
                  omega
                rw [if_neg h2] at h1
                rw [h1, bs_cat3, HDD.out])
              have HO3 := Lib.hid (show O ++ (⟨#[32]⟩ ++ P) = bs (jnT (L.take (i + 1))) by rw [← HO2.out, bs_cat3, bs_cat3b])
              have d0 : decide ((i : Int) > 0) = true := decide_eq_true (by omega)
              have d1 : (0 : Int) < (i : Int) := by omega
              have d2 : 0 < i := by omega
              have d3 : decide (0 < i) = true := decide_eq_true (by omega)
              clear HST h0
              go_wp2_with fail
              refine (HSK.out _ (HT.out.below HB.out)).mono ?_
              rintro e w1 ⟨rfl, hb1⟩
              have HB1 := Lib.hid (bel_by hb1 HB.out.size HB.out)
              clear hb1 ca0 ca1 ca2 ca3
              go_wp2_with fail
              go_roundw
              case rel => exact ⟨i + 1, by omega, by go_num, HB1, HNE2, Lib.hid (by rw [← HO2.out])⟩
              case measure => simp [intOf]; omega
        · obtain rfl : i = k := by omega
          have hl2 : ¬ (i : Int) < (i : Int) := by omega
          have HFN := Lib.hid (fin (.inl HL.out.symm))
          clear fin
          have hoz : (jnT (L.take i)).length = O.size := by rw [← HO.out, bs_size]
          have hr := HJ2.out
          rw [HFN.out, hoz] at hr
          clear hoz
          by_cases h6 : 65536 < O.size
          · rw [if_pos h6] at hr
            subst hr
            have k1 : decide ((O.size : Int) > 65536) = true := decide_eq_true (by omega)
            have k2 : (65536 : Int) < (O.size : Int) := by omega
            clear HJ2
            go_wp2_with fail
            go_ret2
            exact ⟨rfl, HB.out⟩
          · rw [if_neg h6] at hr
            have HRR := Lib.hid hr
            have k1 : decide ((O.size : Int) > 65536) = false := decide_eq_false (by omega)
            have k2 : ¬ (65536 : Int) < (O.size : Int) := by omega
            clear HJ2 hr
            go_wp2_with fail
            go_ret2
            exact ⟨by rw [HRR.out]; simp only; rw [HO.out]; rfl, HB.out⟩
end Go.Proofs.YtmokeegebbmdhaaGreatDoor
