/- Contract of layer 20's reference: Repeats. -/
import Derived.Test.YtlleebgkglbelaaRpp
set_option linter.unusedSimpArgs false
set_option linter.unusedVariables false
namespace Go.Proofs.Ytlleebgkglbelaa
open Go.RowKit

def nxS (o : Option ByteArray) : ByteArray := match o with
  | none => ⟨#[]⟩
  | some m => m
set_option maxHeartbeats 16000000 in
set_option maxRecDepth 100000 in
theorem rrep_walk {w : World} {a : Option Addr} {b off len cap : Nat} {R : List Rg} (h : SlR w a b off len cap R) (hm : len ≤ 1000) (hz : ∀ x ∈ R, x.c.size ≤ maxLen)
    (hrec : ∀ tl, keysR R len = [] :: tl → ∀ (W : World) (a' : Option Addr) (b' off' cap' : Nat), SlR W a' b' off' len cap' (R.map barS) → Calls Try.prog 30 #[.slice a' len cap'] W (RepPost W (R.map barS) len)) :
    Calls Try.prog 30 #[.slice a len cap] w (RepPost w R len) := by
  obtain ⟨iz, hi, hz0, hz1, hz2⟩ := info_parts infoI
  obtain ⟨iz2, hi2, hy0, hy1, hy2⟩ := info_parts infoL
  have hl0 := h.hl
  have HS := Lib.hid h
  have HREC := Lib.hid hrec
  have HWO := Lib.hid (fun W (hW : SlR W a b off len cap R) => without_any hW (by omega))
  obtain ⟨T, hT⟩ : ∃ T, keysR R len = T := ⟨_, rfl⟩
  have HTT := Lib.hid hT
  have HSN := Lib.hid (fun j hj => scn_keys R len j hj)
  have HNE := Lib.hid (@keys_ne R len)
  rw [hT] at HSN HNE HREC
  have hTl : T.length ≤ len := by
    rw [← hT]; unfold keysR; rw [List.length_mergeSort]
    have : (strKeys (GD R len)).length = Maps.size (GD R len) := strKeys_len _
    have := GD_size R len
    omega
  clear h hz hrec hT
  unfold WtoPost at HWO
  unfold RepPost at HREC
  go_enter Try.func30, Try.ntmps30
  go_wp2_with fail
  have HO0 := Lib.hid (World.ownsRow_made (e := 44) (size := 1) (base := w.heap.size) w #[] 0 (Nat.le_refl _) (Nat.zero_le _) rfl)
  have HB0 := Lib.hid (show Below w.heap.size w (w.alloc (.cells #[] 44)) from (by repeat (first | with_reducible exact Below.refl _ _ | (with_reducible refine Below.setCell ?_ (by first | exact Nat.le_refl _ | omega | (simp; done) | (simp; omega)) _) | (with_reducible refine Below.alloc ?_ (by first | exact Nat.le_refl _ | omega | (simp; done) | (simp; omega)) _) | with_reducible refine Below.drew ?_ | with_reducible refine bel_drewN ?_ _ | (with_reducible refine bel_by (by with_reducible assumption) (by first | exact Nat.le_refl _ | omega | (simp; done) | (simp; omega)) ?_))))
  go_loopg [3, 4] T.length (fun gk s3 s4 wr => ∃ (j : Nat) (M : List (Value × List Nat)) (go co : Nat), j + gk = T.length ∧ M.length ≤ j ∧ s3 = .slice (some ⟨go, 0, none⟩) M.length co ∧ s4 = .string (bs (lastT T j)) ∧ Hid (wr.ownsRow w.heap.size 44 1 (.slice (some ⟨go, 0, none⟩) M.length co) M.length (M.map (·.1))) ∧ Hid (Below w.heap.size w wr) ∧ Hid (∀ p ∈ M, RdI wr p.1 p.2) ∧ Hid (M.map (·.2) = outK R len (T.take j)) ∧ Hid (0 < j → ∀ x ∈ T, x ≠ []))
  case atStart => exact ⟨0, [], w.heap.size, 0, by omega, Nat.le_refl _, rfl, rfl, HO0, HB0, Lib.hid (fun p hp => absurd hp (by simp)), Lib.hid (by simp [outK]), Lib.hid (fun h => absurd h (by omega))⟩
  case round =>
    obtain ⟨j, M, go, co, hj, hMj, rfl, rfl, HO, HB, HRD, HE, HJ⟩ := hrel
    clear HO0 HB0
    obtain ⟨wn, hwn⟩ : ∃ wn, wn = wr := ⟨_, rfl⟩
    subst hwn
    have hszn : w.heap.size ≤ wn.heap.size := HB.out.size
    obtain ⟨lt, hlt⟩ : ∃ lt, bs (lastT T j) = lt := ⟨_, rfl⟩
    rw [hlt]
    have HLT := Lib.hid hlt
    clear hlt
    have HL4 := Lib.hid (show j ≠ 0 → (lt.toList == []) = false from fun hj0 => by
      have h1 : lt = bs (lastT T j) := HLT.out.symm
      have h2 : lastT T j ≠ [] := by
        unfold lastT
        rw [if_neg hj0, show T.getD (j - 1) [] = T[j - 1]'(by omega) by simp [List.getD, show j - 1 < T.length by omega]]
        exact HJ.out (by omega) _ (List.getElem_mem _)
      rw [h1, ← ba_list, bs_data]
      simpa using h2)
    have HLA := Lib.hid (show j ≠ 0 → lt.toList = T.getD (j - 1) [] from fun hj0 => by
      rw [← HLT.out, ← ba_list, bs_data]
      unfold lastT
      rw [if_neg hj0])
    go_wp2_with fail
    go_loopw [5, 6, 7] (fun s5 s6 s7 wx => ∃ k : Nat, k ≤ len ∧ s5 = .string (nxS (scn R (nxtP T j) k)) ∧ s6 = .bool (scn R (nxtP T j) k).isSome ∧ s7 = .int .i64 (k : Int) ∧ Hid (Below wn.heap.size wn wx)) (fun _ _ s7 _ => (len - (intOf s7)).toNat)
    case atStart => exact ⟨0, Nat.zero_le _, rfl, rfl, rfl, Lib.hid (Below.refl _ _)⟩
    case round =>
      obtain ⟨k, hk, rfl, rfl, rfl, HX⟩ := hrel
      by_cases hlt : k < len
      · have hl : (k : Int) < (len : Int) := by omega
        have hkL : k < R.length := by omega
        have S := HS.out.keep (HB.out.trans (HX.out.mono hszn))
        obtain rfl := S.ha (by omega)
        have sb := S.hb (by omega)
        have c0 := S.c0 k hkL
        have c1 := S.c1 k hkL
        have c2 := S.c2 k hkL
        have c3 := S.c3 k hkL
        have c4 := S.c4 k hkL
        have c5 := S.c5 k hkL
        have c6 := S.c6 k hkL
        have hx : R.getD k Rg.zero = R[k]'hkL := by simp [List.getD, hkL]
        have hscn : scn R (nxtP T j) (k + 1) = if (R.getD k Rg.zero).k = true ∧ nxtP T j (R.getD k Rg.zero).c = true ∧ okN (scn R (nxtP T j) k) (R.getD k Rg.zero).c = true then some (R.getD k Rg.zero).c else scn R (nxtP T j) k := rfl
        rw [hx] at hscn
        clear S hx
        generalize R[k]'hkL = x at *
        obtain ⟨xk, xc, xg, xs, xn, xr, xj⟩ := x
        simp only at c0 c1 c2 c3 c4 c5 c6 hscn
        have HBV := Lib.hid (show Below wn.heap.size wn (wr.alloc (.cells #[.bool xk, .string xc, .string xg, .string xs, .int .i64 xn, .bool xr, .bool xj] 35)) from HX.out.alloc HX.out.size _)
        clear HX
        cases xk with
        | false =>
          have HSK := Lib.hid (show scn R (nxtP T j) (k + 1) = scn R (nxtP T j) k by rw [hscn, if_neg (by simp)])
          clear hscn
          generalize scn R (nxtP T j) k = o at *
          cases o with
          | none =>
            simp only [nxS, Option.isSome]
            go_wp2_with fail
            go_roundw
            case rel => exact ⟨k + 1, by omega, by first | (rw [HSK.out]; done) | (rw [HSK.out]; rfl), by first | (rw [HSK.out]; done) | (rw [HSK.out]; rfl), by go_num, HBV⟩
            case measure => simp [intOf]; omega
          | some m =>
            simp only [nxS, Option.isSome]
            go_wp2_with fail
            go_roundw
            case rel => exact ⟨k + 1, by omega, by first | (rw [HSK.out]; done) | (rw [HSK.out]; rfl), by first | (rw [HSK.out]; done) | (rw [HSK.out]; rfl), by go_num, HBV⟩
            case measure => simp [intOf]; omega
        | true =>
          have HSC := Lib.hid (show (nxtP T j xc = true → okN (scn R (nxtP T j) k) xc = true → scn R (nxtP T j) (k + 1) = some xc) ∧ ((nxtP T j xc = false ∨ okN (scn R (nxtP T j) k) xc = false) → scn R (nxtP T j) (k + 1) = scn R (nxtP T j) k) from
            ⟨fun p q => by rw [hscn, if_pos ⟨rfl, p, q⟩], fun p => by rw [hscn, if_neg (fun h => by rcases p with p | p <;> simp [p] at h)]⟩)
          clear hscn
          have hgt := gt_iff xc lt
          by_cases hj0 : j = 0
          · have hM0 : M.length = 0 := by omega
            have hlt0 : lt = ⟨#[]⟩ := by rw [← HLT.out, hj0]; rfl
            have hP : nxtP T j xc = true := by unfold nxtP; rw [if_pos hj0]
            clear hj0
            rw [hM0]
            subst hlt0
            have h1 : Op.bytesLess xc.toList [] = false := by rw [bytesLess_eq]; exact decide_eq_false (List.not_lt_nil _)
            clear hgt
            cases h3 : (xc.toList == []) with
            | true =>
              cases hs : scn R (nxtP T j) k with
              | none =>
                rw [hs] at HSC
                have HSK := Lib.hid (show scn R (nxtP T j) (k + 1) = some xc from HSC.out.1 hP rfl)
                simp only [nxS, hs, Option.isSome]
                clear HSC hP hs
                go_wp2_with fail
                go_roundw
                case rel => exact ⟨k + 1, by omega, by first | (rw [HSK.out]; done) | (rw [HSK.out]; rfl), by first | (rw [HSK.out]; done) | (rw [HSK.out]; rfl), by go_num, HBV⟩
                case measure => simp [intOf]; omega
              | some m =>
                rw [hs] at HSC
                cases h5 : Op.bytesLess xc.toList m.toList with
                | true =>
                  have HSK := Lib.hid (show scn R (nxtP T j) (k + 1) = some xc from HSC.out.1 hP h5)
                  simp only [nxS, hs, Option.isSome]
                  clear HSC hP hs
                  go_wp2_with fail
                  go_roundw
                  case rel => exact ⟨k + 1, by omega, by first | (rw [HSK.out]; done) | (rw [HSK.out]; rfl), by first | (rw [HSK.out]; done) | (rw [HSK.out]; rfl), by go_num, HBV⟩
                  case measure => simp [intOf]; omega
                | false =>
                  have HSK := Lib.hid (show scn R (nxtP T j) (k + 1) = some m from HSC.out.2 (Or.inr h5))
                  simp only [nxS, hs, Option.isSome]
                  clear HSC hP
                  go_wp2_with fail
                  go_roundw
                  case rel => exact ⟨k + 1, by omega, by first | (rw [HSK.out]; done) | (rw [HSK.out]; rfl), by first | (rw [HSK.out]; done) | (rw [HSK.out]; rfl), by go_num, HBV⟩
                  case measure => simp [intOf]; omega
            | false =>
              cases hs : scn R (nxtP T j) k with
              | none =>
                rw [hs] at HSC
                have HSK := Lib.hid (show scn R (nxtP T j) (k + 1) = some xc from HSC.out.1 hP rfl)
                simp only [nxS, hs, Option.isSome]
                clear HSC hP hs
                go_wp2_with fail
                go_roundw
                case rel => exact ⟨k + 1, by omega, by first | (rw [HSK.out]; done) | (rw [HSK.out]; rfl), by first | (rw [HSK.out]; done) | (rw [HSK.out]; rfl), by go_num, HBV⟩
                case measure => simp [intOf]; omega
              | some m =>
                rw [hs] at HSC
                cases h5 : Op.bytesLess xc.toList m.toList with
                | true =>
                  have HSK := Lib.hid (show scn R (nxtP T j) (k + 1) = some xc from HSC.out.1 hP h5)
                  simp only [nxS, hs, Option.isSome]
                  clear HSC hP hs
                  go_wp2_with fail
                  go_roundw
                  case rel => exact ⟨k + 1, by omega, by first | (rw [HSK.out]; done) | (rw [HSK.out]; rfl), by first | (rw [HSK.out]; done) | (rw [HSK.out]; rfl), by go_num, HBV⟩
                  case measure => simp [intOf]; omega
                | false =>
                  have HSK := Lib.hid (show scn R (nxtP T j) (k + 1) = some m from HSC.out.2 (Or.inr h5))
                  simp only [nxS, hs, Option.isSome]
                  clear HSC hP
                  go_wp2_with fail
                  go_roundw
                  case rel => exact ⟨k + 1, by omega, by first | (rw [HSK.out]; done) | (rw [HSK.out]; rfl), by first | (rw [HSK.out]; done) | (rw [HSK.out]; rfl), by go_num, HBV⟩
                  case measure => simp [intOf]; omega
          · have hl4 : (lt.toList == []) = false := HL4.out hj0
            cases hP : nxtP T j xc with
            | true =>
              have h9 : (Op.bytesLess xc.toList lt.toList || xc.toList == lt.toList) = false := by
                rw [hgt]
                have := hP
                unfold nxtP at this
                rw [if_neg hj0] at this
                rw [HLA.out hj0, this]; rfl
              rw [Bool.or_eq_false_iff] at h9
              obtain ⟨h1, h2⟩ := h9
              clear hgt
              cases hs : scn R (nxtP T j) k with
              | none =>
                rw [hs] at HSC
                have HSK := Lib.hid (show scn R (nxtP T j) (k + 1) = some xc from HSC.out.1 hP rfl)
                simp only [nxS, hs, Option.isSome]
                clear HSC hP hs
                go_wp2_with fail
                go_roundw
                case rel => exact ⟨k + 1, by omega, by first | (rw [HSK.out]; done) | (rw [HSK.out]; rfl), by first | (rw [HSK.out]; done) | (rw [HSK.out]; rfl), by go_num, HBV⟩
                case measure => simp [intOf]; omega
              | some m =>
                rw [hs] at HSC
                cases h5 : Op.bytesLess xc.toList m.toList with
                | true =>
                  have HSK := Lib.hid (show scn R (nxtP T j) (k + 1) = some xc from HSC.out.1 hP h5)
                  simp only [nxS, hs, Option.isSome]
                  clear HSC hP hs
                  go_wp2_with fail
                  go_roundw
                  case rel => exact ⟨k + 1, by omega, by first | (rw [HSK.out]; done) | (rw [HSK.out]; rfl), by first | (rw [HSK.out]; done) | (rw [HSK.out]; rfl), by go_num, HBV⟩
                  case measure => simp [intOf]; omega
                | false =>
                  have HSK := Lib.hid (show scn R (nxtP T j) (k + 1) = some m from HSC.out.2 (Or.inr h5))
                  simp only [nxS, hs, Option.isSome]
                  clear HSC hP
                  go_wp2_with fail
                  go_roundw
                  case rel => exact ⟨k + 1, by omega, by first | (rw [HSK.out]; done) | (rw [HSK.out]; rfl), by first | (rw [HSK.out]; done) | (rw [HSK.out]; rfl), by go_num, HBV⟩
                  case measure => simp [intOf]; omega
            | false =>
              have h9 : (Op.bytesLess xc.toList lt.toList || xc.toList == lt.toList) = true := by
                rw [hgt]
                have := hP
                unfold nxtP at this
                rw [if_neg hj0] at this
                rw [HLA.out hj0, this]; rfl
              clear hgt
              have h10 : (Op.bytesLess xc.toList lt.toList = true) ∨ (Op.bytesLess xc.toList lt.toList = false ∧ (xc.toList == lt.toList) = true) := by
                cases h1 : Op.bytesLess xc.toList lt.toList with
                | true => exact Or.inl rfl
                | false => rw [h1] at h9; exact Or.inr ⟨rfl, by simpa using h9⟩
              clear h9
              rcases h10 with h1 | ⟨h1, h2⟩
              · cases h3 : (xc.toList == []) with
                | true =>
                  have HSK := Lib.hid (HSC.out.2 (Or.inl hP))
                  clear HSC hP
                  cases hs : scn R (nxtP T j) k with
                  | none =>
                    rw [hs] at HSK
                    simp only [nxS, hs, Option.isSome]
                    clear hs
                    go_wp2_with fail
                    go_roundw
                    case rel => exact ⟨k + 1, by omega, by first | (rw [HSK.out]; done) | (rw [HSK.out]; rfl), by first | (rw [HSK.out]; done) | (rw [HSK.out]; rfl), by go_num, HBV⟩
                    case measure => simp [intOf]; omega
                  | some m =>
                    rw [hs] at HSK
                    simp only [nxS, hs, Option.isSome]
                    clear hs
                    go_wp2_with fail
                    go_roundw
                    case rel => exact ⟨k + 1, by omega, by first | (rw [HSK.out]; done) | (rw [HSK.out]; rfl), by first | (rw [HSK.out]; done) | (rw [HSK.out]; rfl), by go_num, HBV⟩
                    case measure => simp [intOf]; omega
                | false =>
                  have HSK := Lib.hid (HSC.out.2 (Or.inl hP))
                  clear HSC hP
                  cases hs : scn R (nxtP T j) k with
                  | none =>
                    rw [hs] at HSK
                    simp only [nxS, hs, Option.isSome]
                    clear hs
                    go_wp2_with fail
                    go_roundw
                    case rel => exact ⟨k + 1, by omega, by first | (rw [HSK.out]; done) | (rw [HSK.out]; rfl), by first | (rw [HSK.out]; done) | (rw [HSK.out]; rfl), by go_num, HBV⟩
                    case measure => simp [intOf]; omega
                  | some m =>
                    rw [hs] at HSK
                    simp only [nxS, hs, Option.isSome]
                    clear hs
                    go_wp2_with fail
                    go_roundw
                    case rel => exact ⟨k + 1, by omega, by first | (rw [HSK.out]; done) | (rw [HSK.out]; rfl), by first | (rw [HSK.out]; done) | (rw [HSK.out]; rfl), by go_num, HBV⟩
                    case measure => simp [intOf]; omega
              · cases h3 : (xc.toList == []) with
                | true =>
                  have HSK := Lib.hid (HSC.out.2 (Or.inl hP))
                  clear HSC hP
                  cases hs : scn R (nxtP T j) k with
                  | none =>
                    rw [hs] at HSK
                    simp only [nxS, hs, Option.isSome]
                    clear hs
                    go_wp2_with fail
                    go_roundw
                    case rel => exact ⟨k + 1, by omega, by first | (rw [HSK.out]; done) | (rw [HSK.out]; rfl), by first | (rw [HSK.out]; done) | (rw [HSK.out]; rfl), by go_num, HBV⟩
                    case measure => simp [intOf]; omega
                  | some m =>
                    rw [hs] at HSK
                    simp only [nxS, hs, Option.isSome]
                    clear hs
                    go_wp2_with fail
                    go_roundw
                    case rel => exact ⟨k + 1, by omega, by first | (rw [HSK.out]; done) | (rw [HSK.out]; rfl), by first | (rw [HSK.out]; done) | (rw [HSK.out]; rfl), by go_num, HBV⟩
                    case measure => simp [intOf]; omega
                | false =>
                  have HSK := Lib.hid (HSC.out.2 (Or.inl hP))
                  clear HSC hP
                  cases hs : scn R (nxtP T j) k with
                  | none =>
                    rw [hs] at HSK
                    simp only [nxS, hs, Option.isSome]
                    clear hs
                    go_wp2_with fail
                    go_roundw
                    case rel => exact ⟨k + 1, by omega, by first | (rw [HSK.out]; done) | (rw [HSK.out]; rfl), by first | (rw [HSK.out]; done) | (rw [HSK.out]; rfl), by go_num, HBV⟩
                    case measure => simp [intOf]; omega
                  | some m =>
                    rw [hs] at HSK
                    simp only [nxS, hs, Option.isSome]
                    clear hs
                    go_wp2_with fail
                    go_roundw
                    case rel => exact ⟨k + 1, by omega, by first | (rw [HSK.out]; done) | (rw [HSK.out]; rfl), by first | (rw [HSK.out]; done) | (rw [HSK.out]; rfl), by go_num, HBV⟩
                    case measure => simp [intOf]; omega
      · have hke : len = k := by omega
        subst hke
        have hl : ¬ (len : Int) < (len : Int) := by omega
        have hsn := HSN.out j (by omega)
        rw [hsn]
        clear hsn
        have HBO := Lib.hid (HB.out.trans (HX.out.mono hszn))
        obtain ⟨wo, hwo⟩ : ∃ wo, wo = wr := ⟨_, rfl⟩
        subst hwo
        have HOO := Lib.hid (own_below HO.out HX.out)
        have HRO := Lib.hid (show ∀ p ∈ M, RdI wo p.1 p.2 from fun p hp => (HRD.out p hp).keep HX.out)
        have hszo : w.heap.size ≤ wo.heap.size := HBO.out.size
        clear HX HO HRD HB
        by_cases hjT : j < T.length
        · rw [dif_pos hjT]
          simp only [nxS, Option.isSome]
          have HGE := Lib.hid (show outK R len (T.take (j + 1)) = outK R len (T.take j) ++ outK R len [T[j]'hjT] by
            rw [List.take_succ_eq_append_getElem hjT]; unfold outK; rw [List.filterMap_append])
          obtain ⟨nx, hnx⟩ : ∃ nx, bs (T[j]'hjT) = nx := ⟨_, rfl⟩
          rw [hnx]
          have HNX := Lib.hid hnx
          have HO2 := Lib.hid (World.ownsRow_made (e := 3) (size := 1) (base := wo.heap.size) wo #[] 0 (Nat.le_refl _) (Nat.zero_le _) rfl)
          have HB2 := Lib.hid (show Below wo.heap.size wo (wo.alloc (.cells #[] 3)) from (by repeat (first | with_reducible exact Below.refl _ _ | (with_reducible refine Below.setCell ?_ (by first | exact Nat.le_refl _ | omega | (simp; done) | (simp; omega)) _) | (with_reducible refine Below.alloc ?_ (by first | exact Nat.le_refl _ | omega | (simp; done) | (simp; omega)) _) | with_reducible refine Below.drew ?_ | with_reducible refine bel_drewN ?_ _ | (with_reducible refine bel_by (by with_reducible assumption) (by first | exact Nat.le_refl _ | omega | (simp; done) | (simp; omega)) ?_))))
          clear hnx
          go_wp2_with fail
          go_loopw [9, 10] (fun s9 s10 wx => ∃ k : Nat, k ≤ len ∧ s10 = .int .i64 (k : Int) ∧ Hid (wx.ownsRow wo.heap.size 3 1 s9 (grpK R nx k).length (encI (grpK R nx k))) ∧ Hid (Below wo.heap.size wo wx)) (fun _ s10 _ => (len - (intOf s10)).toNat)
          case atStart => exact ⟨0, Nat.zero_le _, rfl, HO2, HB2⟩
          case round =>
            obtain ⟨k, hk, rfl, HL, HX⟩ := hrel
            clear HO2 HB2
            by_cases hlt : k < len
            · have hl : (k : Int) < (len : Int) := by omega
              have hkL : k < R.length := by omega
              have S := HS.out.keep (HBO.out.trans (HX.out.mono hszo))
              obtain rfl := S.ha (by omega)
              have sb := S.hb (by omega)
              have c0 := S.c0 k hkL
              have c1 := S.c1 k hkL
              have c2 := S.c2 k hkL
              have c3 := S.c3 k hkL
              have c4 := S.c4 k hkL
              have c5 := S.c5 k hkL
              have c6 := S.c6 k hkL
              have hx : R.getD k Rg.zero = R[k]'hkL := by simp [List.getD, hkL]
              have hgr : grpK R nx (k + 1) = if (R.getD k Rg.zero).k = true ∧ (R.getD k Rg.zero).c = nx then grpK R nx k ++ [k] else grpK R nx k := rfl
              rw [hx] at hgr
              have hgl := grpK_len R nx k
              clear S hx
              generalize R[k]'hkL = x at *
              obtain ⟨xk, xc, xg, xs, xn, xr, xj⟩ := x
              simp only at c0 c1 c2 c3 c4 c5 c6 hgr
              obtain ⟨I, hI⟩ : ∃ I, grpK R nx k = I := ⟨_, rfl⟩
              rw [hI] at HL hgr hgl
              clear hI
              have hszx : wo.heap.size ≤ wr.heap.size := HX.out.size
              obtain ⟨ai, ci, rfl⟩ := own_form HL.out
              cases xk with
              | false =>
                have HGR := Lib.hid (show grpK R nx (k + 1) = I by rw [hgr, if_neg (by simp)])
                clear hgr
                go_wp2_with fail
                go_roundw
                case rel => exact ⟨k + 1, by omega, by go_num, by rw [HGR.out]; exact HL, HX⟩
                case measure => simp [intOf]; omega
              | true =>
                cases hc : (xc.toList == nx.toList) with
                | false =>
                  have HGR := Lib.hid (show grpK R nx (k + 1) = I by rw [hgr, if_neg (fun h => by rw [h.2] at hc; simp at hc)])
                  clear hgr
                  go_wp2_with fail
                  go_roundw
                  case rel => exact ⟨k + 1, by omega, by go_num, by rw [HGR.out]; exact HL, HX⟩
                  case measure => simp [intOf]; omega
                | true =>
                  have HGR := Lib.hid (show grpK R nx (k + 1) = I ++ [k] by
                    rw [hgr, if_pos ⟨rfl, bs_inj (by rw [ba_list, ba_list]; simpa using hc)⟩])
                  clear hgr
                  have HO3 := Lib.hid (HL.out.alloc (.cells #[.int .i64 (k : Int)] 3))
                  have HB3 := Lib.hid (HX.out.alloc hszx (.cells #[.int .i64 (k : Int)] 3))
                  have HCE := Lib.hid (one_cell wr (.int .i64 (k : Int)) 3)
                  have HOL := Lib.hid (fun g h => HL.out.lt g h)
                  clear HL HX
                  go_wp2_with (at_builtin; go_loud (refine wpList_append_blk _ rfl _ _ 44 rfl wo.heap.size 3 iz (.int .i64 0) 1 8 Try.underlying44 hi hz0 hz1 hz2 rfl (by decide) _ _ _ rfl HO3.out ⟨wr.heap.size, 0, none⟩ 1 1 [.int .i64 (k : Int)] rfl rfl HCE.out ?n1 ?n2 ?n3 ?n4 (by decide) ?_))
                  case n1 => first | rfl | (intro u hu; simp only [List.mem_cons, List.not_mem_nil, or_false] at hu; rcases hu with rfl <;> rfl)
                  case n2 => unfold maxLen; omega
                  case n3 => omega
                  case n4 => first | omega | (simp; omega)
                  intro v' w7 ho hg hbk
                  have HO7 := Lib.hid (show w7.ownsRow wo.heap.size 3 1 v' (I ++ [k]).length (encI (I ++ [k])) by rw [List.length_append, List.length_singleton, encI_snoc]; exact ho)
                  have HB7 := Lib.hid (HB3.out.grown hg (by simp; omega) (fun g h => (HOL.out g h).1))
                  clear ho hg hbk HO3 HB3 HCE HOL
                  go_wp2_with fail
                  go_roundw
                  case rel => exact ⟨k + 1, by omega, by go_num, by rw [HGR.out]; exact HO7, HB7⟩
                  case measure => simp [intOf]; omega
            · have hke : len = k := by omega
              subst hke
              have hl : ¬ (len : Int) < (len : Int) := by omega
              obtain ⟨wq, hwq⟩ : ∃ wq, wq = wr := ⟨_, rfl⟩
              subst hwq
              have HBQ := Lib.hid (HBO.out.trans (HX.out.mono hszo))
              have HOQ := Lib.hid (own_below HOO.out HX.out)
              have HRQ := Lib.hid (show ∀ p ∈ M, RdI wq p.1 p.2 from fun p hp => (HRO.out p hp).keep HX.out)
              have HRI := Lib.hid (rdI_row HL.out)
              have hgl := grpK_len R nx len
              obtain ⟨I, hI⟩ : ∃ I, grpK R nx len = I := ⟨_, rfl⟩
              rw [hI] at HL HRI hgl
              have HII := Lib.hid hI
              obtain ⟨ai, ci, rfl⟩ := own_form HL.out
              have hszq : w.heap.size ≤ wq.heap.size := HBQ.out.size
              clear HX HOO HRO HBO HL hI
              by_cases hgt : I.length > 1
              · have g1 : (I.length : Int) > 1 := by omega
                have HE2 := Lib.hid (show (M ++ [(Value.slice ai I.length ci, I)]).map (·.2) = outK R len (T.take (j + 1)) from by
                  rw [HGE.out, List.map_append, HE.out]
                  refine congrArg (outK R len (T.take j) ++ ·) ?_
                  have h1 : grpK R (bs (T[j]'hjT)) len = I := by rw [HNX.out]; exact HII.out
                  unfold outK
                  rw [List.filterMap_cons, h1, if_pos hgt]
                  rfl)
                have HO3 := Lib.hid (HOQ.out.alloc (.cells #[.slice ai I.length ci] 44))
                have HB3 := Lib.hid (HBQ.out.alloc hszq (.cells #[.slice ai I.length ci] 44))
                have HCE := Lib.hid (one_cell wq (.slice ai I.length ci) 44)
                have HOL := Lib.hid (fun g h => HOQ.out.lt g h)
                have HOT := Lib.hid (own_type HO3.out (T := 3) (by decide))
                have HR3 := Lib.hid (show ∀ p ∈ M, RdI (wq.alloc (.cells #[.slice ai I.length ci] 44)) p.1 p.2 from fun p hp => (HRQ.out p hp).keep ((Below.refl _ _).alloc (Nat.le_refl _) _))
                have HR4 := Lib.hid (HRI.out.keep (show Below wq.heap.size wq (wq.alloc (.cells #[.slice ai I.length ci] 44)) from (Below.refl _ _).alloc (Nat.le_refl _) _))
                clear HOQ HBQ HRQ HRI HE
                go_wp2_with (at_builtin; go_loud (refine wpList_append_blk _ rfl _ _ 59 rfl w.heap.size 44 iz2 (.slice none 0 0) 1 24 Try.underlying59 hi2 hy0 hy1 hy2 rfl (by decide) _ _ _ rfl HO3.out ⟨wq.heap.size, 0, none⟩ 1 1 [.slice ai I.length ci] rfl rfl HCE.out ?n1 ?n2 ?n3 ?n4 (by decide) ?_))
                case n1 => first | rfl | (intro u hu; simp only [List.mem_cons, List.not_mem_nil, or_false] at hu; rcases hu with rfl <;> rfl)
                case n2 => unfold maxLen; omega
                case n3 => omega
                case n4 => first | omega | (simp; omega)
                intro v' w7 ho hg hbk
                obtain ⟨go2, co2, rfl⟩ : ∃ g c, v' = .slice (some ⟨g, 0, none⟩) (M.length + 1) c := by
                  rcases ho.2 with ⟨_, h0⟩ | ⟨g', cap', cur, rfl, _⟩
                  · omega
                  · exact ⟨g', cap', rfl⟩
                obtain ⟨M2, hM2⟩ : ∃ M2, M ++ [(Value.slice ai I.length ci, I)] = M2 := ⟨_, rfl⟩
                have hM2l : M.length + 1 = M2.length := by rw [← hM2, List.length_append, List.length_singleton]
                have HOQ := Lib.hid (show w7.ownsRow w.heap.size 44 1 (.slice (some ⟨go2, 0, none⟩) M2.length co2) M2.length (M2.map (·.1)) by rw [← hM2l, ← hM2, List.map_append]; exact ho)
                have HBQ := Lib.hid (HB3.out.grown hg (by simp; omega) (fun g h => (HOL.out g h).1))
                have HRQ := Lib.hid (show ∀ p ∈ M2, RdI w7 p.1 p.2 from fun p hp => by
                  rw [← hM2] at hp
                  rcases List.mem_append.1 hp with hp | hp
                  · exact (HR3.out p hp).grown hg HOT.out
                  · simp only [List.mem_singleton] at hp; subst hp; exact HR4.out.grown hg HOT.out)
                rw [hM2] at HE2
                rw [hM2l]
                have hM2b : M2.length ≤ j + 1 := by omega
                clear ho hg hbk HO3 HB3 HCE HOL HR3 HR4 HOT hM2 hM2l hszq
                generalize w7 = wq at *
                cases hemp : (nx.toList == []) with
                | true =>
                  have hnx := (emp_iff _).1 hemp
                  have hTj : T[j]'hjT = [] := by
                    have h1 : bs (T[j]'hjT) = ⟨#[]⟩ := HNX.out.trans hnx
                    have := congrArg (fun s => s.data.toList) h1
                    simpa [bs] using this
                  have hj0 : j = 0 := by
                    rcases Nat.eq_zero_or_pos j with h0 | h0
                    · exact h0
                    · exact absurd hTj (HJ.out h0 _ (List.getElem_mem _))
                  have HTL := Lib.hid (show ∃ tl, T = [] :: tl from by
                    subst hj0
                    cases T with
                    | nil => exact absurd hjT (by simp)
                    | cons x tl => exact ⟨tl, by simpa using hTj⟩)
                  have HE3 := Lib.hid (show M2.map (·.2) = outK R len [[]] from by
                    obtain ⟨tl, htl⟩ := HTL.out
                    have := HE2.out
                    rw [hj0, htl] at this
                    simpa using this)
                  have hM2 : M2.length ≤ 1 := by omega
                  clear hTj hnx
                  go_wp2_with fail
                  refine (HWO.out wq (HS.out.keep HBQ.out)).mono ?_
                  rintro e w8 ⟨hb8, v8, rfl, ho8⟩
                  obtain ⟨a8, b8, c8, rfl, sl8, _⟩ := slr_own ho8
                  rw [List.length_map, hl0] at sl8
                  rw [List.length_map, hl0]
                  have HS8 := Lib.hid sl8
                  have HB8 := Lib.hid (HBQ.out.trans (hb8.mono HBQ.out.size))
                  have HO8 := Lib.hid (own_below HOQ.out hb8)
                  have HR8 := Lib.hid (show ∀ p ∈ M2, RdI w8 p.1 p.2 from fun p hp => (HRQ.out p hp).keep hb8)
                  clear ho8 sl8 hb8 HBQ HOQ HRQ
                  obtain ⟨tl, htl⟩ := HTL.out
                  have HRC := Lib.hid (HREC.out tl htl w8 a8 b8 0 c8 HS8.out)
                  have HTL2 := Lib.hid htl
                  clear htl
                  go_wp2_with fail
                  refine HRC.out.mono ?_
                  rintro e w9 ⟨v9, M9, rfl, ho9, hr9, he9, hb9⟩
                  have HB9 := Lib.hid (HB8.out.trans (hb9.mono HB8.out.size))
                  have HO9 := Lib.hid (own_below HO8.out hb9)
                  have HR9 := Lib.hid (show ∀ p ∈ M2, RdI w9 p.1 p.2 from fun p hp => (HR8.out p hp).keep hb9)
                  have HR9b := Lib.hid hr9
                  have HE9 := Lib.hid he9
                  have HM9 := Lib.hid (show M9.length ≤ 1000 from by
                    have h1 := congrArg List.length he9
                    rw [List.length_map] at h1
                    have h2 : (outK (R.map barS) len (keysR (R.map barS) len)).length ≤ (keysR (R.map barS) len).length := List.length_filterMap_le ..
                    have h3 : (keysR (R.map barS) len).length ≤ len := by
                      unfold keysR; rw [List.length_mergeSort]
                      have : (strKeys (GD (R.map barS) len)).length = Maps.size (GD (R.map barS) len) := strKeys_len _
                      have := GD_size (R.map barS) len
                      omega
                    omega)
                  have HV9 := Lib.hid (show ∃ a9 c9, v9 = .slice a9 M9.length c9 ∧ (a9 = none → M9.length = 0 ∧ c9 = 0) ∧ (∀ ad, a9 = some ad → ∀ j u, (M9.map (·.1))[j]? = some u → w9.cell? (ad.add j) = some u) from by
                    have hc := ho9
                    rcases ho9.2 with ⟨rfl, h0⟩ | ⟨g, cap, cur, rfl, _⟩
                    · exact ⟨none, 0, by rw [h0], fun _ => ⟨h0, rfl⟩, fun ad h => by cases h⟩
                    · refine ⟨_, cap, rfl, (fun h => by cases h), fun ad h j u hu => ?_⟩
                      simp only [Option.some.injEq] at h
                      subst h
                      rw [Addr.add_lit, Nat.zero_add, hc.cellAt j (by
                        by_cases hh : j < (M9.map (·.1)).length
                        · simpa using hh
                        · rw [List.getElem?_eq_none (by omega)] at hu; exact absurd hu (by simp))]
                      exact hu)
                  have HOC := Lib.hid (show ∀ u ∈ M9.map (·.1), u.oneCell' = true from fun u hu => by
                    obtain ⟨p, hp, rfl⟩ := List.mem_map.1 hu
                    obtain ⟨a, g, cap, h1, _⟩ := hr9 p hp
                    rw [h1]; rfl)
                  obtain ⟨a9, c9, rfl, _, _⟩ := HV9.out
                  have HV9b := Lib.hid (show (a9 = none → M9.length = 0 ∧ c9 = 0) ∧ (∀ ad, a9 = some ad → ∀ j u, (M9.map (·.1))[j]? = some u → w9.cell? (ad.add j) = some u) from by
                    obtain ⟨a', c', h1, h2, h3⟩ := HV9.out
                    simp only [Value.slice.injEq, true_and] at h1
                    obtain ⟨rfl, rfl⟩ := h1
                    exact ⟨h2, h3⟩)
                  have HOT2 := Lib.hid (own_type HO9.out (T := 3) (by decide))
                  have hm9 := HM9.out
                  have HLM := Lib.hid (show (M9.map (·.1)).length = M9.length * 1 by simp)
                  have HBS := Lib.hid (show w.heap.size ≤ w9.heap.size from HB9.out.size)
                  clear ho9 hr9 he9 hb9 HV9 HM9 HO8 HR8 HB8 HRC HS8
                  go_wp2_with (at_builtin; go_loud (refine wpList_append_all _ rfl _ _ 59 rfl w.heap.size 44 iz2 (.slice none 0 0) 1 24 Try.underlying59 hi2 hy0 hy1 hy2 rfl (by decide) go2 M2.length co2 (M2.map (·.1)) rfl HO9.out a9 M9.length c9 (M9.map (·.1)) rfl HLM.out HV9b.out.1 HV9b.out.2 HOC.out (by unfold maxLen; omega) (by omega) HBS.out ?_))
                  intro g' cap' w10 ho10 hg10
                  have HFIN := Lib.hid (show RepPost w R len (.returned (.slice (some ⟨g', 0, none⟩) (M2.length + M9.length) cap')) w10 from by
                    unfold RepPost
                    refine ⟨.slice (some ⟨g', 0, none⟩) (M2.length + M9.length) cap', M2 ++ M9, rfl, by rw [List.length_append, List.map_append]; exact ho10, fun p hp => ?_, ?_, HB9.out.grown hg10 HBS.out (fun g h => (HO9.out.lt g h).1)⟩
                    · rcases List.mem_append.1 hp with hp | hp
                      · exact (HR9.out p hp).grown hg10 (fun r h => HOT2.out r h)
                      · exact (HR9b.out p hp).grown hg10 (fun r h => HOT2.out r h)
                    · rw [List.map_append, HE3.out, HE9.out]
                      exact (out_tail (HTT.out.trans HTL2.out)).symm)
                  clear ho10 hg10
                  go_wp2_with fail
                  go_ret
                  exact HFIN.out
                | false =>
                  have HJ2 := Lib.hid (show 0 < j + 1 → ∀ x ∈ T, x ≠ [] from fun _ => by
                    rcases Nat.eq_zero_or_pos j with h0 | h0
                    · subst h0
                      refine HNE.out hjT (fun h => ?_)
                      have h2 := hemp
                      rw [← HNX.out, h, ← ba_list, bs_data] at h2
                      exact absurd h2 (by decide)
                    · exact HJ.out h0)
                  have HLN := Lib.hid (show bs (lastT T (j + 1)) = nx from by
                    rw [← HNX.out]
                    unfold lastT
                    rw [if_neg (by omega), show T.getD (j + 1 - 1) [] = T[j]'hjT by simp [List.getD, hjT]])
                  go_wp2_with fail
                  go_roundg (gk - 1)
                  case measure => omega
                  case rel => exact ⟨j + 1, M2, go2, co2, by omega, by omega, rfl, by rw [HLN.out], HOQ, HBQ, HRQ, HE2, HJ2⟩
              · have g1 : ¬ (I.length : Int) > 1 := by omega
                have HE2 := Lib.hid (show M.map (·.2) = outK R len (T.take (j + 1)) from by
                  rw [HGE.out, HE.out]
                  have h1 : grpK R (bs (T[j]'hjT)) len = I := by rw [HNX.out]; exact HII.out
                  have h2 : outK R len [T[j]'hjT] = [] := by
                    unfold outK
                    rw [List.filterMap_cons, h1, if_neg hgt]
                    rfl
                  rw [h2, List.append_nil])
                obtain ⟨M2, hM2⟩ : ∃ M2, M2 = M := ⟨_, rfl⟩
                subst hM2
                obtain ⟨go2, hgo2⟩ : ∃ g, g = go := ⟨_, rfl⟩
                subst hgo2
                obtain ⟨co2, hco2⟩ : ∃ g, g = co := ⟨_, rfl⟩
                subst hco2
                have hM2b : M2.length ≤ j + 1 := by omega
                clear HE HRI
                cases hemp : (nx.toList == []) with
                | true =>
                  have hnx := (emp_iff _).1 hemp
                  have hTj : T[j]'hjT = [] := by
                    have h1 : bs (T[j]'hjT) = ⟨#[]⟩ := HNX.out.trans hnx
                    have := congrArg (fun s => s.data.toList) h1
                    simpa [bs] using this
                  have hj0 : j = 0 := by
                    rcases Nat.eq_zero_or_pos j with h0 | h0
                    · exact h0
                    · exact absurd hTj (HJ.out h0 _ (List.getElem_mem _))
                  have HTL := Lib.hid (show ∃ tl, T = [] :: tl from by
                    subst hj0
                    cases T with
                    | nil => exact absurd hjT (by simp)
                    | cons x tl => exact ⟨tl, by simpa using hTj⟩)
                  have HE3 := Lib.hid (show M2.map (·.2) = outK R len [[]] from by
                    obtain ⟨tl, htl⟩ := HTL.out
                    have := HE2.out
                    rw [hj0, htl] at this
                    simpa using this)
                  have hM2 : M2.length ≤ 1 := by omega
                  clear hTj hnx
                  go_wp2_with fail
                  refine (HWO.out wq (HS.out.keep HBQ.out)).mono ?_
                  rintro e w8 ⟨hb8, v8, rfl, ho8⟩
                  obtain ⟨a8, b8, c8, rfl, sl8, _⟩ := slr_own ho8
                  rw [List.length_map, hl0] at sl8
                  rw [List.length_map, hl0]
                  have HS8 := Lib.hid sl8
                  have HB8 := Lib.hid (HBQ.out.trans (hb8.mono HBQ.out.size))
                  have HO8 := Lib.hid (own_below HOQ.out hb8)
                  have HR8 := Lib.hid (show ∀ p ∈ M2, RdI w8 p.1 p.2 from fun p hp => (HRQ.out p hp).keep hb8)
                  clear ho8 sl8 hb8 HBQ HOQ HRQ
                  obtain ⟨tl, htl⟩ := HTL.out
                  have HRC := Lib.hid (HREC.out tl htl w8 a8 b8 0 c8 HS8.out)
                  have HTL2 := Lib.hid htl
                  clear htl
                  go_wp2_with fail
                  refine HRC.out.mono ?_
                  rintro e w9 ⟨v9, M9, rfl, ho9, hr9, he9, hb9⟩
                  have HB9 := Lib.hid (HB8.out.trans (hb9.mono HB8.out.size))
                  have HO9 := Lib.hid (own_below HO8.out hb9)
                  have HR9 := Lib.hid (show ∀ p ∈ M2, RdI w9 p.1 p.2 from fun p hp => (HR8.out p hp).keep hb9)
                  have HR9b := Lib.hid hr9
                  have HE9 := Lib.hid he9
                  have HM9 := Lib.hid (show M9.length ≤ 1000 from by
                    have h1 := congrArg List.length he9
                    rw [List.length_map] at h1
                    have h2 : (outK (R.map barS) len (keysR (R.map barS) len)).length ≤ (keysR (R.map barS) len).length := List.length_filterMap_le ..
                    have h3 : (keysR (R.map barS) len).length ≤ len := by
                      unfold keysR; rw [List.length_mergeSort]
                      have : (strKeys (GD (R.map barS) len)).length = Maps.size (GD (R.map barS) len) := strKeys_len _
                      have := GD_size (R.map barS) len
                      omega
                    omega)
                  have HV9 := Lib.hid (show ∃ a9 c9, v9 = .slice a9 M9.length c9 ∧ (a9 = none → M9.length = 0 ∧ c9 = 0) ∧ (∀ ad, a9 = some ad → ∀ j u, (M9.map (·.1))[j]? = some u → w9.cell? (ad.add j) = some u) from by
                    have hc := ho9
                    rcases ho9.2 with ⟨rfl, h0⟩ | ⟨g, cap, cur, rfl, _⟩
                    · exact ⟨none, 0, by rw [h0], fun _ => ⟨h0, rfl⟩, fun ad h => by cases h⟩
                    · refine ⟨_, cap, rfl, (fun h => by cases h), fun ad h j u hu => ?_⟩
                      simp only [Option.some.injEq] at h
                      subst h
                      rw [Addr.add_lit, Nat.zero_add, hc.cellAt j (by
                        by_cases hh : j < (M9.map (·.1)).length
                        · simpa using hh
                        · rw [List.getElem?_eq_none (by omega)] at hu; exact absurd hu (by simp))]
                      exact hu)
                  have HOC := Lib.hid (show ∀ u ∈ M9.map (·.1), u.oneCell' = true from fun u hu => by
                    obtain ⟨p, hp, rfl⟩ := List.mem_map.1 hu
                    obtain ⟨a, g, cap, h1, _⟩ := hr9 p hp
                    rw [h1]; rfl)
                  obtain ⟨a9, c9, rfl, _, _⟩ := HV9.out
                  have HV9b := Lib.hid (show (a9 = none → M9.length = 0 ∧ c9 = 0) ∧ (∀ ad, a9 = some ad → ∀ j u, (M9.map (·.1))[j]? = some u → w9.cell? (ad.add j) = some u) from by
                    obtain ⟨a', c', h1, h2, h3⟩ := HV9.out
                    simp only [Value.slice.injEq, true_and] at h1
                    obtain ⟨rfl, rfl⟩ := h1
                    exact ⟨h2, h3⟩)
                  have HOT2 := Lib.hid (own_type HO9.out (T := 3) (by decide))
                  have hm9 := HM9.out
                  have HLM := Lib.hid (show (M9.map (·.1)).length = M9.length * 1 by simp)
                  have HBS := Lib.hid (show w.heap.size ≤ w9.heap.size from HB9.out.size)
                  clear ho9 hr9 he9 hb9 HV9 HM9 HO8 HR8 HB8 HRC HS8
                  go_wp2_with (at_builtin; go_loud (refine wpList_append_all _ rfl _ _ 59 rfl w.heap.size 44 iz2 (.slice none 0 0) 1 24 Try.underlying59 hi2 hy0 hy1 hy2 rfl (by decide) go2 M2.length co2 (M2.map (·.1)) rfl HO9.out a9 M9.length c9 (M9.map (·.1)) rfl HLM.out HV9b.out.1 HV9b.out.2 HOC.out (by unfold maxLen; omega) (by omega) HBS.out ?_))
                  intro g' cap' w10 ho10 hg10
                  have HFIN := Lib.hid (show RepPost w R len (.returned (.slice (some ⟨g', 0, none⟩) (M2.length + M9.length) cap')) w10 from by
                    unfold RepPost
                    refine ⟨.slice (some ⟨g', 0, none⟩) (M2.length + M9.length) cap', M2 ++ M9, rfl, by rw [List.length_append, List.map_append]; exact ho10, fun p hp => ?_, ?_, HB9.out.grown hg10 HBS.out (fun g h => (HO9.out.lt g h).1)⟩
                    · rcases List.mem_append.1 hp with hp | hp
                      · exact (HR9.out p hp).grown hg10 (fun r h => HOT2.out r h)
                      · exact (HR9b.out p hp).grown hg10 (fun r h => HOT2.out r h)
                    · rw [List.map_append, HE3.out, HE9.out]
                      exact (out_tail (HTT.out.trans HTL2.out)).symm)
                  clear ho10 hg10
                  go_wp2_with fail
                  go_ret
                  exact HFIN.out
                | false =>
                  have HJ2 := Lib.hid (show 0 < j + 1 → ∀ x ∈ T, x ≠ [] from fun _ => by
                    rcases Nat.eq_zero_or_pos j with h0 | h0
                    · subst h0
                      refine HNE.out hjT (fun h => ?_)
                      have h2 := hemp
                      rw [← HNX.out, h, ← ba_list, bs_data] at h2
                      exact absurd h2 (by decide)
                    · exact HJ.out h0)
                  have HLN := Lib.hid (show bs (lastT T (j + 1)) = nx from by
                    rw [← HNX.out]
                    unfold lastT
                    rw [if_neg (by omega), show T.getD (j + 1 - 1) [] = T[j]'hjT by simp [List.getD, hjT]])
                  go_wp2_with fail
                  go_roundg (gk - 1)
                  case measure => omega
                  case rel => exact ⟨j + 1, M2, go2, co2, by omega, by omega, rfl, by rw [HLN.out], HOQ, HBQ, HRQ, HE2, HJ2⟩
        · rw [dif_neg hjT]
          simp only [nxS, Option.isSome]
          have hjl : j = T.length := by omega
          have HE2 := Lib.hid (show M.map (·.2) = outK R len T from by have := HE.out; rwa [hjl, List.take_length] at this)
          clear hjl
          have HFIN := Lib.hid (show RepPost w R len (.returned (.slice (some ⟨go, 0, none⟩) M.length co)) wo from by
            unfold RepPost
            exact ⟨_, M, rfl, HOO.out, HRO.out, by rw [HTT.out]; exact HE2.out, HBO.out⟩)
          go_wp2_with fail
          go_ret
          exact HFIN.out
end Go.Proofs.Ytlleebgkglbelaa
