/- The reference's functions on sets: Set. -/
import Derived.Test.YtflpehpjemlphaaDoorInsP
import Derived.Test.YtflpehpjemlphaaDoorApe
import Derived.Test.YtflpehpjemlphaaDoorRgn
import Derived.Deep.AppendLies
set_option linter.unusedSimpArgs false
set_option linter.unusedVariables false
namespace Go.Proofs.YtflpehpjemlphaaDoor
open Go.RowKit

theorem one_cell {w : World} {b : Nat} {u : Value} (h : w.cell? ⟨b, 0, none⟩ = some u) : ∀ ad, some (⟨b, 0, none⟩ : Addr) = some ad → ∀ j v, [u][j]? = some v → w.cell? (ad.add j) = some v := by
  intro ad ha j v hj
  obtain rfl := Option.some.inj ha
  cases j with
  | zero =>
    simp only [List.getElem?_cons_zero, Option.some.injEq] at hj
    rw [Addr.add_lit, ← hj]; exact h
  | succ j => simp at hj
theorem head_news {w : World} {g n cv : Nat} {O : List ByteArray} (h : SlS w (some ⟨g, 0, none⟩) g 0 n cv O) (t : Nat) : ∀ W, Below w.heap.size w W → ∀ ad, some (⟨g, 0, none⟩ : Addr) = some ad → ∀ j u, ((O.take t).map Value.string)[j]? = some u → W.cell? (ad.add j) = some u := by
  intro W hW ad ha j u hu
  refine (h.keep hW).news ad ha j u ?_
  rw [List.getElem?_map] at hu ⊢
  by_cases hj : j < t
  · rw [List.getElem?_take_of_lt hj] at hu; exact hu
  · rw [List.getElem?_take_eq_none (by omega)] at hu; simp at hu
theorem tail_news {w : World} {g n cv : Nat} {O : List ByteArray} (h : SlS w (some ⟨g, 0, none⟩) g 0 n cv O) {t q : Nat} (ht : t ≤ n) (hq : (t = n ∧ q = 0) ∨ q = t) : ∀ W, Below w.heap.size w W → ∀ ad, some (⟨g, q, none⟩ : Addr) = some ad → ∀ j u, ((O.drop t).map Value.string)[j]? = some u → W.cell? (ad.add j) = some u := by
  intro W hW ad ha j u hu
  obtain rfl := Option.some.inj ha
  rw [List.getElem?_map, List.getElem?_drop] at hu
  rcases hq with ⟨e, _⟩ | rfl
  · rw [List.getElem?_eq_none (by rw [h.hl]; omega)] at hu; simp at hu
  · have := (h.keep hW).news ⟨g, 0, none⟩ rfl (q + j) u (by rw [List.getElem?_map]; exact hu)
    rw [Addr.add_lit] at this ⊢
    rw [Nat.zero_add] at this
    exact this
theorem ins_at_len {x : ByteArray} {O : List ByteArray} {n : Nat} (h : InsAt x O n) (hn : O.length = n) : insL x O = O.take n ++ (x :: O.drop n) := ins_new h (fun hh => by omega)
set_option maxHeartbeats 8000000 in
set_option maxRecDepth 100000 in
theorem rset_any {a : Option Addr} {b off len cap : Nat} {L : List ByteArray} {w : World} (h : SlS w a b off len cap L) (hlen : len ≤ 1000) :
    Calls Tryd.prog 10 #[.slice a len cap] w (CatPost w (setL L)) := by
  obtain ⟨i0, hi, hz0, hz1, hz2⟩ := info_parts infoS
  have HS := Lib.hid h
  have HL := Lib.hid h.hl
  have hcap := h.hcap
  have hmax := h.hmax
  unfold maxLen at hmax
  have HT := Lib.hid (fun k (hk : k < L.length) => @set_take L k hk)
  have HSL := Lib.hid (fun k => show (setL (L.take k)).length ≤ k from Nat.le_trans (set_len _) (by rw [List.length_take]; exact Nat.min_le_left _ _))
  have HALL := Lib.hid (show setL (L.take len) = setL L by rw [List.take_of_length_le (by rw [h.hl]; exact Nat.le_refl _)])
  clear h
  go_enter Tryd.func10, Tryd.ntmps10
  go_wp2_with fail
  have HO0 := Lib.hid (show (w.alloc (.cells #[] 9)).ownsRow w.heap.size 9 1 (.slice (some ⟨w.heap.size, 0, none⟩) 0 0) 0 (([] : List ByteArray).map Value.string) from World.ownsRow_made w #[] 0 (Nat.le_refl _) (Nat.zero_le _) (by simp))
  have HB0 := Lib.hid (show Below w.heap.size w (w.alloc (.cells #[] 9)) from (Below.refl _ _).alloc (Nat.le_refl _) _)
  go_loopw [3, 4] (fun s3 s4 wr => ∃ (i g cv n : Nat) (O : List ByteArray), i ≤ len ∧ s3 = .slice (some ⟨g, 0, none⟩) n cv ∧ s4 = .int .i64 (i : Int) ∧ Hid (O = setL (L.take i)) ∧ Hid (O.length = n) ∧ Hid (wr.ownsRow w.heap.size 9 1 (.slice (some ⟨g, 0, none⟩) n cv) n (O.map Value.string)) ∧ Hid (Below w.heap.size w wr)) (fun _ s4 _ => (len - (intOf s4)).toNat)
  case atStart => exact ⟨0, _, 0, 0, [], Nat.zero_le _, rfl, rfl, Lib.hid rfl, Lib.hid rfl, HO0, HB0⟩
  case round =>
    obtain ⟨i, g, cv, n, O, hi', rfl, rfl, HEQ, HON, HO, HB⟩ := hrel
    clear HO0 HB0
    by_cases hlt : i < len
    · have l1 : (i : Int) < (len : Int) := by omega
      have hiL : i < L.length := by rw [HL.out]; exact hlt
      obtain rfl := HS.out.ha (by omega)
      have SA := HS.out.keep HB.out
      have cx := SA.cell i hiL
      have hbx := SA.hb (by omega)
      have HNX := Lib.hid (show setL (L.take (i + 1)) = insL (L[i]'hiL) O by rw [HT.out i hiL, HEQ.out])
      have hn := HSL.out i
      rw [← HEQ.out, HON.out] at hn
      obtain ⟨a9, b9, c9, hv9, hsO, _⟩ := own_any (L := O) (by rw [HON.out]; exact HO.out)
      rw [HON.out] at hv9 hsO
      simp only [Value.slice.injEq, true_and] at hv9
      obtain ⟨h9, rfl⟩ := hv9
      subst h9
      have HSO0 := Lib.hid (show SlS wr (some ⟨g, 0, none⟩) g 0 n cv O by
        by_cases h0 : 0 < n
        · have := hsO.ha h0
          simp only [Option.some.injEq, Addr.mk.injEq, and_true] at this
          obtain rfl := this
          exact hsO
        · exact ⟨hsO.hl, fun h => absurd h h0, fun h => absurd h h0, hsO.hcap, hsO.hmax, fun k hk => absurd hk (by have := hsO.hl; omega)⟩)
      have hcv := hsO.hcap
      have hcm := hsO.hmax
      unfold maxLen at hcm
      have hgw := (HO.out.lt g rfl).2
      clear SA hsO
      generalize L[i]'hiL = x at *
      obtain ⟨W1, hW1⟩ : ∃ W1, W1 = wr := ⟨_, rfl⟩
      subst hW1
      go_wp2_with fail
      go_loopw [5] (fun s5 wi => ∃ (t q : Nat), t ≤ n ∧ s5 = .int .i64 (t : Int) ∧ Hid (InsAt x O t) ∧ W1.drewN q = wi) (fun s5 _ => (n - (intOf s5)).toNat)
      case atStart => exact ⟨0, 0, Nat.zero_le _, rfl, Lib.hid ⟨Nat.zero_le _, fun j h hj => absurd hj (Nat.not_lt_zero _)⟩, by simp [World.drewN_zero]⟩
      case round =>
        obtain ⟨t, q, ht, rfl, HI, rfl⟩ := hrel
        have cx1 : (W1.drewN q).cell? ⟨b, off + i, none⟩ = some (.string x) := cx
        have hbx1 : b < (W1.drewN q).heap.size := hbx
        by_cases htn : t < n
        · have l2 : (t : Int) < (n : Int) := by omega
          have l3 : decide ((t : Int) < (n : Int)) = true := decide_eq_true l2
          have l4 : ((t : Int) == (n : Int)) = false := by rw [beq_eq_false_iff_ne]; omega
          have htO : t < O.length := by rw [HON.out]; exact htn
          have co : (W1.drewN q).cell? ⟨g, t, none⟩ = some (.string (O[t]'htO)) := by
            have := HSO0.out.cell t htO
            rw [Nat.zero_add] at this
            exact this
          have hgw1 : g < (W1.drewN q).heap.size := hgw
          cases hls : lessB (O[t]'htO) x with
          | true =>
            have HI2 := Lib.hid (show InsAt x O (t + 1) from ⟨by omega, fun j h hj => by
              by_cases e : j = t
              · subst e; exact hls
              · exact HI.out.2 j h (by omega)⟩)
            unfold lessB at hls
            generalize hwn : W1.drewN q = wn at *
            have HWN := Lib.hid hwn
            clear hwn
            go_wp2_with fail
            go_quiet (fail)
            go_wp2_with fail
            go_roundw
            case rel => exact ⟨t + 1, q + nq, by omega, by go_num, HI2, by rw [← HWN.out, World.drewN_drewN]⟩
            case measure => simp [intOf]; omega
          | false =>
            by_cases hxe : O[t]'htO = x
            · have HINS := Lib.hid (ins_old HI.out htO hxe)
              have l5 : ((O[t]'htO).toList == x.toList) = true := eq_iff.2 hxe
              have l6 : ((O[t]'htO).toList != x.toList) = false := by rw [bne, l5]; rfl
              unfold lessB at hls
              generalize O[t]'htO = y at *
              clear hxe
              generalize hwn : W1.drewN q = wn at *
              have HWN := Lib.hid hwn
              clear hwn
              go_wp2_with fail
              go_quiet (fail)
              obtain ⟨nq1, hnq1⟩ : ∃ z, z = nq := ⟨_, rfl⟩
              subst hnq1
              go_wp2_with fail
              go_quiet (fail)
              go_wp2_with fail
              have HB2 := Lib.hid (show Below w.heap.size w (wn.drewN (nq1 + nq)) by rw [← HWN.out]; exact bel_drewN (bel_drewN HB.out q) (nq1 + nq))
              have HO2 := Lib.hid (show (wn.drewN (nq1 + nq)).ownsRow w.heap.size 9 1 (.slice (some ⟨g, 0, none⟩) n cv) n (O.map Value.string) by rw [← HWN.out]; exact HO.out)
              go_roundw
              case rel => exact ⟨i + 1, g, cv, n, O, by omega, rfl, by go_num, Lib.hid (by rw [HNX.out, HINS.out]), HON, HO2, HB2⟩
              case measure => simp [intOf]; omega
            · have HINS := Lib.hid (ins_new HI.out (fun _ => ⟨hls, hxe⟩))
              have l5 : ((O[t]'htO).toList == x.toList) = false := eq_no.2 hxe
              have l6 : ((O[t]'htO).toList != x.toList) = true := by rw [bne, l5]; rfl
              unfold lessB at hls
              generalize O[t]'htO = y at *
              generalize hwn : W1.drewN q = wn at *
              have HWN := Lib.hid hwn
              clear hwn
              go_wp2_with fail
              go_quiet (fail)
              obtain ⟨nq1, hnq1⟩ : ∃ z, z = nq := ⟨_, rfl⟩
              subst hnq1
              go_wp2_with fail
              go_quiet (fail)
              go_wp2_with fail
              have hct : ¬ cv = t := by omega
              have hct2 : ¬ t = cv := by omega
              have HB2 := Lib.hid (show Below w.heap.size w ((wn.drewN nq1).drewN nq) by rw [← HWN.out]; exact bel_drewN (bel_drewN (bel_drewN HB.out q) nq1) nq)
              have HSO := Lib.hid (show SlS ((wn.drewN nq1).drewN nq) (some ⟨g, 0, none⟩) g 0 n cv O by rw [← HWN.out]; exact ((HSO0.out.drewN q).drewN nq1).drewN nq)
              have cxw : ((wn.drewN nq1).drewN nq).cell? ⟨b, off + i, none⟩ = some (.string x) := cx1
              have hbw : b < ((wn.drewN nq1).drewN nq).heap.size := hbx1
              have HPL := Lib.hid (show ((O.take t).map Value.string).length = t * 1 by rw [List.length_map, List.length_take, HON.out]; omega)
              have HDL := Lib.hid (show ((O.drop t).map Value.string).length = (n - t) * 1 by rw [List.length_map, List.length_drop, HON.out]; omega)
              have HPN := Lib.hid (head_news HSO.out t)
              have sl1 : (0 : Int) ≤ (t : Int) := by omega
              have sl2 : (t : Int) ≤ (n : Int) := by omega
              have sl3 : (n : Int) ≤ (cv : Int) := by omega
              have sl4 : (t : Int) ≤ (cv : Int) := by omega
              have sl5 : ¬ cv < t := by omega
              have sl6 : ¬ n < t := by omega
              clear HWN cx cx1 hbx hbx1 hgw HO HB HSO0 HEQ HI HS HL HT HSL HALL
              generalize ((wn.drewN nq1).drewN nq) = W2 at *
              have HDN := Lib.hid (tail_news HSO.out (t := t) (by omega) (Or.inr rfl))
              refine wp_region_s (fun w' => w'.cell? ⟨b, off + i, none⟩ = some (.string x)) 10 (by kernel_rfl) ?_
              have HW0 := Lib.hid (show Below W2.heap.size W2 W2.drew from (Below.refl _ _).drew)
              have cx0 := (HW0.out.cell (p := ⟨b, off + i, none⟩) hbw).trans cxw
              generalize W2.drew = V0 at *
              refine AnyS.take0 (i := 1) (v := (.slice (some ⟨g, 0, none⟩) n cv)) rfl (by kernel_rfl) (by kernel_rfl) (by kernel_rfl) (by kernel_rfl) (fun _ _ _ h => h) (fun _ => cx0) (Or.inl ⟨by rfl, fun w' _ => (by go_simp)⟩) ?_
              try simp only [Act.put, List.setIfInBounds_toArray, List.set_cons_zero, List.set_cons_succ]
              refine AnyS.take0 (i := 2) (v := (.int .i64 (t : Int))) rfl (by kernel_rfl) (by kernel_rfl) (by kernel_rfl) (by kernel_rfl) (fun _ _ _ h => h) (fun _ => cx0) (Or.inl ⟨by rfl, fun w' _ => (by go_simp)⟩) ?_
              try simp only [Act.put, List.setIfInBounds_toArray, List.set_cons_zero, List.set_cons_succ]
              refine AnyS.take0 (i := 3) (v := (.slice (some ⟨g, 0, none⟩) t cv)) rfl (by kernel_rfl) (by kernel_rfl) (by kernel_rfl) (by kernel_rfl) (fun _ _ _ h => h) (fun _ => cx0) (Or.inl ⟨by rfl, fun w' _ => (by go_simp)⟩) ?_
              try simp only [Act.put, List.setIfInBounds_toArray, List.set_cons_zero, List.set_cons_succ]
              refine AnyS.take0 (i := 5) (v := (.slice (some ⟨b, off, none⟩) len cap)) rfl (by kernel_rfl) (by kernel_rfl) (by kernel_rfl) (by kernel_rfl) (fun _ _ _ h => h) (fun _ => cx0) (Or.inl ⟨by rfl, fun w' _ => (by go_simp)⟩) ?_
              try simp only [Act.put, List.setIfInBounds_toArray, List.set_cons_zero, List.set_cons_succ]
              refine AnyS.take0 (i := 6) (v := (.int .i64 (i : Int))) rfl (by kernel_rfl) (by kernel_rfl) (by kernel_rfl) (by kernel_rfl) (fun _ _ _ h => h) (fun _ => cx0) (Or.inl ⟨by rfl, fun w' _ => (by go_simp)⟩) ?_
              try simp only [Act.put, List.setIfInBounds_toArray, List.set_cons_zero, List.set_cons_succ]
              refine AnyS.take0 (i := 7) (v := (.pointer (some ⟨b, off + i, none⟩))) rfl (by kernel_rfl) (by kernel_rfl) (by kernel_rfl) (by kernel_rfl) (fun _ _ _ h => h) (fun _ => cx0) (Or.inl ⟨by rfl, fun w' _ => (by go_simp)⟩) ?_
              try simp only [Act.put, List.setIfInBounds_toArray, List.set_cons_zero, List.set_cons_succ]
              refine AnyS.take (i := 8) (v := (.string x)) [9, 10] rfl (by kernel_rfl) (by kernel_rfl) (by kernel_rfl) (by kernel_rfl) (fun _ _ _ h => h) cx0 (Or.inl ⟨by rfl, fun w' hw' => (by go_simp)⟩) ?_
              try simp only [Act.put, List.setIfInBounds_toArray, List.set_cons_zero, List.set_cons_succ]
              refine AnyS.take0 (i := 11) (v := (.slice (some ⟨g, 0, none⟩) n cv)) rfl (by kernel_rfl) (by kernel_rfl) (by kernel_rfl) (by kernel_rfl) (fun _ _ _ h => h) (fun _ => cx0) (Or.inl ⟨by rfl, fun w' _ => (by go_simp)⟩) ?_
              try simp only [Act.put, List.setIfInBounds_toArray, List.set_cons_zero, List.set_cons_succ]
              refine AnyS.take0 (i := 12) (v := (.int .i64 (t : Int))) rfl (by kernel_rfl) (by kernel_rfl) (by kernel_rfl) (by kernel_rfl) (fun _ _ _ h => h) (fun _ => cx0) (Or.inl ⟨by rfl, fun w' _ => (by go_simp)⟩) ?_
              try simp only [Act.put, List.setIfInBounds_toArray, List.set_cons_zero, List.set_cons_succ]
              refine AnyS.take0 (i := 13) (v := (.slice (some ⟨g, t, none⟩) (n - t) (cv - t))) rfl (by kernel_rfl) (by kernel_rfl) (by kernel_rfl) (by kernel_rfl) (fun _ _ _ h => h) (fun _ => cx0) (Or.inl ⟨by rfl, fun w' _ => (by go_simp)⟩) ?_
              try simp only [Act.put, List.setIfInBounds_toArray, List.set_cons_zero, List.set_cons_succ]
              refine AnyS.step2 (i := 0) (j := 9) rfl rfl (by kernel_rfl) (fun K hK => ?_) (fun K hK => ?_)
              · go_simp
                have HK := Lib.hid (show Below V0.heap.size V0 (V0.alloc (.cells #[] 9)) from (Below.refl _ _).alloc (Nat.le_refl _) _)
                have hsz1 : V0.heap.size + 1 ≤ (V0.alloc (.cells #[] 9)).heap.size := by simp
                have HW1 := Lib.hid (HW0.out.trans (HK.out.mono HW0.out.size))
                have cx1 := (HW1.out.cell (p := ⟨b, off + i, none⟩) hbw).trans cxw
                have Hg0 := Lib.hid (show (V0.alloc (.cells #[] 9)).ownsRow W2.heap.size 9 1 (.slice (some ⟨V0.heap.size, 0, none⟩) 0 0) 0 [] from World.ownsRow_made V0 #[] 0 HW0.out.size (Nat.zero_le _) (by simp))
                refine hK.out _ _ (fun _ => cx1) ?_
                clear hK HK cx0
                obtain ⟨g0, hg0⟩ : ∃ q, V0.heap.size = q := ⟨_, rfl⟩
                rw [hg0] at hsz1 Hg0 ⊢
                generalize (V0.alloc (.cells #[] 9)) = V1 at *
                try simp only [Act.put, List.setIfInBounds_toArray, List.set_cons_zero, List.set_cons_succ]
                refine AnyS.step2 (i := 4) (j := 9) rfl rfl (by kernel_rfl) (fun K hK => ?_) (fun K hK => ?_)
                · refine wp_append_every rfl _ _ 22 rfl W2.heap.size 9 i0 (.string ⟨#[]⟩) 1 16 Tryd.underlying22 hi hz0 hz1 hz2 rfl (by decide) (.slice (some ⟨g0, 0, none⟩) 0 0) 0 [] rfl Hg0.out (some ⟨g, 0, none⟩) t cv ((O.take t).map Value.string) rfl HPL.out (fun h => by cases h) (HPN.out _ HW1.out) (strs_one _) (by unfold maxLen; omega) (by omega) HW1.out.size ?_
                  intro v1 V2 ho hg
                  have HW2 := Lib.hid (HW1.out.grown hg HW1.out.size (fun j hj => (Hg0.out.lt j hj).1))
                  have cx2 := (HW2.out.cell (p := ⟨b, off + i, none⟩) hbw).trans cxw
                  have hsz2 := hg.size
                  have HO := Lib.hid ho
                  refine hK.out _ _ (fun _ => cx2) ?_
                  clear hK ho hg cx1 Hg0
                  try simp only [Act.put, List.setIfInBounds_toArray, List.set_cons_zero, List.set_cons_succ]
                  refine AnyS.step (j := 9) rfl (by kernel_rfl) (fun K hK => ?_)
                  go_simp
                  have HK := Lib.hid (show Below V2.heap.size V2 (V2.alloc (.cells #[.string x] 9)) from (Below.refl _ _).alloc (Nat.le_refl _) _)
                  have hsz3 : V2.heap.size + 1 ≤ (V2.alloc (.cells #[.string x] 9)).heap.size := by simp
                  have HW3 := Lib.hid (HW2.out.trans (HK.out.mono HW2.out.size))
                  have cx3 := (HW3.out.cell (p := ⟨b, off + i, none⟩) hbw).trans cxw
                  have Hbx := Lib.hid (show (V2.alloc (.cells #[.string x] 9)).cell? ⟨V2.heap.size, 0, none⟩ = some (.string x) by simp [go_sem])
                  replace HO := Lib.hid (HO.out.alloc (.cells #[.string x] 9))
                  refine hK.out _ _ (fun _ => cx3) ?_
                  clear hK HK cx2
                  obtain ⟨bx, hbx⟩ : ∃ q, V2.heap.size = q := ⟨_, rfl⟩
                  rw [hbx] at hsz3 Hbx ⊢
                  generalize (V2.alloc (.cells #[.string x] 9)) = V3 at *
                  try simp only [Act.put, List.setIfInBounds_toArray, List.set_cons_zero, List.set_cons_succ]
                  refine AnyS.step (j := 10) rfl (by kernel_rfl) (fun K hK => ?_)
                  refine wp_append_every rfl _ _ 22 rfl W2.heap.size 9 i0 (.string ⟨#[]⟩) 1 16 Tryd.underlying22 hi hz0 hz1 hz2 rfl (by decide) v1 (0 + t) ([] ++ (O.take t).map Value.string) rfl HO.out (some ⟨bx, 0, none⟩) 1 1 [.string x] rfl rfl (fun h => by cases h) (one_cell Hbx.out) (by intro u hu; rw [List.mem_singleton] at hu; subst hu; rfl) (by unfold maxLen; omega) (by omega) HW3.out.size ?_
                  intro v2 V8 ho hg
                  have HW8 := Lib.hid (HW3.out.grown hg HW3.out.size (fun j hj => (HO.out.lt j hj).1))
                  have HO8 := Lib.hid ho
                  refine hK.out _ _ (fun e => absurd e (by decide)) ?_
                  clear hK ho hg
                  try simp only [Act.put, List.setIfInBounds_toArray, List.set_cons_zero, List.set_cons_succ]
                  refine AnyS.step (j := 14) rfl (by kernel_rfl) (fun K hK => ?_)
                  refine wp_append_every rfl _ _ 22 rfl W2.heap.size 9 i0 (.string ⟨#[]⟩) 1 16 Tryd.underlying22 hi hz0 hz1 hz2 rfl (by decide) v2 (0 + t + 1) ([] ++ (O.take t).map Value.string ++ [.string x]) rfl HO8.out (some ⟨g, t, none⟩) (n - t) (cv - t) ((O.drop t).map Value.string) rfl HDL.out (fun h => by cases h) (HDN.out _ HW8.out) (strs_one _) (by unfold maxLen; omega) (by omega) HW8.out.size ?_
                  intro v3 V9 ho hg
                  have HW9 := Lib.hid (HW8.out.grown hg HW8.out.size (fun j hj => (HO8.out.lt j hj).1))
                  refine hK.out _ _ (fun e => absurd e (by decide)) ?_
                  obtain ⟨g3, cv3, rfl, _, _⟩ := World.ownsRow.form ho (by omega)
                  have HO9 := Lib.hid (show V9.ownsRow w.heap.size 9 1 (.slice (some ⟨g3, 0, none⟩) (0 + t + 1 + (n - t)) cv3) (0 + t + 1 + (n - t)) ((insL x O).map Value.string) from by
                    have h1 := HINS.out
                    have h2 : [] ++ (O.take t).map Value.string ++ [Value.string x] ++ (O.drop t).map Value.string = (insL x O).map Value.string := by rw [h1]; simp
                    rw [← h2]
                    exact own_low ho HB2.out.size)
                  have hlen := ho.1
                  clear hK ho hg
                  try simp only [Act.put, List.setIfInBounds_toArray, List.set_cons_zero, List.set_cons_succ]
                  refine AnyS.rest 15 (by kernel_rfl) rfl (by kernel_rfl) ?_
                  change wpList _ _ _ [_] _ _
                  have HB9 := Lib.hid (HB2.out.trans (HW9.out.mono HB2.out.size))
                  have HIL := Lib.hid (show (insL x O).length = 0 + t + 1 + (n - t) by rw [HINS.out]; simp; have := HON.out; omega)
                  obtain ⟨N9, hN9⟩ : ∃ N, 0 + t + 1 + (n - t) = N := ⟨_, rfl⟩
                  rw [hN9] at HIL HO9 ⊢
                  clear hN9
                  go_wp2_with fail
                  go_roundw
                  case rel => exact ⟨i + 1, g3, cv3, _, insL x O, by omega, rfl, by go_num, Lib.hid (by rw [HNX.out]), HIL, HO9, HB9⟩
                  case measure => simp [intOf]; omega
                · go_simp
                  have HK := Lib.hid (show Below V1.heap.size V1 (V1.alloc (.cells #[.string x] 9)) from (Below.refl _ _).alloc (Nat.le_refl _) _)
                  have hsz2 : V1.heap.size + 1 ≤ (V1.alloc (.cells #[.string x] 9)).heap.size := by simp
                  have HW2 := Lib.hid (HW1.out.trans (HK.out.mono HW1.out.size))
                  have cx2 := (HW2.out.cell (p := ⟨b, off + i, none⟩) hbw).trans cxw
                  have Hbx := Lib.hid (show (V1.alloc (.cells #[.string x] 9)).cell? ⟨V1.heap.size, 0, none⟩ = some (.string x) by simp [go_sem])
                  replace Hg0 := Lib.hid (Hg0.out.alloc (.cells #[.string x] 9))
                  refine hK.out _ _ (fun _ => cx2) ?_
                  clear hK HK cx1
                  obtain ⟨bx, hbx⟩ : ∃ q, V1.heap.size = q := ⟨_, rfl⟩
                  rw [hbx] at hsz2 Hbx ⊢
                  generalize (V1.alloc (.cells #[.string x] 9)) = V2 at *
                  try simp only [Act.put, List.setIfInBounds_toArray, List.set_cons_zero, List.set_cons_succ]
                  refine AnyS.step (j := 4) rfl (by kernel_rfl) (fun K hK => ?_)
                  refine wp_append_every rfl _ _ 22 rfl W2.heap.size 9 i0 (.string ⟨#[]⟩) 1 16 Tryd.underlying22 hi hz0 hz1 hz2 rfl (by decide) (.slice (some ⟨g0, 0, none⟩) 0 0) 0 [] rfl Hg0.out (some ⟨g, 0, none⟩) t cv ((O.take t).map Value.string) rfl HPL.out (fun h => by cases h) (HPN.out _ HW2.out) (strs_one _) (by unfold maxLen; omega) (by omega) HW2.out.size ?_
                  intro v1 V3 ho hg
                  have HW3 := Lib.hid (HW2.out.grown hg HW2.out.size (fun j hj => (Hg0.out.lt j hj).1))
                  have cx3 := (HW3.out.cell (p := ⟨b, off + i, none⟩) hbw).trans cxw
                  have hsz3 := hg.size
                  replace Hbx := Lib.hid ((World.cell?_of_block (a := ⟨bx, 0, none⟩) (hg.block bx (by omega) (fun e => by have e2 : bx = g0 := Option.some.inj (show some bx = some g0 from e); omega))).trans Hbx.out)
                  have HO := Lib.hid ho
                  refine hK.out _ _ (fun _ => cx3) ?_
                  clear hK ho hg cx2 Hg0
                  try simp only [Act.put, List.setIfInBounds_toArray, List.set_cons_zero, List.set_cons_succ]
                  refine AnyS.step (j := 10) rfl (by kernel_rfl) (fun K hK => ?_)
                  refine wp_append_every rfl _ _ 22 rfl W2.heap.size 9 i0 (.string ⟨#[]⟩) 1 16 Tryd.underlying22 hi hz0 hz1 hz2 rfl (by decide) v1 (0 + t) ([] ++ (O.take t).map Value.string) rfl HO.out (some ⟨bx, 0, none⟩) 1 1 [.string x] rfl rfl (fun h => by cases h) (one_cell Hbx.out) (by intro u hu; rw [List.mem_singleton] at hu; subst hu; rfl) (by unfold maxLen; omega) (by omega) HW3.out.size ?_
                  intro v2 V8 ho hg
                  have HW8 := Lib.hid (HW3.out.grown hg HW3.out.size (fun j hj => (HO.out.lt j hj).1))
                  have HO8 := Lib.hid ho
                  refine hK.out _ _ (fun e => absurd e (by decide)) ?_
                  clear hK ho hg
                  try simp only [Act.put, List.setIfInBounds_toArray, List.set_cons_zero, List.set_cons_succ]
                  refine AnyS.step (j := 14) rfl (by kernel_rfl) (fun K hK => ?_)
                  refine wp_append_every rfl _ _ 22 rfl W2.heap.size 9 i0 (.string ⟨#[]⟩) 1 16 Tryd.underlying22 hi hz0 hz1 hz2 rfl (by decide) v2 (0 + t + 1) ([] ++ (O.take t).map Value.string ++ [.string x]) rfl HO8.out (some ⟨g, t, none⟩) (n - t) (cv - t) ((O.drop t).map Value.string) rfl HDL.out (fun h => by cases h) (HDN.out _ HW8.out) (strs_one _) (by unfold maxLen; omega) (by omega) HW8.out.size ?_
                  intro v3 V9 ho hg
                  have HW9 := Lib.hid (HW8.out.grown hg HW8.out.size (fun j hj => (HO8.out.lt j hj).1))
                  refine hK.out _ _ (fun e => absurd e (by decide)) ?_
                  obtain ⟨g3, cv3, rfl, _, _⟩ := World.ownsRow.form ho (by omega)
                  have HO9 := Lib.hid (show V9.ownsRow w.heap.size 9 1 (.slice (some ⟨g3, 0, none⟩) (0 + t + 1 + (n - t)) cv3) (0 + t + 1 + (n - t)) ((insL x O).map Value.string) from by
                    have h1 := HINS.out
                    have h2 : [] ++ (O.take t).map Value.string ++ [Value.string x] ++ (O.drop t).map Value.string = (insL x O).map Value.string := by rw [h1]; simp
                    rw [← h2]
                    exact own_low ho HB2.out.size)
                  have hlen := ho.1
                  clear hK ho hg
                  try simp only [Act.put, List.setIfInBounds_toArray, List.set_cons_zero, List.set_cons_succ]
                  refine AnyS.rest 15 (by kernel_rfl) rfl (by kernel_rfl) ?_
                  change wpList _ _ _ [_] _ _
                  have HB9 := Lib.hid (HB2.out.trans (HW9.out.mono HB2.out.size))
                  have HIL := Lib.hid (show (insL x O).length = 0 + t + 1 + (n - t) by rw [HINS.out]; simp; have := HON.out; omega)
                  obtain ⟨N9, hN9⟩ : ∃ N, 0 + t + 1 + (n - t) = N := ⟨_, rfl⟩
                  rw [hN9] at HIL HO9 ⊢
                  clear hN9
                  go_wp2_with fail
                  go_roundw
                  case rel => exact ⟨i + 1, g3, cv3, _, insL x O, by omega, rfl, by go_num, Lib.hid (by rw [HNX.out]), HIL, HO9, HB9⟩
                  case measure => simp [intOf]; omega
              · go_simp
                have HK := Lib.hid (show Below V0.heap.size V0 (V0.alloc (.cells #[.string x] 9)) from (Below.refl _ _).alloc (Nat.le_refl _) _)
                have hsz1 : V0.heap.size + 1 ≤ (V0.alloc (.cells #[.string x] 9)).heap.size := by simp
                have HW1 := Lib.hid (HW0.out.trans (HK.out.mono HW0.out.size))
                have cx1 := (HW1.out.cell (p := ⟨b, off + i, none⟩) hbw).trans cxw
                have Hbx := Lib.hid (show (V0.alloc (.cells #[.string x] 9)).cell? ⟨V0.heap.size, 0, none⟩ = some (.string x) by simp [go_sem])
                refine hK.out _ _ (fun _ => cx1) ?_
                clear hK HK cx0
                obtain ⟨bx, hbx⟩ : ∃ q, V0.heap.size = q := ⟨_, rfl⟩
                rw [hbx] at hsz1 Hbx ⊢
                generalize (V0.alloc (.cells #[.string x] 9)) = V1 at *
                try simp only [Act.put, List.setIfInBounds_toArray, List.set_cons_zero, List.set_cons_succ]
                refine AnyS.step (j := 0) rfl (by kernel_rfl) (fun K hK => ?_)
                go_simp
                have HK := Lib.hid (show Below V1.heap.size V1 (V1.alloc (.cells #[] 9)) from (Below.refl _ _).alloc (Nat.le_refl _) _)
                have hsz2 : V1.heap.size + 1 ≤ (V1.alloc (.cells #[] 9)).heap.size := by simp
                have HW2 := Lib.hid (HW1.out.trans (HK.out.mono HW1.out.size))
                have cx2 := (HW2.out.cell (p := ⟨b, off + i, none⟩) hbw).trans cxw
                have Hg0 := Lib.hid (show (V1.alloc (.cells #[] 9)).ownsRow W2.heap.size 9 1 (.slice (some ⟨V1.heap.size, 0, none⟩) 0 0) 0 [] from World.ownsRow_made V1 #[] 0 HW1.out.size (Nat.zero_le _) (by simp))
                replace Hbx := Lib.hid ((HK.out.cell (p := ⟨bx, 0, none⟩) (by show bx < _; omega)).trans Hbx.out)
                refine hK.out _ _ (fun _ => cx2) ?_
                clear hK HK cx1
                obtain ⟨g0, hg0⟩ : ∃ q, V1.heap.size = q := ⟨_, rfl⟩
                rw [hg0] at hsz2 Hg0 ⊢
                generalize (V1.alloc (.cells #[] 9)) = V2 at *
                try simp only [Act.put, List.setIfInBounds_toArray, List.set_cons_zero, List.set_cons_succ]
                refine AnyS.step (j := 4) rfl (by kernel_rfl) (fun K hK => ?_)
                refine wp_append_every rfl _ _ 22 rfl W2.heap.size 9 i0 (.string ⟨#[]⟩) 1 16 Tryd.underlying22 hi hz0 hz1 hz2 rfl (by decide) (.slice (some ⟨g0, 0, none⟩) 0 0) 0 [] rfl Hg0.out (some ⟨g, 0, none⟩) t cv ((O.take t).map Value.string) rfl HPL.out (fun h => by cases h) (HPN.out _ HW2.out) (strs_one _) (by unfold maxLen; omega) (by omega) HW2.out.size ?_
                intro v1 V3 ho hg
                have HW3 := Lib.hid (HW2.out.grown hg HW2.out.size (fun j hj => (Hg0.out.lt j hj).1))
                have cx3 := (HW3.out.cell (p := ⟨b, off + i, none⟩) hbw).trans cxw
                have hsz3 := hg.size
                replace Hbx := Lib.hid ((World.cell?_of_block (a := ⟨bx, 0, none⟩) (hg.block bx (by omega) (fun e => by have e2 : bx = g0 := Option.some.inj (show some bx = some g0 from e); omega))).trans Hbx.out)
                have HO := Lib.hid ho
                refine hK.out _ _ (fun _ => cx3) ?_
                clear hK ho hg cx2 Hg0
                try simp only [Act.put, List.setIfInBounds_toArray, List.set_cons_zero, List.set_cons_succ]
                refine AnyS.step (j := 10) rfl (by kernel_rfl) (fun K hK => ?_)
                refine wp_append_every rfl _ _ 22 rfl W2.heap.size 9 i0 (.string ⟨#[]⟩) 1 16 Tryd.underlying22 hi hz0 hz1 hz2 rfl (by decide) v1 (0 + t) ([] ++ (O.take t).map Value.string) rfl HO.out (some ⟨bx, 0, none⟩) 1 1 [.string x] rfl rfl (fun h => by cases h) (one_cell Hbx.out) (by intro u hu; rw [List.mem_singleton] at hu; subst hu; rfl) (by unfold maxLen; omega) (by omega) HW3.out.size ?_
                intro v2 V8 ho hg
                have HW8 := Lib.hid (HW3.out.grown hg HW3.out.size (fun j hj => (HO.out.lt j hj).1))
                have HO8 := Lib.hid ho
                refine hK.out _ _ (fun e => absurd e (by decide)) ?_
                clear hK ho hg
                try simp only [Act.put, List.setIfInBounds_toArray, List.set_cons_zero, List.set_cons_succ]
                refine AnyS.step (j := 14) rfl (by kernel_rfl) (fun K hK => ?_)
                refine wp_append_every rfl _ _ 22 rfl W2.heap.size 9 i0 (.string ⟨#[]⟩) 1 16 Tryd.underlying22 hi hz0 hz1 hz2 rfl (by decide) v2 (0 + t + 1) ([] ++ (O.take t).map Value.string ++ [.string x]) rfl HO8.out (some ⟨g, t, none⟩) (n - t) (cv - t) ((O.drop t).map Value.string) rfl HDL.out (fun h => by cases h) (HDN.out _ HW8.out) (strs_one _) (by unfold maxLen; omega) (by omega) HW8.out.size ?_
                intro v3 V9 ho hg
                have HW9 := Lib.hid (HW8.out.grown hg HW8.out.size (fun j hj => (HO8.out.lt j hj).1))
                refine hK.out _ _ (fun e => absurd e (by decide)) ?_
                obtain ⟨g3, cv3, rfl, _, _⟩ := World.ownsRow.form ho (by omega)
                have HO9 := Lib.hid (show V9.ownsRow w.heap.size 9 1 (.slice (some ⟨g3, 0, none⟩) (0 + t + 1 + (n - t)) cv3) (0 + t + 1 + (n - t)) ((insL x O).map Value.string) from by
                  have h1 := HINS.out
                  have h2 : [] ++ (O.take t).map Value.string ++ [Value.string x] ++ (O.drop t).map Value.string = (insL x O).map Value.string := by rw [h1]; simp
                  rw [← h2]
                  exact own_low ho HB2.out.size)
                have hlen := ho.1
                clear hK ho hg
                try simp only [Act.put, List.setIfInBounds_toArray, List.set_cons_zero, List.set_cons_succ]
                refine AnyS.rest 15 (by kernel_rfl) rfl (by kernel_rfl) ?_
                change wpList _ _ _ [_] _ _
                have HB9 := Lib.hid (HB2.out.trans (HW9.out.mono HB2.out.size))
                have HIL := Lib.hid (show (insL x O).length = 0 + t + 1 + (n - t) by rw [HINS.out]; simp; have := HON.out; omega)
                obtain ⟨N9, hN9⟩ : ∃ N, 0 + t + 1 + (n - t) = N := ⟨_, rfl⟩
                rw [hN9] at HIL HO9 ⊢
                clear hN9
                go_wp2_with fail
                go_roundw
                case rel => exact ⟨i + 1, g3, cv3, _, insL x O, by omega, rfl, by go_num, Lib.hid (by rw [HNX.out]), HIL, HO9, HB9⟩
                case measure => simp [intOf]; omega
        · have htn2 : n = t := by omega
          subst htn2
          have l2 : ¬ (n : Int) < (n : Int) := by omega
          have l3 : decide ((n : Int) < (n : Int)) = false := decide_eq_false l2
          have l4 : ((n : Int) == (n : Int)) = true := by simp
          have HINS := Lib.hid (ins_at_len HI.out HON.out)
          generalize hwn : W1.drewN q = wn at *
          have HWN := Lib.hid hwn
          clear hwn
          go_wp2_with fail
          go_quiet (fail)
          obtain ⟨nq1, hnq1⟩ : ∃ z, z = nq := ⟨_, rfl⟩
          subst hnq1
          go_wp2_with fail
          go_quiet (fail)
          go_wp2_with fail
          by_cases hct : cv = n
          · have hct' : n = cv := hct.symm
            subst hct'
            have HB2 := Lib.hid (show Below w.heap.size w ((wn.drewN nq1).drewN nq) by rw [← HWN.out]; exact bel_drewN (bel_drewN (bel_drewN HB.out q) nq1) nq)
            have HSO := Lib.hid (show SlS ((wn.drewN nq1).drewN nq) (some ⟨g, 0, none⟩) g 0 n n O by rw [← HWN.out]; exact ((HSO0.out.drewN q).drewN nq1).drewN nq)
            have cxw : ((wn.drewN nq1).drewN nq).cell? ⟨b, off + i, none⟩ = some (.string x) := cx1
            have hbw : b < ((wn.drewN nq1).drewN nq).heap.size := hbx1
            have HPL := Lib.hid (show ((O.take n).map Value.string).length = n * 1 by rw [List.length_map, List.length_take, HON.out]; omega)
            have HDL := Lib.hid (show ((O.drop n).map Value.string).length = 0 * 1 by rw [List.length_map, List.length_drop, HON.out]; omega)
            have HPN := Lib.hid (head_news HSO.out n)
            have sl1 : (0 : Int) ≤ (n : Int) := by omega
            have sl2 : (n : Int) ≤ (n : Int) := by omega
            have sl3 : (n : Int) ≤ (n : Int) := by omega
            have sl4 : (n : Int) ≤ (n : Int) := by omega
            have sl5 : ¬ n < n := by omega
            have sl6 : ¬ n < n := by omega
            clear HWN cx cx1 hbx hbx1 hgw HO HB HSO0 HEQ HI HS HL HT HSL HALL
            generalize ((wn.drewN nq1).drewN nq) = W2 at *
            have HDN := Lib.hid (tail_news HSO.out (n := n) (by omega) (Or.inl ⟨rfl, rfl⟩))
            refine wp_region_s (fun w' => w'.cell? ⟨b, off + i, none⟩ = some (.string x)) 10 (by kernel_rfl) ?_
            have HW0 := Lib.hid (show Below W2.heap.size W2 W2.drew from (Below.refl _ _).drew)
            have cx0 := (HW0.out.cell (p := ⟨b, off + i, none⟩) hbw).trans cxw
            generalize W2.drew = V0 at *
            refine AnyS.take0 (i := 1) (v := (.slice (some ⟨g, 0, none⟩) n n)) rfl (by kernel_rfl) (by kernel_rfl) (by kernel_rfl) (by kernel_rfl) (fun _ _ _ h => h) (fun _ => cx0) (Or.inl ⟨by rfl, fun w' _ => (by go_simp)⟩) ?_
            try simp only [Act.put, List.setIfInBounds_toArray, List.set_cons_zero, List.set_cons_succ]
            refine AnyS.take0 (i := 2) (v := (.int .i64 (n : Int))) rfl (by kernel_rfl) (by kernel_rfl) (by kernel_rfl) (by kernel_rfl) (fun _ _ _ h => h) (fun _ => cx0) (Or.inl ⟨by rfl, fun w' _ => (by go_simp)⟩) ?_
            try simp only [Act.put, List.setIfInBounds_toArray, List.set_cons_zero, List.set_cons_succ]
            refine AnyS.take0 (i := 3) (v := (.slice (some ⟨g, 0, none⟩) n n)) rfl (by kernel_rfl) (by kernel_rfl) (by kernel_rfl) (by kernel_rfl) (fun _ _ _ h => h) (fun _ => cx0) (Or.inl ⟨by rfl, fun w' _ => (by go_simp)⟩) ?_
            try simp only [Act.put, List.setIfInBounds_toArray, List.set_cons_zero, List.set_cons_succ]
            refine AnyS.take0 (i := 5) (v := (.slice (some ⟨b, off, none⟩) len cap)) rfl (by kernel_rfl) (by kernel_rfl) (by kernel_rfl) (by kernel_rfl) (fun _ _ _ h => h) (fun _ => cx0) (Or.inl ⟨by rfl, fun w' _ => (by go_simp)⟩) ?_
            try simp only [Act.put, List.setIfInBounds_toArray, List.set_cons_zero, List.set_cons_succ]
            refine AnyS.take0 (i := 6) (v := (.int .i64 (i : Int))) rfl (by kernel_rfl) (by kernel_rfl) (by kernel_rfl) (by kernel_rfl) (fun _ _ _ h => h) (fun _ => cx0) (Or.inl ⟨by rfl, fun w' _ => (by go_simp)⟩) ?_
            try simp only [Act.put, List.setIfInBounds_toArray, List.set_cons_zero, List.set_cons_succ]
            refine AnyS.take0 (i := 7) (v := (.pointer (some ⟨b, off + i, none⟩))) rfl (by kernel_rfl) (by kernel_rfl) (by kernel_rfl) (by kernel_rfl) (fun _ _ _ h => h) (fun _ => cx0) (Or.inl ⟨by rfl, fun w' _ => (by go_simp)⟩) ?_
            try simp only [Act.put, List.setIfInBounds_toArray, List.set_cons_zero, List.set_cons_succ]
            refine AnyS.take (i := 8) (v := (.string x)) [9, 10] rfl (by kernel_rfl) (by kernel_rfl) (by kernel_rfl) (by kernel_rfl) (fun _ _ _ h => h) cx0 (Or.inl ⟨by rfl, fun w' hw' => (by go_simp)⟩) ?_
            try simp only [Act.put, List.setIfInBounds_toArray, List.set_cons_zero, List.set_cons_succ]
            refine AnyS.take0 (i := 11) (v := (.slice (some ⟨g, 0, none⟩) n n)) rfl (by kernel_rfl) (by kernel_rfl) (by kernel_rfl) (by kernel_rfl) (fun _ _ _ h => h) (fun _ => cx0) (Or.inl ⟨by rfl, fun w' _ => (by go_simp)⟩) ?_
            try simp only [Act.put, List.setIfInBounds_toArray, List.set_cons_zero, List.set_cons_succ]
            refine AnyS.take0 (i := 12) (v := (.int .i64 (n : Int))) rfl (by kernel_rfl) (by kernel_rfl) (by kernel_rfl) (by kernel_rfl) (fun _ _ _ h => h) (fun _ => cx0) (Or.inl ⟨by rfl, fun w' _ => (by go_simp)⟩) ?_
            try simp only [Act.put, List.setIfInBounds_toArray, List.set_cons_zero, List.set_cons_succ]
            refine AnyS.take0 (i := 13) (v := (.slice (some ⟨g, 0, none⟩) 0 0)) rfl (by kernel_rfl) (by kernel_rfl) (by kernel_rfl) (by kernel_rfl) (fun _ _ _ h => h) (fun _ => cx0) (Or.inl ⟨by rfl, fun w' _ => (by go_simp)⟩) ?_
            try simp only [Act.put, List.setIfInBounds_toArray, List.set_cons_zero, List.set_cons_succ]
            refine AnyS.step2 (i := 0) (j := 9) rfl rfl (by kernel_rfl) (fun K hK => ?_) (fun K hK => ?_)
            · go_simp
              have HK := Lib.hid (show Below V0.heap.size V0 (V0.alloc (.cells #[] 9)) from (Below.refl _ _).alloc (Nat.le_refl _) _)
              have hsz1 : V0.heap.size + 1 ≤ (V0.alloc (.cells #[] 9)).heap.size := by simp
              have HW1 := Lib.hid (HW0.out.trans (HK.out.mono HW0.out.size))
              have cx1 := (HW1.out.cell (p := ⟨b, off + i, none⟩) hbw).trans cxw
              have Hg0 := Lib.hid (show (V0.alloc (.cells #[] 9)).ownsRow W2.heap.size 9 1 (.slice (some ⟨V0.heap.size, 0, none⟩) 0 0) 0 [] from World.ownsRow_made V0 #[] 0 HW0.out.size (Nat.zero_le _) (by simp))
              refine hK.out _ _ (fun _ => cx1) ?_
              clear hK HK cx0
              obtain ⟨g0, hg0⟩ : ∃ q, V0.heap.size = q := ⟨_, rfl⟩
              rw [hg0] at hsz1 Hg0 ⊢
              generalize (V0.alloc (.cells #[] 9)) = V1 at *
              try simp only [Act.put, List.setIfInBounds_toArray, List.set_cons_zero, List.set_cons_succ]
              refine AnyS.step2 (i := 4) (j := 9) rfl rfl (by kernel_rfl) (fun K hK => ?_) (fun K hK => ?_)
              · refine wp_append_every rfl _ _ 22 rfl W2.heap.size 9 i0 (.string ⟨#[]⟩) 1 16 Tryd.underlying22 hi hz0 hz1 hz2 rfl (by decide) (.slice (some ⟨g0, 0, none⟩) 0 0) 0 [] rfl Hg0.out (some ⟨g, 0, none⟩) n n ((O.take n).map Value.string) rfl HPL.out (fun h => by cases h) (HPN.out _ HW1.out) (strs_one _) (by unfold maxLen; omega) (by omega) HW1.out.size ?_
                intro v1 V2 ho hg
                have HW2 := Lib.hid (HW1.out.grown hg HW1.out.size (fun j hj => (Hg0.out.lt j hj).1))
                have cx2 := (HW2.out.cell (p := ⟨b, off + i, none⟩) hbw).trans cxw
                have hsz2 := hg.size
                have HO := Lib.hid ho
                refine hK.out _ _ (fun _ => cx2) ?_
                clear hK ho hg cx1 Hg0
                try simp only [Act.put, List.setIfInBounds_toArray, List.set_cons_zero, List.set_cons_succ]
                refine AnyS.step (j := 9) rfl (by kernel_rfl) (fun K hK => ?_)
                go_simp
                have HK := Lib.hid (show Below V2.heap.size V2 (V2.alloc (.cells #[.string x] 9)) from (Below.refl _ _).alloc (Nat.le_refl _) _)
                have hsz3 : V2.heap.size + 1 ≤ (V2.alloc (.cells #[.string x] 9)).heap.size := by simp
                have HW3 := Lib.hid (HW2.out.trans (HK.out.mono HW2.out.size))
                have cx3 := (HW3.out.cell (p := ⟨b, off + i, none⟩) hbw).trans cxw
                have Hbx := Lib.hid (show (V2.alloc (.cells #[.string x] 9)).cell? ⟨V2.heap.size, 0, none⟩ = some (.string x) by simp [go_sem])
                replace HO := Lib.hid (HO.out.alloc (.cells #[.string x] 9))
                refine hK.out _ _ (fun _ => cx3) ?_
                clear hK HK cx2
                obtain ⟨bx, hbx⟩ : ∃ q, V2.heap.size = q := ⟨_, rfl⟩
                rw [hbx] at hsz3 Hbx ⊢
                generalize (V2.alloc (.cells #[.string x] 9)) = V3 at *
                try simp only [Act.put, List.setIfInBounds_toArray, List.set_cons_zero, List.set_cons_succ]
                refine AnyS.step (j := 10) rfl (by kernel_rfl) (fun K hK => ?_)
                refine wp_append_every rfl _ _ 22 rfl W2.heap.size 9 i0 (.string ⟨#[]⟩) 1 16 Tryd.underlying22 hi hz0 hz1 hz2 rfl (by decide) v1 (0 + n) ([] ++ (O.take n).map Value.string) rfl HO.out (some ⟨bx, 0, none⟩) 1 1 [.string x] rfl rfl (fun h => by cases h) (one_cell Hbx.out) (by intro u hu; rw [List.mem_singleton] at hu; subst hu; rfl) (by unfold maxLen; omega) (by omega) HW3.out.size ?_
                intro v2 V8 ho hg
                have HW8 := Lib.hid (HW3.out.grown hg HW3.out.size (fun j hj => (HO.out.lt j hj).1))
                have HO8 := Lib.hid ho
                refine hK.out _ _ (fun e => absurd e (by decide)) ?_
                clear hK ho hg
                try simp only [Act.put, List.setIfInBounds_toArray, List.set_cons_zero, List.set_cons_succ]
                refine AnyS.step (j := 14) rfl (by kernel_rfl) (fun K hK => ?_)
                refine wp_append_every rfl _ _ 22 rfl W2.heap.size 9 i0 (.string ⟨#[]⟩) 1 16 Tryd.underlying22 hi hz0 hz1 hz2 rfl (by decide) v2 (0 + n + 1) ([] ++ (O.take n).map Value.string ++ [.string x]) rfl HO8.out (some ⟨g, 0, none⟩) 0 0 ((O.drop n).map Value.string) rfl HDL.out (fun h => by cases h) (HDN.out _ HW8.out) (strs_one _) (by unfold maxLen; omega) (by omega) HW8.out.size ?_
                intro v3 V9 ho hg
                have HW9 := Lib.hid (HW8.out.grown hg HW8.out.size (fun j hj => (HO8.out.lt j hj).1))
                refine hK.out _ _ (fun e => absurd e (by decide)) ?_
                obtain ⟨g3, cv3, rfl, _, _⟩ := World.ownsRow.form ho (by omega)
                have HO9 := Lib.hid (show V9.ownsRow w.heap.size 9 1 (.slice (some ⟨g3, 0, none⟩) (0 + n + 1 + 0) cv3) (0 + n + 1 + 0) ((insL x O).map Value.string) from by
                  have h1 := HINS.out
                  have h2 : [] ++ (O.take n).map Value.string ++ [Value.string x] ++ (O.drop n).map Value.string = (insL x O).map Value.string := by rw [h1]; simp
                  rw [← h2]
                  exact own_low ho HB2.out.size)
                have hlen := ho.1
                clear hK ho hg
                try simp only [Act.put, List.setIfInBounds_toArray, List.set_cons_zero, List.set_cons_succ]
                refine AnyS.rest 15 (by kernel_rfl) rfl (by kernel_rfl) ?_
                change wpList _ _ _ [_] _ _
                have HB9 := Lib.hid (HB2.out.trans (HW9.out.mono HB2.out.size))
                have HIL := Lib.hid (show (insL x O).length = 0 + n + 1 + 0 by rw [HINS.out]; simp; have := HON.out; omega)
                obtain ⟨N9, hN9⟩ : ∃ N, 0 + n + 1 + 0 = N := ⟨_, rfl⟩
                rw [hN9] at HIL HO9 ⊢
                clear hN9
                go_wp2_with fail
                go_roundw
                case rel => exact ⟨i + 1, g3, cv3, _, insL x O, by omega, rfl, by go_num, Lib.hid (by rw [HNX.out]), HIL, HO9, HB9⟩
                case measure => simp [intOf]; omega
              · go_simp
                have HK := Lib.hid (show Below V1.heap.size V1 (V1.alloc (.cells #[.string x] 9)) from (Below.refl _ _).alloc (Nat.le_refl _) _)
                have hsz2 : V1.heap.size + 1 ≤ (V1.alloc (.cells #[.string x] 9)).heap.size := by simp
                have HW2 := Lib.hid (HW1.out.trans (HK.out.mono HW1.out.size))
                have cx2 := (HW2.out.cell (p := ⟨b, off + i, none⟩) hbw).trans cxw
                have Hbx := Lib.hid (show (V1.alloc (.cells #[.string x] 9)).cell? ⟨V1.heap.size, 0, none⟩ = some (.string x) by simp [go_sem])
                replace Hg0 := Lib.hid (Hg0.out.alloc (.cells #[.string x] 9))
                refine hK.out _ _ (fun _ => cx2) ?_
                clear hK HK cx1
                obtain ⟨bx, hbx⟩ : ∃ q, V1.heap.size = q := ⟨_, rfl⟩
                rw [hbx] at hsz2 Hbx ⊢
                generalize (V1.alloc (.cells #[.string x] 9)) = V2 at *
                try simp only [Act.put, List.setIfInBounds_toArray, List.set_cons_zero, List.set_cons_succ]
                refine AnyS.step (j := 4) rfl (by kernel_rfl) (fun K hK => ?_)
                refine wp_append_every rfl _ _ 22 rfl W2.heap.size 9 i0 (.string ⟨#[]⟩) 1 16 Tryd.underlying22 hi hz0 hz1 hz2 rfl (by decide) (.slice (some ⟨g0, 0, none⟩) 0 0) 0 [] rfl Hg0.out (some ⟨g, 0, none⟩) n n ((O.take n).map Value.string) rfl HPL.out (fun h => by cases h) (HPN.out _ HW2.out) (strs_one _) (by unfold maxLen; omega) (by omega) HW2.out.size ?_
                intro v1 V3 ho hg
                have HW3 := Lib.hid (HW2.out.grown hg HW2.out.size (fun j hj => (Hg0.out.lt j hj).1))
                have cx3 := (HW3.out.cell (p := ⟨b, off + i, none⟩) hbw).trans cxw
                have hsz3 := hg.size
                replace Hbx := Lib.hid ((World.cell?_of_block (a := ⟨bx, 0, none⟩) (hg.block bx (by omega) (fun e => by have e2 : bx = g0 := Option.some.inj (show some bx = some g0 from e); omega))).trans Hbx.out)
                have HO := Lib.hid ho
                refine hK.out _ _ (fun _ => cx3) ?_
                clear hK ho hg cx2 Hg0
                try simp only [Act.put, List.setIfInBounds_toArray, List.set_cons_zero, List.set_cons_succ]
                refine AnyS.step (j := 10) rfl (by kernel_rfl) (fun K hK => ?_)
                refine wp_append_every rfl _ _ 22 rfl W2.heap.size 9 i0 (.string ⟨#[]⟩) 1 16 Tryd.underlying22 hi hz0 hz1 hz2 rfl (by decide) v1 (0 + n) ([] ++ (O.take n).map Value.string) rfl HO.out (some ⟨bx, 0, none⟩) 1 1 [.string x] rfl rfl (fun h => by cases h) (one_cell Hbx.out) (by intro u hu; rw [List.mem_singleton] at hu; subst hu; rfl) (by unfold maxLen; omega) (by omega) HW3.out.size ?_
                intro v2 V8 ho hg
                have HW8 := Lib.hid (HW3.out.grown hg HW3.out.size (fun j hj => (HO.out.lt j hj).1))
                have HO8 := Lib.hid ho
                refine hK.out _ _ (fun e => absurd e (by decide)) ?_
                clear hK ho hg
                try simp only [Act.put, List.setIfInBounds_toArray, List.set_cons_zero, List.set_cons_succ]
                refine AnyS.step (j := 14) rfl (by kernel_rfl) (fun K hK => ?_)
                refine wp_append_every rfl _ _ 22 rfl W2.heap.size 9 i0 (.string ⟨#[]⟩) 1 16 Tryd.underlying22 hi hz0 hz1 hz2 rfl (by decide) v2 (0 + n + 1) ([] ++ (O.take n).map Value.string ++ [.string x]) rfl HO8.out (some ⟨g, 0, none⟩) 0 0 ((O.drop n).map Value.string) rfl HDL.out (fun h => by cases h) (HDN.out _ HW8.out) (strs_one _) (by unfold maxLen; omega) (by omega) HW8.out.size ?_
                intro v3 V9 ho hg
                have HW9 := Lib.hid (HW8.out.grown hg HW8.out.size (fun j hj => (HO8.out.lt j hj).1))
                refine hK.out _ _ (fun e => absurd e (by decide)) ?_
                obtain ⟨g3, cv3, rfl, _, _⟩ := World.ownsRow.form ho (by omega)
                have HO9 := Lib.hid (show V9.ownsRow w.heap.size 9 1 (.slice (some ⟨g3, 0, none⟩) (0 + n + 1 + 0) cv3) (0 + n + 1 + 0) ((insL x O).map Value.string) from by
                  have h1 := HINS.out
                  have h2 : [] ++ (O.take n).map Value.string ++ [Value.string x] ++ (O.drop n).map Value.string = (insL x O).map Value.string := by rw [h1]; simp
                  rw [← h2]
                  exact own_low ho HB2.out.size)
                have hlen := ho.1
                clear hK ho hg
                try simp only [Act.put, List.setIfInBounds_toArray, List.set_cons_zero, List.set_cons_succ]
                refine AnyS.rest 15 (by kernel_rfl) rfl (by kernel_rfl) ?_
                change wpList _ _ _ [_] _ _
                have HB9 := Lib.hid (HB2.out.trans (HW9.out.mono HB2.out.size))
                have HIL := Lib.hid (show (insL x O).length = 0 + n + 1 + 0 by rw [HINS.out]; simp; have := HON.out; omega)
                obtain ⟨N9, hN9⟩ : ∃ N, 0 + n + 1 + 0 = N := ⟨_, rfl⟩
                rw [hN9] at HIL HO9 ⊢
                clear hN9
                go_wp2_with fail
                go_roundw
                case rel => exact ⟨i + 1, g3, cv3, _, insL x O, by omega, rfl, by go_num, Lib.hid (by rw [HNX.out]), HIL, HO9, HB9⟩
                case measure => simp [intOf]; omega
            · go_simp
              have HK := Lib.hid (show Below V0.heap.size V0 (V0.alloc (.cells #[.string x] 9)) from (Below.refl _ _).alloc (Nat.le_refl _) _)
              have hsz1 : V0.heap.size + 1 ≤ (V0.alloc (.cells #[.string x] 9)).heap.size := by simp
              have HW1 := Lib.hid (HW0.out.trans (HK.out.mono HW0.out.size))
              have cx1 := (HW1.out.cell (p := ⟨b, off + i, none⟩) hbw).trans cxw
              have Hbx := Lib.hid (show (V0.alloc (.cells #[.string x] 9)).cell? ⟨V0.heap.size, 0, none⟩ = some (.string x) by simp [go_sem])
              refine hK.out _ _ (fun _ => cx1) ?_
              clear hK HK cx0
              obtain ⟨bx, hbx⟩ : ∃ q, V0.heap.size = q := ⟨_, rfl⟩
              rw [hbx] at hsz1 Hbx ⊢
              generalize (V0.alloc (.cells #[.string x] 9)) = V1 at *
              try simp only [Act.put, List.setIfInBounds_toArray, List.set_cons_zero, List.set_cons_succ]
              refine AnyS.step (j := 0) rfl (by kernel_rfl) (fun K hK => ?_)
              go_simp
              have HK := Lib.hid (show Below V1.heap.size V1 (V1.alloc (.cells #[] 9)) from (Below.refl _ _).alloc (Nat.le_refl _) _)
              have hsz2 : V1.heap.size + 1 ≤ (V1.alloc (.cells #[] 9)).heap.size := by simp
              have HW2 := Lib.hid (HW1.out.trans (HK.out.mono HW1.out.size))
              have cx2 := (HW2.out.cell (p := ⟨b, off + i, none⟩) hbw).trans cxw
              have Hg0 := Lib.hid (show (V1.alloc (.cells #[] 9)).ownsRow W2.heap.size 9 1 (.slice (some ⟨V1.heap.size, 0, none⟩) 0 0) 0 [] from World.ownsRow_made V1 #[] 0 HW1.out.size (Nat.zero_le _) (by simp))
              replace Hbx := Lib.hid ((HK.out.cell (p := ⟨bx, 0, none⟩) (by show bx < _; omega)).trans Hbx.out)
              refine hK.out _ _ (fun _ => cx2) ?_
              clear hK HK cx1
              obtain ⟨g0, hg0⟩ : ∃ q, V1.heap.size = q := ⟨_, rfl⟩
              rw [hg0] at hsz2 Hg0 ⊢
              generalize (V1.alloc (.cells #[] 9)) = V2 at *
              try simp only [Act.put, List.setIfInBounds_toArray, List.set_cons_zero, List.set_cons_succ]
              refine AnyS.step (j := 4) rfl (by kernel_rfl) (fun K hK => ?_)
              refine wp_append_every rfl _ _ 22 rfl W2.heap.size 9 i0 (.string ⟨#[]⟩) 1 16 Tryd.underlying22 hi hz0 hz1 hz2 rfl (by decide) (.slice (some ⟨g0, 0, none⟩) 0 0) 0 [] rfl Hg0.out (some ⟨g, 0, none⟩) n n ((O.take n).map Value.string) rfl HPL.out (fun h => by cases h) (HPN.out _ HW2.out) (strs_one _) (by unfold maxLen; omega) (by omega) HW2.out.size ?_
              intro v1 V3 ho hg
              have HW3 := Lib.hid (HW2.out.grown hg HW2.out.size (fun j hj => (Hg0.out.lt j hj).1))
              have cx3 := (HW3.out.cell (p := ⟨b, off + i, none⟩) hbw).trans cxw
              have hsz3 := hg.size
              replace Hbx := Lib.hid ((World.cell?_of_block (a := ⟨bx, 0, none⟩) (hg.block bx (by omega) (fun e => by have e2 : bx = g0 := Option.some.inj (show some bx = some g0 from e); omega))).trans Hbx.out)
              have HO := Lib.hid ho
              refine hK.out _ _ (fun _ => cx3) ?_
              clear hK ho hg cx2 Hg0
              try simp only [Act.put, List.setIfInBounds_toArray, List.set_cons_zero, List.set_cons_succ]
              refine AnyS.step (j := 10) rfl (by kernel_rfl) (fun K hK => ?_)
              refine wp_append_every rfl _ _ 22 rfl W2.heap.size 9 i0 (.string ⟨#[]⟩) 1 16 Tryd.underlying22 hi hz0 hz1 hz2 rfl (by decide) v1 (0 + n) ([] ++ (O.take n).map Value.string) rfl HO.out (some ⟨bx, 0, none⟩) 1 1 [.string x] rfl rfl (fun h => by cases h) (one_cell Hbx.out) (by intro u hu; rw [List.mem_singleton] at hu; subst hu; rfl) (by unfold maxLen; omega) (by omega) HW3.out.size ?_
              intro v2 V8 ho hg
              have HW8 := Lib.hid (HW3.out.grown hg HW3.out.size (fun j hj => (HO.out.lt j hj).1))
              have HO8 := Lib.hid ho
              refine hK.out _ _ (fun e => absurd e (by decide)) ?_
              clear hK ho hg
              try simp only [Act.put, List.setIfInBounds_toArray, List.set_cons_zero, List.set_cons_succ]
              refine AnyS.step (j := 14) rfl (by kernel_rfl) (fun K hK => ?_)
              refine wp_append_every rfl _ _ 22 rfl W2.heap.size 9 i0 (.string ⟨#[]⟩) 1 16 Tryd.underlying22 hi hz0 hz1 hz2 rfl (by decide) v2 (0 + n + 1) ([] ++ (O.take n).map Value.string ++ [.string x]) rfl HO8.out (some ⟨g, 0, none⟩) 0 0 ((O.drop n).map Value.string) rfl HDL.out (fun h => by cases h) (HDN.out _ HW8.out) (strs_one _) (by unfold maxLen; omega) (by omega) HW8.out.size ?_
              intro v3 V9 ho hg
              have HW9 := Lib.hid (HW8.out.grown hg HW8.out.size (fun j hj => (HO8.out.lt j hj).1))
              refine hK.out _ _ (fun e => absurd e (by decide)) ?_
              obtain ⟨g3, cv3, rfl, _, _⟩ := World.ownsRow.form ho (by omega)
              have HO9 := Lib.hid (show V9.ownsRow w.heap.size 9 1 (.slice (some ⟨g3, 0, none⟩) (0 + n + 1 + 0) cv3) (0 + n + 1 + 0) ((insL x O).map Value.string) from by
                have h1 := HINS.out
                have h2 : [] ++ (O.take n).map Value.string ++ [Value.string x] ++ (O.drop n).map Value.string = (insL x O).map Value.string := by rw [h1]; simp
                rw [← h2]
                exact own_low ho HB2.out.size)
              have hlen := ho.1
              clear hK ho hg
              try simp only [Act.put, List.setIfInBounds_toArray, List.set_cons_zero, List.set_cons_succ]
              refine AnyS.rest 15 (by kernel_rfl) rfl (by kernel_rfl) ?_
              change wpList _ _ _ [_] _ _
              have HB9 := Lib.hid (HB2.out.trans (HW9.out.mono HB2.out.size))
              have HIL := Lib.hid (show (insL x O).length = 0 + n + 1 + 0 by rw [HINS.out]; simp; have := HON.out; omega)
              obtain ⟨N9, hN9⟩ : ∃ N, 0 + n + 1 + 0 = N := ⟨_, rfl⟩
              rw [hN9] at HIL HO9 ⊢
              clear hN9
              go_wp2_with fail
              go_roundw
              case rel => exact ⟨i + 1, g3, cv3, _, insL x O, by omega, rfl, by go_num, Lib.hid (by rw [HNX.out]), HIL, HO9, HB9⟩
              case measure => simp [intOf]; omega
          · have hct2 : ¬ n = cv := fun e => hct e.symm
            have HB2 := Lib.hid (show Below w.heap.size w ((wn.drewN nq1).drewN nq) by rw [← HWN.out]; exact bel_drewN (bel_drewN (bel_drewN HB.out q) nq1) nq)
            have HSO := Lib.hid (show SlS ((wn.drewN nq1).drewN nq) (some ⟨g, 0, none⟩) g 0 n cv O by rw [← HWN.out]; exact ((HSO0.out.drewN q).drewN nq1).drewN nq)
            have cxw : ((wn.drewN nq1).drewN nq).cell? ⟨b, off + i, none⟩ = some (.string x) := cx1
            have hbw : b < ((wn.drewN nq1).drewN nq).heap.size := hbx1
            have HPL := Lib.hid (show ((O.take n).map Value.string).length = n * 1 by rw [List.length_map, List.length_take, HON.out]; omega)
            have HDL := Lib.hid (show ((O.drop n).map Value.string).length = 0 * 1 by rw [List.length_map, List.length_drop, HON.out]; omega)
            have HPN := Lib.hid (head_news HSO.out n)
            have sl1 : (0 : Int) ≤ (n : Int) := by omega
            have sl2 : (n : Int) ≤ (n : Int) := by omega
            have sl3 : (n : Int) ≤ (cv : Int) := by omega
            have sl4 : (n : Int) ≤ (cv : Int) := by omega
            have sl5 : ¬ cv < n := by omega
            have sl6 : ¬ n < n := by omega
            clear HWN cx cx1 hbx hbx1 hgw HO HB HSO0 HEQ HI HS HL HT HSL HALL
            generalize ((wn.drewN nq1).drewN nq) = W2 at *
            have HDN := Lib.hid (tail_news HSO.out (n := n) (by omega) (Or.inr rfl))
            refine wp_region_s (fun w' => w'.cell? ⟨b, off + i, none⟩ = some (.string x)) 10 (by kernel_rfl) ?_
            have HW0 := Lib.hid (show Below W2.heap.size W2 W2.drew from (Below.refl _ _).drew)
            have cx0 := (HW0.out.cell (p := ⟨b, off + i, none⟩) hbw).trans cxw
            generalize W2.drew = V0 at *
            refine AnyS.take0 (i := 1) (v := (.slice (some ⟨g, 0, none⟩) n cv)) rfl (by kernel_rfl) (by kernel_rfl) (by kernel_rfl) (by kernel_rfl) (fun _ _ _ h => h) (fun _ => cx0) (Or.inl ⟨by rfl, fun w' _ => (by go_simp)⟩) ?_
            try simp only [Act.put, List.setIfInBounds_toArray, List.set_cons_zero, List.set_cons_succ]
            refine AnyS.take0 (i := 2) (v := (.int .i64 (n : Int))) rfl (by kernel_rfl) (by kernel_rfl) (by kernel_rfl) (by kernel_rfl) (fun _ _ _ h => h) (fun _ => cx0) (Or.inl ⟨by rfl, fun w' _ => (by go_simp)⟩) ?_
            try simp only [Act.put, List.setIfInBounds_toArray, List.set_cons_zero, List.set_cons_succ]
            refine AnyS.take0 (i := 3) (v := (.slice (some ⟨g, 0, none⟩) n cv)) rfl (by kernel_rfl) (by kernel_rfl) (by kernel_rfl) (by kernel_rfl) (fun _ _ _ h => h) (fun _ => cx0) (Or.inl ⟨by rfl, fun w' _ => (by go_simp)⟩) ?_
            try simp only [Act.put, List.setIfInBounds_toArray, List.set_cons_zero, List.set_cons_succ]
            refine AnyS.take0 (i := 5) (v := (.slice (some ⟨b, off, none⟩) len cap)) rfl (by kernel_rfl) (by kernel_rfl) (by kernel_rfl) (by kernel_rfl) (fun _ _ _ h => h) (fun _ => cx0) (Or.inl ⟨by rfl, fun w' _ => (by go_simp)⟩) ?_
            try simp only [Act.put, List.setIfInBounds_toArray, List.set_cons_zero, List.set_cons_succ]
            refine AnyS.take0 (i := 6) (v := (.int .i64 (i : Int))) rfl (by kernel_rfl) (by kernel_rfl) (by kernel_rfl) (by kernel_rfl) (fun _ _ _ h => h) (fun _ => cx0) (Or.inl ⟨by rfl, fun w' _ => (by go_simp)⟩) ?_
            try simp only [Act.put, List.setIfInBounds_toArray, List.set_cons_zero, List.set_cons_succ]
            refine AnyS.take0 (i := 7) (v := (.pointer (some ⟨b, off + i, none⟩))) rfl (by kernel_rfl) (by kernel_rfl) (by kernel_rfl) (by kernel_rfl) (fun _ _ _ h => h) (fun _ => cx0) (Or.inl ⟨by rfl, fun w' _ => (by go_simp)⟩) ?_
            try simp only [Act.put, List.setIfInBounds_toArray, List.set_cons_zero, List.set_cons_succ]
            refine AnyS.take (i := 8) (v := (.string x)) [9, 10] rfl (by kernel_rfl) (by kernel_rfl) (by kernel_rfl) (by kernel_rfl) (fun _ _ _ h => h) cx0 (Or.inl ⟨by rfl, fun w' hw' => (by go_simp)⟩) ?_
            try simp only [Act.put, List.setIfInBounds_toArray, List.set_cons_zero, List.set_cons_succ]
            refine AnyS.take0 (i := 11) (v := (.slice (some ⟨g, 0, none⟩) n cv)) rfl (by kernel_rfl) (by kernel_rfl) (by kernel_rfl) (by kernel_rfl) (fun _ _ _ h => h) (fun _ => cx0) (Or.inl ⟨by rfl, fun w' _ => (by go_simp)⟩) ?_
            try simp only [Act.put, List.setIfInBounds_toArray, List.set_cons_zero, List.set_cons_succ]
            refine AnyS.take0 (i := 12) (v := (.int .i64 (n : Int))) rfl (by kernel_rfl) (by kernel_rfl) (by kernel_rfl) (by kernel_rfl) (fun _ _ _ h => h) (fun _ => cx0) (Or.inl ⟨by rfl, fun w' _ => (by go_simp)⟩) ?_
            try simp only [Act.put, List.setIfInBounds_toArray, List.set_cons_zero, List.set_cons_succ]
            refine AnyS.take0 (i := 13) (v := (.slice (some ⟨g, n, none⟩) 0 (cv - n))) rfl (by kernel_rfl) (by kernel_rfl) (by kernel_rfl) (by kernel_rfl) (fun _ _ _ h => h) (fun _ => cx0) (Or.inl ⟨by rfl, fun w' _ => (by go_simp)⟩) ?_
            try simp only [Act.put, List.setIfInBounds_toArray, List.set_cons_zero, List.set_cons_succ]
            refine AnyS.step2 (i := 0) (j := 9) rfl rfl (by kernel_rfl) (fun K hK => ?_) (fun K hK => ?_)
            · go_simp
              have HK := Lib.hid (show Below V0.heap.size V0 (V0.alloc (.cells #[] 9)) from (Below.refl _ _).alloc (Nat.le_refl _) _)
              have hsz1 : V0.heap.size + 1 ≤ (V0.alloc (.cells #[] 9)).heap.size := by simp
              have HW1 := Lib.hid (HW0.out.trans (HK.out.mono HW0.out.size))
              have cx1 := (HW1.out.cell (p := ⟨b, off + i, none⟩) hbw).trans cxw
              have Hg0 := Lib.hid (show (V0.alloc (.cells #[] 9)).ownsRow W2.heap.size 9 1 (.slice (some ⟨V0.heap.size, 0, none⟩) 0 0) 0 [] from World.ownsRow_made V0 #[] 0 HW0.out.size (Nat.zero_le _) (by simp))
              refine hK.out _ _ (fun _ => cx1) ?_
              clear hK HK cx0
              obtain ⟨g0, hg0⟩ : ∃ q, V0.heap.size = q := ⟨_, rfl⟩
              rw [hg0] at hsz1 Hg0 ⊢
              generalize (V0.alloc (.cells #[] 9)) = V1 at *
              try simp only [Act.put, List.setIfInBounds_toArray, List.set_cons_zero, List.set_cons_succ]
              refine AnyS.step2 (i := 4) (j := 9) rfl rfl (by kernel_rfl) (fun K hK => ?_) (fun K hK => ?_)
              · refine wp_append_every rfl _ _ 22 rfl W2.heap.size 9 i0 (.string ⟨#[]⟩) 1 16 Tryd.underlying22 hi hz0 hz1 hz2 rfl (by decide) (.slice (some ⟨g0, 0, none⟩) 0 0) 0 [] rfl Hg0.out (some ⟨g, 0, none⟩) n cv ((O.take n).map Value.string) rfl HPL.out (fun h => by cases h) (HPN.out _ HW1.out) (strs_one _) (by unfold maxLen; omega) (by omega) HW1.out.size ?_
                intro v1 V2 ho hg
                have HW2 := Lib.hid (HW1.out.grown hg HW1.out.size (fun j hj => (Hg0.out.lt j hj).1))
                have cx2 := (HW2.out.cell (p := ⟨b, off + i, none⟩) hbw).trans cxw
                have hsz2 := hg.size
                have HO := Lib.hid ho
                refine hK.out _ _ (fun _ => cx2) ?_
                clear hK ho hg cx1 Hg0
                try simp only [Act.put, List.setIfInBounds_toArray, List.set_cons_zero, List.set_cons_succ]
                refine AnyS.step (j := 9) rfl (by kernel_rfl) (fun K hK => ?_)
                go_simp
                have HK := Lib.hid (show Below V2.heap.size V2 (V2.alloc (.cells #[.string x] 9)) from (Below.refl _ _).alloc (Nat.le_refl _) _)
                have hsz3 : V2.heap.size + 1 ≤ (V2.alloc (.cells #[.string x] 9)).heap.size := by simp
                have HW3 := Lib.hid (HW2.out.trans (HK.out.mono HW2.out.size))
                have cx3 := (HW3.out.cell (p := ⟨b, off + i, none⟩) hbw).trans cxw
                have Hbx := Lib.hid (show (V2.alloc (.cells #[.string x] 9)).cell? ⟨V2.heap.size, 0, none⟩ = some (.string x) by simp [go_sem])
                replace HO := Lib.hid (HO.out.alloc (.cells #[.string x] 9))
                refine hK.out _ _ (fun _ => cx3) ?_
                clear hK HK cx2
                obtain ⟨bx, hbx⟩ : ∃ q, V2.heap.size = q := ⟨_, rfl⟩
                rw [hbx] at hsz3 Hbx ⊢
                generalize (V2.alloc (.cells #[.string x] 9)) = V3 at *
                try simp only [Act.put, List.setIfInBounds_toArray, List.set_cons_zero, List.set_cons_succ]
                refine AnyS.step (j := 10) rfl (by kernel_rfl) (fun K hK => ?_)
                refine wp_append_every rfl _ _ 22 rfl W2.heap.size 9 i0 (.string ⟨#[]⟩) 1 16 Tryd.underlying22 hi hz0 hz1 hz2 rfl (by decide) v1 (0 + n) ([] ++ (O.take n).map Value.string) rfl HO.out (some ⟨bx, 0, none⟩) 1 1 [.string x] rfl rfl (fun h => by cases h) (one_cell Hbx.out) (by intro u hu; rw [List.mem_singleton] at hu; subst hu; rfl) (by unfold maxLen; omega) (by omega) HW3.out.size ?_
                intro v2 V8 ho hg
                have HW8 := Lib.hid (HW3.out.grown hg HW3.out.size (fun j hj => (HO.out.lt j hj).1))
                have HO8 := Lib.hid ho
                refine hK.out _ _ (fun e => absurd e (by decide)) ?_
                clear hK ho hg
                try simp only [Act.put, List.setIfInBounds_toArray, List.set_cons_zero, List.set_cons_succ]
                refine AnyS.step (j := 14) rfl (by kernel_rfl) (fun K hK => ?_)
                refine wp_append_every rfl _ _ 22 rfl W2.heap.size 9 i0 (.string ⟨#[]⟩) 1 16 Tryd.underlying22 hi hz0 hz1 hz2 rfl (by decide) v2 (0 + n + 1) ([] ++ (O.take n).map Value.string ++ [.string x]) rfl HO8.out (some ⟨g, n, none⟩) 0 (cv - n) ((O.drop n).map Value.string) rfl HDL.out (fun h => by cases h) (HDN.out _ HW8.out) (strs_one _) (by unfold maxLen; omega) (by omega) HW8.out.size ?_
                intro v3 V9 ho hg
                have HW9 := Lib.hid (HW8.out.grown hg HW8.out.size (fun j hj => (HO8.out.lt j hj).1))
                refine hK.out _ _ (fun e => absurd e (by decide)) ?_
                obtain ⟨g3, cv3, rfl, _, _⟩ := World.ownsRow.form ho (by omega)
                have HO9 := Lib.hid (show V9.ownsRow w.heap.size 9 1 (.slice (some ⟨g3, 0, none⟩) (0 + n + 1 + 0) cv3) (0 + n + 1 + 0) ((insL x O).map Value.string) from by
                  have h1 := HINS.out
                  have h2 : [] ++ (O.take n).map Value.string ++ [Value.string x] ++ (O.drop n).map Value.string = (insL x O).map Value.string := by rw [h1]; simp
                  rw [← h2]
                  exact own_low ho HB2.out.size)
                have hlen := ho.1
                clear hK ho hg
                try simp only [Act.put, List.setIfInBounds_toArray, List.set_cons_zero, List.set_cons_succ]
                refine AnyS.rest 15 (by kernel_rfl) rfl (by kernel_rfl) ?_
                change wpList _ _ _ [_] _ _
                have HB9 := Lib.hid (HB2.out.trans (HW9.out.mono HB2.out.size))
                have HIL := Lib.hid (show (insL x O).length = 0 + n + 1 + 0 by rw [HINS.out]; simp; have := HON.out; omega)
                obtain ⟨N9, hN9⟩ : ∃ N, 0 + n + 1 + 0 = N := ⟨_, rfl⟩
                rw [hN9] at HIL HO9 ⊢
                clear hN9
                go_wp2_with fail
                go_roundw
                case rel => exact ⟨i + 1, g3, cv3, _, insL x O, by omega, rfl, by go_num, Lib.hid (by rw [HNX.out]), HIL, HO9, HB9⟩
                case measure => simp [intOf]; omega
              · go_simp
                have HK := Lib.hid (show Below V1.heap.size V1 (V1.alloc (.cells #[.string x] 9)) from (Below.refl _ _).alloc (Nat.le_refl _) _)
                have hsz2 : V1.heap.size + 1 ≤ (V1.alloc (.cells #[.string x] 9)).heap.size := by simp
                have HW2 := Lib.hid (HW1.out.trans (HK.out.mono HW1.out.size))
                have cx2 := (HW2.out.cell (p := ⟨b, off + i, none⟩) hbw).trans cxw
                have Hbx := Lib.hid (show (V1.alloc (.cells #[.string x] 9)).cell? ⟨V1.heap.size, 0, none⟩ = some (.string x) by simp [go_sem])
                replace Hg0 := Lib.hid (Hg0.out.alloc (.cells #[.string x] 9))
                refine hK.out _ _ (fun _ => cx2) ?_
                clear hK HK cx1
                obtain ⟨bx, hbx⟩ : ∃ q, V1.heap.size = q := ⟨_, rfl⟩
                rw [hbx] at hsz2 Hbx ⊢
                generalize (V1.alloc (.cells #[.string x] 9)) = V2 at *
                try simp only [Act.put, List.setIfInBounds_toArray, List.set_cons_zero, List.set_cons_succ]
                refine AnyS.step (j := 4) rfl (by kernel_rfl) (fun K hK => ?_)
                refine wp_append_every rfl _ _ 22 rfl W2.heap.size 9 i0 (.string ⟨#[]⟩) 1 16 Tryd.underlying22 hi hz0 hz1 hz2 rfl (by decide) (.slice (some ⟨g0, 0, none⟩) 0 0) 0 [] rfl Hg0.out (some ⟨g, 0, none⟩) n cv ((O.take n).map Value.string) rfl HPL.out (fun h => by cases h) (HPN.out _ HW2.out) (strs_one _) (by unfold maxLen; omega) (by omega) HW2.out.size ?_
                intro v1 V3 ho hg
                have HW3 := Lib.hid (HW2.out.grown hg HW2.out.size (fun j hj => (Hg0.out.lt j hj).1))
                have cx3 := (HW3.out.cell (p := ⟨b, off + i, none⟩) hbw).trans cxw
                have hsz3 := hg.size
                replace Hbx := Lib.hid ((World.cell?_of_block (a := ⟨bx, 0, none⟩) (hg.block bx (by omega) (fun e => by have e2 : bx = g0 := Option.some.inj (show some bx = some g0 from e); omega))).trans Hbx.out)
                have HO := Lib.hid ho
                refine hK.out _ _ (fun _ => cx3) ?_
                clear hK ho hg cx2 Hg0
                try simp only [Act.put, List.setIfInBounds_toArray, List.set_cons_zero, List.set_cons_succ]
                refine AnyS.step (j := 10) rfl (by kernel_rfl) (fun K hK => ?_)
                refine wp_append_every rfl _ _ 22 rfl W2.heap.size 9 i0 (.string ⟨#[]⟩) 1 16 Tryd.underlying22 hi hz0 hz1 hz2 rfl (by decide) v1 (0 + n) ([] ++ (O.take n).map Value.string) rfl HO.out (some ⟨bx, 0, none⟩) 1 1 [.string x] rfl rfl (fun h => by cases h) (one_cell Hbx.out) (by intro u hu; rw [List.mem_singleton] at hu; subst hu; rfl) (by unfold maxLen; omega) (by omega) HW3.out.size ?_
                intro v2 V8 ho hg
                have HW8 := Lib.hid (HW3.out.grown hg HW3.out.size (fun j hj => (HO.out.lt j hj).1))
                have HO8 := Lib.hid ho
                refine hK.out _ _ (fun e => absurd e (by decide)) ?_
                clear hK ho hg
                try simp only [Act.put, List.setIfInBounds_toArray, List.set_cons_zero, List.set_cons_succ]
                refine AnyS.step (j := 14) rfl (by kernel_rfl) (fun K hK => ?_)
                refine wp_append_every rfl _ _ 22 rfl W2.heap.size 9 i0 (.string ⟨#[]⟩) 1 16 Tryd.underlying22 hi hz0 hz1 hz2 rfl (by decide) v2 (0 + n + 1) ([] ++ (O.take n).map Value.string ++ [.string x]) rfl HO8.out (some ⟨g, n, none⟩) 0 (cv - n) ((O.drop n).map Value.string) rfl HDL.out (fun h => by cases h) (HDN.out _ HW8.out) (strs_one _) (by unfold maxLen; omega) (by omega) HW8.out.size ?_
                intro v3 V9 ho hg
                have HW9 := Lib.hid (HW8.out.grown hg HW8.out.size (fun j hj => (HO8.out.lt j hj).1))
                refine hK.out _ _ (fun e => absurd e (by decide)) ?_
                obtain ⟨g3, cv3, rfl, _, _⟩ := World.ownsRow.form ho (by omega)
                have HO9 := Lib.hid (show V9.ownsRow w.heap.size 9 1 (.slice (some ⟨g3, 0, none⟩) (0 + n + 1 + 0) cv3) (0 + n + 1 + 0) ((insL x O).map Value.string) from by
                  have h1 := HINS.out
                  have h2 : [] ++ (O.take n).map Value.string ++ [Value.string x] ++ (O.drop n).map Value.string = (insL x O).map Value.string := by rw [h1]; simp
                  rw [← h2]
                  exact own_low ho HB2.out.size)
                have hlen := ho.1
                clear hK ho hg
                try simp only [Act.put, List.setIfInBounds_toArray, List.set_cons_zero, List.set_cons_succ]
                refine AnyS.rest 15 (by kernel_rfl) rfl (by kernel_rfl) ?_
                change wpList _ _ _ [_] _ _
                have HB9 := Lib.hid (HB2.out.trans (HW9.out.mono HB2.out.size))
                have HIL := Lib.hid (show (insL x O).length = 0 + n + 1 + 0 by rw [HINS.out]; simp; have := HON.out; omega)
                obtain ⟨N9, hN9⟩ : ∃ N, 0 + n + 1 + 0 = N := ⟨_, rfl⟩
                rw [hN9] at HIL HO9 ⊢
                clear hN9
                go_wp2_with fail
                go_roundw
                case rel => exact ⟨i + 1, g3, cv3, _, insL x O, by omega, rfl, by go_num, Lib.hid (by rw [HNX.out]), HIL, HO9, HB9⟩
                case measure => simp [intOf]; omega
            · go_simp
              have HK := Lib.hid (show Below V0.heap.size V0 (V0.alloc (.cells #[.string x] 9)) from (Below.refl _ _).alloc (Nat.le_refl _) _)
              have hsz1 : V0.heap.size + 1 ≤ (V0.alloc (.cells #[.string x] 9)).heap.size := by simp
              have HW1 := Lib.hid (HW0.out.trans (HK.out.mono HW0.out.size))
              have cx1 := (HW1.out.cell (p := ⟨b, off + i, none⟩) hbw).trans cxw
              have Hbx := Lib.hid (show (V0.alloc (.cells #[.string x] 9)).cell? ⟨V0.heap.size, 0, none⟩ = some (.string x) by simp [go_sem])
              refine hK.out _ _ (fun _ => cx1) ?_
              clear hK HK cx0
              obtain ⟨bx, hbx⟩ : ∃ q, V0.heap.size = q := ⟨_, rfl⟩
              rw [hbx] at hsz1 Hbx ⊢
              generalize (V0.alloc (.cells #[.string x] 9)) = V1 at *
              try simp only [Act.put, List.setIfInBounds_toArray, List.set_cons_zero, List.set_cons_succ]
              refine AnyS.step (j := 0) rfl (by kernel_rfl) (fun K hK => ?_)
              go_simp
              have HK := Lib.hid (show Below V1.heap.size V1 (V1.alloc (.cells #[] 9)) from (Below.refl _ _).alloc (Nat.le_refl _) _)
              have hsz2 : V1.heap.size + 1 ≤ (V1.alloc (.cells #[] 9)).heap.size := by simp
              have HW2 := Lib.hid (HW1.out.trans (HK.out.mono HW1.out.size))
              have cx2 := (HW2.out.cell (p := ⟨b, off + i, none⟩) hbw).trans cxw
              have Hg0 := Lib.hid (show (V1.alloc (.cells #[] 9)).ownsRow W2.heap.size 9 1 (.slice (some ⟨V1.heap.size, 0, none⟩) 0 0) 0 [] from World.ownsRow_made V1 #[] 0 HW1.out.size (Nat.zero_le _) (by simp))
              replace Hbx := Lib.hid ((HK.out.cell (p := ⟨bx, 0, none⟩) (by show bx < _; omega)).trans Hbx.out)
              refine hK.out _ _ (fun _ => cx2) ?_
              clear hK HK cx1
              obtain ⟨g0, hg0⟩ : ∃ q, V1.heap.size = q := ⟨_, rfl⟩
              rw [hg0] at hsz2 Hg0 ⊢
              generalize (V1.alloc (.cells #[] 9)) = V2 at *
              try simp only [Act.put, List.setIfInBounds_toArray, List.set_cons_zero, List.set_cons_succ]
              refine AnyS.step (j := 4) rfl (by kernel_rfl) (fun K hK => ?_)
              refine wp_append_every rfl _ _ 22 rfl W2.heap.size 9 i0 (.string ⟨#[]⟩) 1 16 Tryd.underlying22 hi hz0 hz1 hz2 rfl (by decide) (.slice (some ⟨g0, 0, none⟩) 0 0) 0 [] rfl Hg0.out (some ⟨g, 0, none⟩) n cv ((O.take n).map Value.string) rfl HPL.out (fun h => by cases h) (HPN.out _ HW2.out) (strs_one _) (by unfold maxLen; omega) (by omega) HW2.out.size ?_
              intro v1 V3 ho hg
              have HW3 := Lib.hid (HW2.out.grown hg HW2.out.size (fun j hj => (Hg0.out.lt j hj).1))
              have cx3 := (HW3.out.cell (p := ⟨b, off + i, none⟩) hbw).trans cxw
              have hsz3 := hg.size
              replace Hbx := Lib.hid ((World.cell?_of_block (a := ⟨bx, 0, none⟩) (hg.block bx (by omega) (fun e => by have e2 : bx = g0 := Option.some.inj (show some bx = some g0 from e); omega))).trans Hbx.out)
              have HO := Lib.hid ho
              refine hK.out _ _ (fun _ => cx3) ?_
              clear hK ho hg cx2 Hg0
              try simp only [Act.put, List.setIfInBounds_toArray, List.set_cons_zero, List.set_cons_succ]
              refine AnyS.step (j := 10) rfl (by kernel_rfl) (fun K hK => ?_)
              refine wp_append_every rfl _ _ 22 rfl W2.heap.size 9 i0 (.string ⟨#[]⟩) 1 16 Tryd.underlying22 hi hz0 hz1 hz2 rfl (by decide) v1 (0 + n) ([] ++ (O.take n).map Value.string) rfl HO.out (some ⟨bx, 0, none⟩) 1 1 [.string x] rfl rfl (fun h => by cases h) (one_cell Hbx.out) (by intro u hu; rw [List.mem_singleton] at hu; subst hu; rfl) (by unfold maxLen; omega) (by omega) HW3.out.size ?_
              intro v2 V8 ho hg
              have HW8 := Lib.hid (HW3.out.grown hg HW3.out.size (fun j hj => (HO.out.lt j hj).1))
              have HO8 := Lib.hid ho
              refine hK.out _ _ (fun e => absurd e (by decide)) ?_
              clear hK ho hg
              try simp only [Act.put, List.setIfInBounds_toArray, List.set_cons_zero, List.set_cons_succ]
              refine AnyS.step (j := 14) rfl (by kernel_rfl) (fun K hK => ?_)
              refine wp_append_every rfl _ _ 22 rfl W2.heap.size 9 i0 (.string ⟨#[]⟩) 1 16 Tryd.underlying22 hi hz0 hz1 hz2 rfl (by decide) v2 (0 + n + 1) ([] ++ (O.take n).map Value.string ++ [.string x]) rfl HO8.out (some ⟨g, n, none⟩) 0 (cv - n) ((O.drop n).map Value.string) rfl HDL.out (fun h => by cases h) (HDN.out _ HW8.out) (strs_one _) (by unfold maxLen; omega) (by omega) HW8.out.size ?_
              intro v3 V9 ho hg
              have HW9 := Lib.hid (HW8.out.grown hg HW8.out.size (fun j hj => (HO8.out.lt j hj).1))
              refine hK.out _ _ (fun e => absurd e (by decide)) ?_
              obtain ⟨g3, cv3, rfl, _, _⟩ := World.ownsRow.form ho (by omega)
              have HO9 := Lib.hid (show V9.ownsRow w.heap.size 9 1 (.slice (some ⟨g3, 0, none⟩) (0 + n + 1 + 0) cv3) (0 + n + 1 + 0) ((insL x O).map Value.string) from by
                have h1 := HINS.out
                have h2 : [] ++ (O.take n).map Value.string ++ [Value.string x] ++ (O.drop n).map Value.string = (insL x O).map Value.string := by rw [h1]; simp
                rw [← h2]
                exact own_low ho HB2.out.size)
              have hlen := ho.1
              clear hK ho hg
              try simp only [Act.put, List.setIfInBounds_toArray, List.set_cons_zero, List.set_cons_succ]
              refine AnyS.rest 15 (by kernel_rfl) rfl (by kernel_rfl) ?_
              change wpList _ _ _ [_] _ _
              have HB9 := Lib.hid (HB2.out.trans (HW9.out.mono HB2.out.size))
              have HIL := Lib.hid (show (insL x O).length = 0 + n + 1 + 0 by rw [HINS.out]; simp; have := HON.out; omega)
              obtain ⟨N9, hN9⟩ : ∃ N, 0 + n + 1 + 0 = N := ⟨_, rfl⟩
              rw [hN9] at HIL HO9 ⊢
              clear hN9
              go_wp2_with fail
              go_roundw
              case rel => exact ⟨i + 1, g3, cv3, _, insL x O, by omega, rfl, by go_num, Lib.hid (by rw [HNX.out]), HIL, HO9, HB9⟩
              case measure => simp [intOf]; omega
    · have l1 : ¬ (i : Int) < (len : Int) := by omega
      obtain rfl : i = len := by omega
      have hv : O = setL L := by rw [HEQ.out, HALL.out]
      subst hv
      have HON2 := HON.out
      go_wp2_with fail
      go_ret
      exact ⟨_, rfl, by rw [HON2]; exact HO.out, HB.out⟩
end Go.Proofs.YtflpehpjemlphaaDoor
