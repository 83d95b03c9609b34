/- The reader of lines: a chain. -/
import Derived.Test.YtccglojnjakbfaaIte
import Derived.Deep.RegionLaw
import Derived.Deep.AppendLies
import Derived.WalkMore
set_option linter.unusedSimpArgs false
set_option linter.unusedVariables false
namespace Go.Proofs.Ytccglojnjakbfaa
open Go.RowKit

theorem markR_j : ∀ (l : List UInt8) (p : Nat) (x : It), (markR l p x).2.1.j = x.j
  | [], p, x => rfl
  | c :: t, p, x => by
    rw [markR]
    split
    · split
      · rfl
      · exact markR_j t (p + 1) ⟨x.c, x.d + 1, x.r, x.v, x.j⟩
    · split
      · split
        · rfl
        · exact markR_j t (p + 1) ⟨x.c, x.d, true, x.v, x.j⟩
      · split
        · split
          · rfl
          · exact markR_j t (p + 1) ⟨x.c, x.d, x.r, true, x.j⟩
        · rfl
theorem itemP_j (L : List UInt8) (p n : Nat) : (itemP L p n).2.1.j = false := by
  unfold itemP
  split
  · rfl
  · split
    · rfl
    · split
      · rfl
      · rw [markR_j]
theorem itemP_max (L : List UInt8) (p n : Nat) (h : (itemP L p n).1 = 0) : n ≠ 30 := by
  intro e
  rw [e] at h
  unfold itemP at h
  by_cases hr : runN codeB L p = 0
  · rw [if_pos hr] at h; exact absurd h (by simp)
  · rw [if_neg hr, if_pos rfl] at h; exact absurd h (by simp)
theorem chnP_len (L : List UInt8) : ∀ (f p : Nat) (acc : List It), acc.length ≤ 30 → (chnP L f p acc).2.1.length ≤ 30
  | 0, p, acc, h => h
  | f + 1, p, acc, h => by
    rw [chnP]
    by_cases h0 : (itemP L p acc.length).1 = 0
    · rw [if_pos h0]
      have := itemP_max L p acc.length h0
      split
      · exact chnP_len L f _ _ (by rw [List.length_append, List.length_singleton]; omega)
      · simp only [List.length_append, List.length_singleton]; omega
    · rw [if_neg h0]; exact h
theorem own_form {w : World} {base e z n : Nat} {v : Value} {xs : List Value} (h : w.ownsRow base e z v n xs) : ∃ ao cap, v = .slice ao n cap := by
  rcases h.2 with ⟨rfl, h0⟩ | ⟨g, cap, cur, rfl, _⟩
  · exact ⟨none, 0, by rw [h0]⟩
  · exact ⟨_, cap, rfl⟩
theorem RdAt.grown {w w' : World} {row : Option Nat} {b p : Nat} {s : ByteArray} {v : Value} (h : RdAt w b s p v) (hg : w.grownBy w' row) (hne : some b ≠ row) : RdAt w' b s p v :=
  ⟨(World.cell?_of_block (a := ⟨b, 0, none⟩) (hg.block b h.lt hne)).trans h.c0, (World.cell?_of_block (a := ⟨b, 1, none⟩) (hg.block b h.lt hne)).trans h.c1, (World.cell?_of_block (a := ⟨b, 2, none⟩) (hg.block b h.lt hne)).trans h.c2, fun k => (World.frozen?_of_block (a := ⟨b, k, none⟩) (hg.block b h.lt hne)).trans (h.f k), Nat.lt_of_lt_of_le h.lt hg.size⟩
theorem own_far {w : World} {base e z n : Nat} {v : Value} {xs : List Value} (h : w.ownsRow base e z v n xs) (a : Addr) (ha : ∀ k, v.ownBlock = some k → k ≠ a.block) (u : Value) : (w.setCell a u).ownsRow base e z v n xs := by
  obtain ⟨hl, h⟩ := h
  rcases h with h | ⟨g, cap, cur, h', hg, hbk, hr⟩
  · exact ⟨hl, Or.inl h⟩
  · exact ⟨hl, Or.inr ⟨g, cap, cur, h', hg, by rw [Below.heap_setCell _ _ _ _ (ha g (by rw [h']; rfl))]; exact hbk, hr⟩⟩
theorem encX_one (x : It) : ∀ u ∈ encX x, u.oneCell' = true := by
  intro u hu
  simp only [encX, List.mem_cons, List.not_mem_nil, or_false] at hu
  rcases hu with rfl | rfl | rfl | rfl | rfl <;> rfl
/-- what chain leaves -/
def ChnPost (w : World) (b : Nat) (s : ByteArray) (t : Int × List It × Nat) (e : Ending) (w' : World) : Prop :=
  ∃ v, e = .returned (.int .i64 t.1) ∧ RdAt w' b s t.2.2 v ∧ w'.ownsRow (b + 1) 49 5 v t.2.1.length (flatX t.2.1) ∧ Below b w w'
set_option maxHeartbeats 4000000 in
set_option maxRecDepth 100000 in
theorem chain_any {w : World} {b p : Nat} {s : ByteArray} {v : Value} {acc : List It} (h : RdAt w b s p v) (ho : w.ownsRow (b + 1) 49 5 v acc.length (flatX acc)) (hp : p ≤ s.size) (hs : s.size ≤ 1000000) (ha : acc.length ≤ 30) :
    Calls Try.prog 37 #[.pointer (some ⟨b, 0, none⟩)] w (ChnPost w b s (chnP s.data.toList (s.size + 1) p acc)) := by
  obtain ⟨iz, hi, hz0, hz1, hz2⟩ := info_parts infoX
  obtain ⟨T, hT⟩ : ∃ T, chnP s.data.toList (s.size + 1) p acc = T := ⟨_, rfl⟩
  rw [hT]
  have HT := Lib.hid (show chnP s.data.toList (s.size - p + 1) p acc = T by
    rw [← hT]; exact chnP_fuel _ _ _ _ _ (by rw [list_size]; omega) (by rw [list_size]; omega) (by rw [list_size]; omega))
  have HR0 := Lib.hid h
  have HO0 := Lib.hid ho
  have hbw : b < w.heap.size := h.lt
  unfold ChnPost
  clear hT h ho
  go_enter Try.func37, Try.ntmps37
  go_wp2_with fail
  go_loopw [5] (fun s5 wr => ∃ (k : Nat) (ac : List It) (v' : Value), k ≤ s.size ∧ ac.length ≤ 30 ∧ Hid (RdAt wr b s k v') ∧ Hid (wr.ownsRow (b + 1) 49 5 v' ac.length (flatX ac)) ∧ Hid (Below b w wr) ∧ Hid (chnP s.data.toList (s.size - k + 1) k ac = T)) (fun _ wr => s.size - offOf wr b)
  case atStart => exact ⟨p, acc, v, hp, ha, HR0, HO0, Lib.hid (Below.refl _ _), HT⟩
  case round =>
    obtain ⟨k, ac, v', hk, hac, HR, HO, HB, HE⟩ := hrel
    clear HR0 HO0 HT
    obtain ⟨ao, cv, rfl⟩ := own_form HO.out
    have hb0 : b < wr.heap.size := HR.out.lt
    have HIT := Lib.hid (item_any HR.out hk hs (by omega))
    have HAT := Lib.hid (itemP_at s.data.toList k ac.length (by rw [list_size]; exact hk))
    have HJ := Lib.hid (itemP_j s.data.toList k ac.length)
    have HMX := Lib.hid (itemP_max s.data.toList k ac.length)
    have HE2 := Lib.hid (show (if (itemP s.data.toList k ac.length).1 = 0 then (if isAt 43 s.data.toList (itemP s.data.toList k ac.length).2.2 = true then chnP s.data.toList (s.size - k) ((itemP s.data.toList k ac.length).2.2 + 1) (ac ++ [⟨(itemP s.data.toList k ac.length).2.1.c, (itemP s.data.toList k ac.length).2.1.d, (itemP s.data.toList k ac.length).2.1.r, (itemP s.data.toList k ac.length).2.1.v, true⟩]) else (0, ac ++ [(itemP s.data.toList k ac.length).2.1], (itemP s.data.toList k ac.length).2.2)) else ((itemP s.data.toList k ac.length).1, ac, (itemP s.data.toList k ac.length).2.2)) = T by rw [← HE.out, chnP])
    generalize itemP s.data.toList k ac.length = t at *
    obtain ⟨e0, ⟨xc, xd, xr, xv, xj⟩, q⟩ := t
    simp only [list_size] at HAT HJ HMX HE2
    unfold ItePost It.val at HIT
    simp only at HIT
    clear HE
    go_wp2_with fail
    refine HIT.out.mono ?_
    rintro e w1 ⟨rfl, hr1, hk1⟩
    have HO1 := Lib.hid (own_kp HO.out (Nat.lt_succ_self _) hk1)
    have HR1 := Lib.hid hr1
    have HB1 := Lib.hid (HB.out.trans (hk1.below (by omega) (Nat.le_refl _) (Nat.le_refl _)))
    have HOF := Lib.hid (show offOf wr b = k from offOf_eq HR.out)
    clear hr1 hk1 HO HR HB HIT
    have hb1 : b < w1.heap.size := HR1.out.lt
    have HOL := Lib.hid (show ∀ k, (Value.slice ao ac.length cv).ownBlock = some k → k < w1.heap.size from fun k hk => (HO1.out.lt k hk).2)
    have HX2 := Lib.hid (it_new w1 ⟨xc, xd, xr, xv, xj⟩ 49)
    have HR2 := Lib.hid (HR1.out.keep ((Below.refl _ _).alloc (Nat.le_refl _) (.cells #[.string xc, .int .i64 xd, .bool xr, .bool xv, .bool xj] 49)))
    have HO2 := Lib.hid (HO1.out.alloc (.cells #[.string xc, .int .i64 xd, .bool xr, .bool xv, .bool xj] 49))
    have HB2 := Lib.hid (HB1.out.alloc (show b ≤ w1.heap.size by omega) (.cells #[.string xc, .int .i64 xd, .bool xr, .bool xv, .bool xj] 49))
    by_cases h0 : e0 = 0
    · subst h0
      have HQ := Lib.hid (HAT.out.2.2 rfl)
      have HQ2 := Lib.hid HAT.out.2.1
      have h30 : ac.length ≠ 30 := HMX.out rfl
      have HE3 := Lib.hid (show (if isAt 43 s.data.toList q = true then chnP s.data.toList (s.size - k) (q + 1) (ac ++ [⟨xc, xd, xr, xv, true⟩]) else (0, ac ++ [⟨xc, xd, xr, xv, xj⟩], q)) = T by rw [← HE2.out, if_pos rfl])
      clear HE2 HMX HAT
      go_wp2_with fail
      have hgs : (w1.alloc (.cells #[.string xc, .int .i64 xd, .bool xr, .bool xv, .bool xj] 49)).heap.size = w1.heap.size + 1 := by simp
      generalize (w1.alloc (.cells #[.string xc, .int .i64 xd, .bool xr, .bool xv, .bool xj] 49)) = V at *
      generalize w1.heap.size = g at *
      have hgV : g < V.heap.size := by omega
      clear hgs HO1 HR1 HB1
      have HST := Lib.hid (stands_any HR2.out hs 43 (by decide))
      have HAL := Lib.hid (fun (h : isAt 43 s.data.toList q = true) => isAt_lt h)
      rw [show UInt8.ofNat 43 = 43 from rfl] at HST
      generalize isAt 43 s.data.toList q = J at *
      refine HST.out.mono ?_
      rintro e w2 ⟨rfl, hb2⟩
      have HX3 := Lib.hid (HX2.out.keep hb2)
      have HR3 := Lib.hid (HR2.out.keep hb2)
      have HO3 := Lib.hid (own_below HO2.out hb2)
      have HB3 := Lib.hid (HB2.out.trans (hb2.mono (by omega)))
      have hg2 : g < w2.heap.size := HX3.out.lt
      clear hb2 HX2 HR2 HO2 HB2 HST
      obtain ⟨z0, z1, z2, z3, z4, zf, zl⟩ := HX3.out
      go_wp2_with fail
      have HX4 := Lib.hid (HX3.out.fld4 J)
      have HR4 := Lib.hid (HR3.out.other ⟨g, 4, none⟩ (show g ≠ b by omega) (.bool J))
      have HO4 := Lib.hid (show (w2.setCell ⟨g, 4, none⟩ (.bool J)).ownsRow (b + 1) 49 5 (.slice ao ac.length cv) ac.length (flatX ac) from own_far HO3.out ⟨g, 4, none⟩ (fun k hk => by have := HOL.out k hk; show k ≠ g; omega) _)
      have HB4 := Lib.hid (HB3.out.setCell (p := ⟨g, 4, none⟩) (show b ≤ g by omega) (.bool J))
      have hg4 : (w2.setCell ⟨g, 4, none⟩ (.bool J)).heap.size = w2.heap.size := by simp
      generalize (w2.setCell ⟨g, 4, none⟩ (.bool J)) = W4 at *
      clear z0 z1 z2 z3 z4 zf zl HX3 HR3 HO3 HB3
      have hgW : g < W4.heap.size := by omega
      have hbW : b < W4.heap.size := by omega
      clear hg4
      obtain ⟨z0, z1, z2, z3, z4, zf, zl⟩ := HX4.out
      obtain ⟨c0, c1, c2, cf, cl⟩ := HR4.out
      simp only at z0 z1 z2 z3 z4
      go_cut [16, 17, 18, 19, 20, 21, 22, 23, 24, 25] (fun s16 s17 s18 s19 s20 s21 s22 s23 s24 s25 wx => ∃ v', Hid (Below b w wx) ∧ Hid (RdAt wx b s q v') ∧ Hid (ItAt wx g ⟨xc, xd, xr, xv, J⟩) ∧ Hid (wx.ownsRow (b + 1) 49 5 v' (ac.length + 1) (flatX ac ++ encX ⟨xc, xd, xr, xv, J⟩)))
      case first =>
        have HBW := HB4.out
        go_region_law (go_loud (refine step_append_lies _ rfl _ _ 23 rfl (b + 1) 49 iz (.agg #[.string ⟨#[]⟩, .int .i64 0, .bool false, .bool false, .bool false]) 5 32 Try.underlying23 hi hz0 hz1 hz2 rfl (by decide) (.slice ao ac.length cv) ac.length (flatX ac) rfl (HO4.out.alloc (.cells #[.string xc, .int .i64 xd, .bool xr, .bool xv, .bool J] 49)) ⟨W4.heap.size, 0, none⟩ 1 1 (encX ⟨xc, xd, xr, xv, J⟩) rfl rfl (it_cells W4 ⟨xc, xd, xr, xv, J⟩) (encX_one ⟨xc, xd, xr, xv, J⟩) (by decide) (by unfold maxLen; omega) (by omega) (by show b + 1 ≤ (W4.alloc _).heap.size; simp; omega) _ rfl ?_); intro g7 cap7 w7 hown hgrow hat2 hlt2; have HB7 := Lib.hid (Below.grown (HBW.trans ((show Below W4.heap.size W4 _ from (by repeat (first | with_reducible exact Below.refl _ _ | (with_reducible refine Below.setCell ?_ (by first | exact Nat.le_refl _ | omega | (simp; done) | (simp; omega)) _) | (with_reducible refine Below.alloc ?_ (by first | exact Nat.le_refl _ | omega | (simp; done) | (simp; omega)) _) | with_reducible refine Below.drew ?_ | with_reducible refine bel_drewN ?_ _ | (with_reducible refine bel_by (by with_reducible assumption) (by first | exact Nat.le_refl _ | omega | (simp; done) | (simp; omega)) ?_)))).mono (show b ≤ W4.heap.size by omega))) hgrow (by simp; omega) (fun k hk => by have := (HO4.out.lt k hk).1; omega)); have HR7 := Lib.hid ((HR4.out.keep (show Below W4.heap.size W4 _ from (by repeat (first | with_reducible exact Below.refl _ _ | (with_reducible refine Below.setCell ?_ (by first | exact Nat.le_refl _ | omega | (simp; done) | (simp; omega)) _) | (with_reducible refine Below.alloc ?_ (by first | exact Nat.le_refl _ | omega | (simp; done) | (simp; omega)) _) | with_reducible refine Below.drew ?_ | with_reducible refine bel_drewN ?_ _ | (with_reducible refine bel_by (by with_reducible assumption) (by first | exact Nat.le_refl _ | omega | (simp; done) | (simp; omega)) ?_))))).grown hgrow (fun e => by have := (HO4.out.lt _ e.symm).1; omega)); have HX7 := Lib.hid ((HX4.out.keep (show Below W4.heap.size W4 _ from (by repeat (first | with_reducible exact Below.refl _ _ | (with_reducible refine Below.setCell ?_ (by first | exact Nat.le_refl _ | omega | (simp; done) | (simp; omega)) _) | (with_reducible refine Below.alloc ?_ (by first | exact Nat.le_refl _ | omega | (simp; done) | (simp; omega)) _) | with_reducible refine Below.drew ?_ | with_reducible refine bel_drewN ?_ _ | (with_reducible refine bel_by (by with_reducible assumption) (by first | exact Nat.le_refl _ | omega | (simp; done) | (simp; omega)) ?_))))).grown hgrow (fun e => by have := HOL.out g e.symm; omega)); have HO7 := Lib.hid hown; clear hown hgrow hat2 c0 c1 c2 cf cl z0 z1 z2 z3 z4 zf zl; obtain ⟨c0, c1, c2, cf, cl⟩ := HR7.out)
        all_goals
          clear c0 c1 c2 cf cl
          go_wp2_with fail
          go_meet
          refine ⟨.slice (some ⟨g7, 0, none⟩) (ac.length + 1) cap7, Lib.hid (Below.setCell HB7.out (p := (⟨b, 2, none⟩ : Addr)) (Nat.le_refl b) _), Lib.hid (HR7.out.set2 _), Lib.hid (HX7.out.other (⟨b, 2, none⟩ : Addr) (show b ≠ g by omega) _), Lib.hid (ownsRow_setCell_below (a := (⟨b, 2, none⟩ : Addr)) HO7.out (Nat.lt_succ_self b) _)⟩
      obtain ⟨v', HB5, HR5, HX5, HO5⟩ := hcut
      clear c0 c1 c2 cf cl z0 z1 z2 z3 z4 zf zl HX4 HR4 HO4 HB4 HOL
      generalize wc = w5 at *
      obtain ⟨z0, z1, z2, z3, z4, zf, zl⟩ := HX5.out
      obtain ⟨c0, c1, c2, cf, cl⟩ := HR5.out
      simp only at z0 z1 z2 z3 z4
      have HN := Lib.hid (show w5.ownsRow (b + 1) 49 5 v' (ac ++ [(⟨xc, xd, xr, xv, J⟩ : It)]).length (flatX (ac ++ [⟨xc, xd, xr, xv, J⟩])) by rw [List.length_append, List.length_singleton, flatX_snoc]; exact HO5.out)
      clear HO5
      cases J with
      | true =>
        have hqs := HAL.out rfl
        rw [list_size] at hqs
        have HQC := Lib.hid (show (q : Int) + 1 = ((q + 1 : Nat) : Int) by omega)
        have HE4 := Lib.hid (show chnP s.data.toList (s.size - (q + 1) + 1) (q + 1) (ac ++ [⟨xc, xd, xr, xv, true⟩]) = T by
          rw [← HE3.out, if_pos rfl]
          have := HQ.out
          exact chnP_fuel _ _ _ _ _ (by rw [list_size]; omega) (by rw [list_size]; omega) (by rw [list_size]; omega))
        clear HE3 HAL
        go_wp2_with fail
        go_roundw
        case rel =>
          rw [HQC.out]
          refine ⟨q + 1, (ac ++ [⟨xc, xd, xr, xv, true⟩]), v', by omega, by rw [List.length_append, List.length_singleton]; omega, Lib.hid (HR5.out.set1 (q + 1)), Lib.hid (ownsRow_setCell_below (a := ⟨b, 1, none⟩) HN.out (Nat.lt_succ_self b) _), Lib.hid (HB5.out.setCell (p := ⟨b, 1, none⟩) (Nat.le_refl _) _), HE4⟩
        case measure =>
          rw [HOF.out, HQC.out, offOf_eq (HR5.out.set1 (q + 1))]
          have := HQ.out
          omega
      | false =>
        have hj : xj = false := HJ.out
        have HE4 := Lib.hid (show (0, ac ++ [⟨xc, xd, xr, xv, false⟩], q) = T by rw [← HE3.out, if_neg (by simp), hj])
        clear HE3 HAL HJ hj
        go_wp2_with fail
        go_ret
        rw [← HE4.out]
        exact ⟨_, rfl, HR5.out, HN.out, HB5.out⟩
    · have HE3 := Lib.hid (show (e0, ac, q) = T by rw [← HE2.out, if_neg h0])
      have k0 : (e0 == 0) = false := by simpa using h0
      have k1 : (e0 != 0) = true := by simpa using h0
      clear h0 HE2 HMX HJ HAT
      go_wp2_with fail
      go_ret
      rw [← HE3.out]
      exact ⟨_, rfl, HR2.out, HO2.out, HB2.out⟩
end Go.Proofs.Ytccglojnjakbfaa
