/- MatchingGrows: what its second graph is, and the law. -/
import Derived.Test.YtpcdbnlljdfogaaAwk
import Derived.Test.YtpcdbnlljdfogaaGrp
import Derived.Test.YtpcdbnlljdfogaaSml
set_option linter.unusedSimpArgs false
set_option linter.unusedVariables false
namespace Go.Proofs.Ytpcdbnlljdfogaa
open Go.RowKit

structure Zer (w : World) (b : Nat) : Prop where
  c0 : w.cell? ⟨b, 0, none⟩ = some (.slice none 0 0)
  c1 : w.cell? ⟨b, 1, none⟩ = some (.slice none 0 0)
  c2 : w.cell? ⟨b, 2, none⟩ = some (.slice none 0 0)
  f0 : w.frozen? ⟨b, 0, none⟩ = false
  f1 : w.frozen? ⟨b, 1, none⟩ = false
  f2 : w.frozen? ⟨b, 2, none⟩ = false
  lt : b < w.heap.size
theorem Zer.grown {w w' : World} {b : Nat} {row : Option Nat} (h : Zer w b) (hg : w.grownBy w' row) (hn : some b ≠ row) : Zer w' b := by
  have hb := hg.block b h.lt hn
  have hc : ∀ o, w'.cell? ⟨b, o, none⟩ = w.cell? ⟨b, o, none⟩ := fun o => by unfold World.cell?; rw [hb]
  have hf : ∀ o, w'.frozen? ⟨b, o, none⟩ = w.frozen? ⟨b, o, none⟩ := fun o => by unfold World.frozen?; rw [hb]
  exact ⟨(hc 0).trans h.c0, (hc 1).trans h.c1, (hc 2).trans h.c2, (hf 0).trans h.f0, (hf 1).trans h.f1, (hf 2).trans h.f2, Nat.lt_of_lt_of_le h.lt hg.size⟩
/-- a graph's copy with a row of its own for the left capacities -/
structure Mor (w : World) (B mb gm cm n : Nat) (L : List Int) (vR vE : Value) : Prop where
  c0 : w.cell? ⟨mb, 0, none⟩ = some (.slice (some ⟨gm, 0, none⟩) n cm)
  c1 : w.cell? ⟨mb, 1, none⟩ = some vR
  c2 : w.cell? ⟨mb, 2, none⟩ = some vE
  o : OwI w B (.slice (some ⟨gm, 0, none⟩) n cm) n L
  lt : mb < w.heap.size
  bm : B ≤ mb
  ne : mb ≠ gm
theorem mor_made {w : World} {g : Gph} {B mb gm cm n : Nat} (ho : OwI w B (.slice (some ⟨gm, 0, none⟩) n cm) n g.L) (hz : Zer w mb) (hb : B ≤ mb) (hne : mb ≠ gm) (vR vE : Value) :
    Mor (((w.setCell ⟨mb, 0, none⟩ (.slice (some ⟨gm, 0, none⟩) n cm)).setCell ⟨mb, 1, none⟩ vR).setCell ⟨mb, 2, none⟩ vE) B mb gm cm n g.L vR vE := by
  have hfar : ∀ {W : World} (_ : OwI W B (.slice (some ⟨gm, 0, none⟩) n cm) n g.L) (o : Nat) (v : Value), OwI (W.setCell ⟨mb, o, none⟩ v) B (.slice (some ⟨gm, 0, none⟩) n cm) n g.L := fun h o v => h.far (p := ⟨mb, o, none⟩) v (by simp [Value.ownBlock]; exact fun e => hne e.symm)
  refine ⟨?_, ?_, ?_, hfar (hfar (hfar ho 0 _) 1 _) 2 _, by simpa using hz.lt, hb, hne⟩
  · rw [World.cell?_setCell_other _ _ _ _ (by simp), World.cell?_setCell_other _ _ _ _ (by simp)]
    exact World.cell?_setCell_same _ _ _ hz.c0
  · rw [World.cell?_setCell_other _ _ _ _ (by simp)]
    exact World.cell?_setCell_same _ _ _ (by rw [World.cell?_setCell_other _ _ _ _ (by simp)]; exact hz.c1)
  · exact World.cell?_setCell_same _ _ _ (by rw [World.cell?_setCell_other _ _ _ _ (by simp), World.cell?_setCell_other _ _ _ _ (by simp)]; exact hz.c2)
def flatP (l : List (Int × Int)) : List Value := l.flatMap fun e => [.int .i64 e.1, .int .i64 e.2]
theorem flatP_at : ∀ (l : List (Int × Int)) (k : Nat) (h : k < l.length), (flatP l)[k * 2]? = some (.int .i64 (l[k]'h).1) ∧ (flatP l)[k * 2 + 1]? = some (.int .i64 (l[k]'h).2)
  | [], k, h => absurd h (Nat.not_lt_zero k)
  | a :: l, 0, _ => ⟨rfl, rfl⟩
  | a :: l, k + 1, h => by
    have := flatP_at l k (by simpa using h)
    unfold flatP at this ⊢
    rw [List.flatMap_cons, show (k + 1) * 2 = k * 2 + 2 by omega]
    simpa using this
theorem infoP : (Try.prog.info? 52).map (fun i => (i.zero, i.size, i.bytes)) = some (some (.agg #[.int .i64 0, .int .i64 0]), 2, 16) := by kernel_rfl
theorem u64_ge (x : Int) : 0 ≤ IntKind.u64.wrap x := by
  simp [IntKind.wrap, IntKind.bits, IntKind.signed]; omega
theorem grownBy_alloc_ (w : World) (o : Obj) : w.grownBy (w.alloc o) none := ⟨rfl, rfl, rfl, by simp, fun k hk _ => heap_alloc_old w o hk⟩
set_option maxHeartbeats 16000000 in
set_option maxRecDepth 100000 in
theorem law_grows (g : Gph) (w : World) (hg : GpAt w g) (at_ : Int) (hat : -9223372036854775808 ≤ at_ ∧ at_ ≤ 9223372036854775807) :
    Calls Try.prog 10 #[g.val, .int .i64 at_] w fun e w' => e = .returned (.bool true) ∧ Below w.heap.size w w' := by
  have HB := Lib.hid ((Below.refl w.heap.size w).alloc (Nat.le_refl _) (gBox g))
  have HGB := Lib.hid (gb_new w g 25)
  have HG := Lib.hid (fun W (h : Below w.heap.size w W) => hg.keep h)
  have hs0 : w.heap.size ≤ (w.alloc (gBox g)).heap.size := HB.out.size
  have HAw := Lib.hid (awk_any (w.alloc (gBox g)))
  clear hg
  unfold gBox at HB HGB hs0 HAw
  unfold Gph.val
  go_enter Try.func10, Try.ntmps10
  go_wp2_with fail
  refine HAw.out.mono ?_
  rintro e w1 ⟨rfl, hb1⟩
  have HB1 := Lib.hid (HB.out.trans (hb1.mono hs0))
  have HGB1 := Lib.hid (HGB.out.keep hb1)
  have hs1 : w.heap.size ≤ w1.heap.size := HB1.out.size
  clear hb1 HB HGB hs0 HAw
  have HS1 := Lib.hid (small_any g w1 40 100)
  unfold Gph.val at HS1
  obtain ⟨g0, g1, g2, gl⟩ := HGB1.out
  go_wp2_with fail
  refine HS1.out.mono ?_
  rintro e w2 ⟨rfl, hb2⟩
  have HB2 := Lib.hid (HB1.out.trans (hb2.mono hs1))
  have HGB2 := Lib.hid (HGB1.out.keep hb2)
  have hs2 : w.heap.size ≤ w2.heap.size := HB2.out.size
  clear hb2 HGB1 HB1 hs1 HS1 g0 g1 g2 gl
  obtain ⟨g0, g1, g2, gl⟩ := HGB2.out
  generalize smallB g 40 100 = sm
  cases sm with
  | false =>
    go_wp2_with fail
    go_ret
    exact ⟨rfl, HB2.out⟩
  | true =>
  have HK := Lib.hid (check_any g w2 (HG.out w2 HB2.out))
  unfold Gph.val at HK
  go_wp2_with fail
  refine HK.out.mono ?_
  rintro e w3 ⟨rfl, hb3⟩
  have HB3 := Lib.hid (HB2.out.trans (hb3.mono hs2))
  have HGB3 := Lib.hid (HGB2.out.keep hb3)
  have hs3 : w.heap.size ≤ w3.heap.size := HB3.out.size
  clear hb3 HGB2 HB2 hs2 HK g0 g1 g2 gl
  obtain ⟨g0, g1, g2, gl⟩ := HGB3.out
  by_cases hk : chk g = 0
  · have hk1 : (chk g != 0) = false := by simp [hk]
    obtain ⟨l1, l2, l3, hL, hR, hE, hN⟩ := chk_ok hk
    have HKz := Lib.hid hk
    have HL := Lib.hid hL
    have HR := Lib.hid hR
    have HE := Lib.hid hE
    have HND := Lib.hid hN
    obtain ⟨M, A, B, f1, f2⟩ := pf_of hk
    have HPf := Lib.hid f2
    have HGr := Lib.hid (fun W (hW : Below w.heap.size w W) => gre_any g W (HG.out W hW) hk _ _ M f1)
    generalize chk g = kk at hk1
    clear hk f1 f2 hL hR hE hN
    unfold Gph.val at HGr
    obtain ⟨nl, hnl⟩ : ∃ y, y = g.L.length := ⟨_, rfl⟩
    obtain ⟨nr, hnr⟩ : ∃ y, y = g.R.length := ⟨_, rfl⟩
    obtain ⟨ne, hne⟩ : ∃ y, y = g.E.length := ⟨_, rfl⟩
    rw [← hnl, ← hnr, ← hne] at HGr
    rw [← hnl] at l1 g0
    rw [← hnr] at l2 g1
    rw [← hne] at l3 g2
    have Hnl := Lib.hid hnl
    have Hnr := Lib.hid hnr
    have Hne := Lib.hid hne
    simp only [← hnl, ← hnr, ← hne]
    clear hnl hnr hne
    by_cases q1 : nl = 0
    · have p1 : ((nl : Int) == 0) = true := by simp [q1]
      go_wp2_with fail
      go_ret
      exact ⟨rfl, HB3.out⟩
    have p1 : ((nl : Int) == 0) = false := by simp; omega
    by_cases q2 : ne = 0
    · have p2 : ((ne : Int) == 0) = true := by simp [q2]
      go_wp2_with fail
      go_ret
      exact ⟨rfl, HB3.out⟩
    have p2 : ((ne : Int) == 0) = false := by simp; omega
    have HN3 := Lib.hid (HGr.out w3 HB3.out)
    go_wp2_with fail
    refine HN3.out.mono ?_
    rintro e w4 ⟨vm, rfl, hom, hb4⟩
    obtain ⟨am, cm, hvm, -⟩ := own_shape hom
    subst hvm
    have HB4 := Lib.hid (HB3.out.trans (hb4.mono hs3))
    have HGB4 := Lib.hid (HGB3.out.keep hb4)
    have hs4 : w.heap.size ≤ w4.heap.size := HB4.out.size
    clear hb4 hom HGB3 HB3 hs3 HN3 HGr g0 g1 g2 gl p1 p2
    go_upto_region 6 with fail
    obtain ⟨i0, hi0, hz0, hz1, hz2⟩ := info_parts infoI
    obtain ⟨g0, g1, g2, gl⟩ := HGB4.out
    rw [← Hnl.out] at g0
    rw [← Hnr.out] at g1
    rw [← Hne.out] at g2
    have HG4 := Lib.hid (HG.out w4 HB4.out)
    have haL : g.aL = some ⟨g.bL, g.oL, none⟩ := HG4.out.l.ha (by have := Hnl.out; omega)
    have bL := HG4.out.l.hb (by have := Hnl.out; omega)
    rw [haL] at g0
    clear haL
    have G0 := Lib.hid g0
    have G1 := Lib.hid g1
    have G2 := Lib.hid g2
    go_cut [7] (fun s7 wx => ∃ mb gm cm2, s7 = .pointer (some ⟨mb, 0, none⟩) ∧ Hid (Mor wx w4.heap.size mb gm cm2 nl g.L (.slice g.aR nr g.cR) (.slice g.aE ne g.cE)) ∧ Hid (Below w4.heap.size w4 wx))
    case first =>
      refine wp_region_s (fun w' => w'.cell? ⟨w.heap.size, 0, none⟩ = some (.slice (some ⟨g.bL, g.oL, none⟩) nl g.cL) ∧ w'.cell? ⟨w.heap.size, 1, none⟩ = some (.slice g.aR nr g.cR) ∧ w'.cell? ⟨w.heap.size, 2, none⟩ = some (.slice g.aE ne g.cE)) 10 (by kernel_rfl) ?_
      obtain ⟨W0, hW0⟩ : ∃ y, y = w4.drew := ⟨_, rfl⟩
      rw [← hW0]
      have HW0 := Lib.hid (show Below w4.heap.size w4 W0 by rw [hW0]; exact (Below.refl _ _).drew)
      replace g0 := (HW0.out.cell (p := ⟨w.heap.size, 0, none⟩) gl).trans G0.out
      replace g1 := (HW0.out.cell (p := ⟨w.heap.size, 1, none⟩) gl).trans G1.out
      replace g2 := (HW0.out.cell (p := ⟨w.heap.size, 2, none⟩) gl).trans G2.out
      have hw40 := HW0.out.size
      clear hW0
      refine AnyS.take0 (i := 1) (v := (.pointer (some ⟨w.heap.size, 0, none⟩))) rfl (by kernel_rfl) (by kernel_rfl) (by kernel_rfl) (by kernel_rfl) (fun _ _ _ h => h) (fun _ => ⟨g0, g1, g2⟩) (Or.inl ⟨by kernel_rfl, fun w' _ => (by go_simp)⟩) ?_
      simp only [Act.put, List.setIfInBounds_toArray, List.set_cons_zero, List.set_cons_succ]
      refine AnyS.take (i := 2) (v := (.slice (some ⟨g.bL, g.oL, none⟩) nl g.cL)) [10] rfl (by kernel_rfl) (by kernel_rfl) (by kernel_rfl) (by kernel_rfl) (fun _ _ _ h => h) ⟨g0, g1, g2⟩ (Or.inl ⟨by kernel_rfl, fun w' hw' => (by obtain ⟨t0, t1, t2⟩ := hw'; go_simp)⟩) ?_
      simp only [Act.put, List.setIfInBounds_toArray, List.set_cons_zero, List.set_cons_succ]
      refine AnyS.take0 (i := 4) (v := (.pointer (some ⟨w.heap.size, 1, none⟩))) rfl (by kernel_rfl) (by kernel_rfl) (by kernel_rfl) (by kernel_rfl) (fun _ _ _ h => h) (fun _ => ⟨g0, g1, g2⟩) (Or.inl ⟨by kernel_rfl, fun w' _ => (by go_simp)⟩) ?_
      simp only [Act.put, List.setIfInBounds_toArray, List.set_cons_zero, List.set_cons_succ]
      refine AnyS.take (i := 5) (v := (.slice g.aR nr g.cR)) [10] rfl (by kernel_rfl) (by kernel_rfl) (by kernel_rfl) (by kernel_rfl) (fun _ _ _ h => h) ⟨g0, g1, g2⟩ (Or.inl ⟨by kernel_rfl, fun w' hw' => (by obtain ⟨t0, t1, t2⟩ := hw'; go_simp)⟩) ?_
      simp only [Act.put, List.setIfInBounds_toArray, List.set_cons_zero, List.set_cons_succ]
      refine AnyS.take0 (i := 6) (v := (.pointer (some ⟨w.heap.size, 2, none⟩))) rfl (by kernel_rfl) (by kernel_rfl) (by kernel_rfl) (by kernel_rfl) (fun _ _ _ h => h) (fun _ => ⟨g0, g1, g2⟩) (Or.inl ⟨by kernel_rfl, fun w' _ => (by go_simp)⟩) ?_
      simp only [Act.put, List.setIfInBounds_toArray, List.set_cons_zero, List.set_cons_succ]
      refine AnyS.take (i := 7) (v := (.slice g.aE ne g.cE)) [10] rfl (by kernel_rfl) (by kernel_rfl) (by kernel_rfl) (by kernel_rfl) (fun _ _ _ h => h) ⟨g0, g1, g2⟩ (Or.inl ⟨by kernel_rfl, fun w' hw' => (by obtain ⟨t0, t1, t2⟩ := hw'; go_simp)⟩) ?_
      simp only [Act.put, List.setIfInBounds_toArray, List.set_cons_zero, List.set_cons_succ]
      refine AnyS.step2 (i := 0) (j := 9) rfl rfl (by kernel_rfl) (fun K hK => ?_) (fun K hK => ?_)
      · go_simp
        obtain ⟨W1, hW1⟩ : ∃ y, y = W0.alloc (.cells #[] 3) := ⟨_, rfl⟩
        have HW1 := Lib.hid (show Below w4.heap.size w4 W1 by rw [hW1]; exact HW0.out.alloc HW0.out.size _)
        have HO1 := Lib.hid (show OwI W1 w4.heap.size (.slice (some ⟨W0.heap.size, 0, none⟩) 0 0) 0 [] by rw [hW1]; exact World.ownsRow_made W0 #[] 0 HW0.out.size (Nat.zero_le _) (by simp))
        have hsz1 : W0.heap.size < W1.heap.size := by rw [hW1]; simp
        rw [← hW1]
        replace g0 := (HW1.out.cell (p := ⟨w.heap.size, 0, none⟩) gl).trans G0.out
        replace g1 := (HW1.out.cell (p := ⟨w.heap.size, 1, none⟩) gl).trans G1.out
        replace g2 := (HW1.out.cell (p := ⟨w.heap.size, 2, none⟩) gl).trans G2.out
        refine hK.out _ _ (fun _ => ⟨g0, g1, g2⟩) ?_
        clear hK hW1
        refine AnyS.step2 (i := 3) (j := 9) rfl rfl (by kernel_rfl) (fun K hK => ?_) (fun K hK => ?_)
        · refine wp_append_two rfl _ _ 22 rfl w4.heap.size 3 i0 (.int .i64 0) 1 8 Try.underlying22 hi0 hz0 hz1 hz2 rfl (by decide) (.slice (some ⟨W0.heap.size, 0, none⟩) 0 0) 0 _ rfl HO1.out ⟨g.bL, g.oL, none⟩ nl g.cL (g.L.map (Value.int .i64)) rfl (by simp [Hnl.out]) ?qn1 ?qn2 (by unfold maxLen; omega) (by omega) HW1.out.size ?_
          case qn1 =>
            intro jj u hu
            rw [List.getElem?_map] at hu
            obtain ⟨x, hx, rfl⟩ := Option.map_eq_some_iff.1 hu
            obtain ⟨hj, hjx⟩ := List.getElem?_eq_some_iff.1 hx
            have := (HG.out _ (HB4.out.trans (HW1.out.mono hs4))).l.cell jj hj
            rw [hjx] at this
            rw [Addr.add_lit]
            exact this
          case qn2 =>
            intro u hu
            obtain ⟨x, _, rfl⟩ := List.mem_map.1 hu
            rfl
          intro v2 W2 hown hgrow hblk
          have HO2 := Lib.hid (show OwI W2 w4.heap.size v2 nl g.L by
            have : (([] : List Int).map (Value.int .i64) ++ g.L.map (Value.int .i64)) = g.L.map (Value.int .i64) := rfl
            show W2.ownsRow _ _ _ _ _ _
            rw [← this, show nl = 0 + nl by omega]
            exact hown)
          have HW2 := Lib.hid (show Below w4.heap.size w4 W2 from HW1.out.grown hgrow HW1.out.size (fun k hk => (World.ownsRow.lt HO1.out k hk).1))
          have hblk2 : ∀ k, v2.ownBlock = some k → k = W0.heap.size ∨ k = W1.heap.size := fun k hk => by
            rcases hblk with e | e
            · rw [e] at hk
              exact .inl (by simpa [Value.ownBlock] using hk.symm)
            · rw [e] at hk
              exact .inr (by simpa using hk.symm)
          have hsg2 := hgrow.size
          replace g0 := (HW2.out.cell (p := ⟨w.heap.size, 0, none⟩) gl).trans G0.out
          replace g1 := (HW2.out.cell (p := ⟨w.heap.size, 1, none⟩) gl).trans G1.out
          replace g2 := (HW2.out.cell (p := ⟨w.heap.size, 2, none⟩) gl).trans G2.out
          refine hK.out _ _ (fun _ => ⟨g0, g1, g2⟩) ?_
          clear hK hown hgrow hblk
          obtain ⟨gm, cm2, hv2, bq1, bq2, bq3, bq4⟩ := HO2.out.shape (by omega)
          subst hv2
          have hgm := hblk2 gm rfl
          simp only [Act.put, List.setIfInBounds_toArray, List.set_cons_zero, List.set_cons_succ]
          refine AnyS.take0 (i := 8) (v := (.agg #[.slice (some ⟨gm, 0, none⟩) nl cm2, .slice g.aR nr g.cR, .slice g.aE ne g.cE])) rfl (by kernel_rfl) (by kernel_rfl) (by kernel_rfl) (by kernel_rfl) (fun _ _ _ h => h) (fun _ => ⟨g0, g1, g2⟩) (Or.inl ⟨by kernel_rfl, fun w' _ => (by go_simp)⟩) ?_
          simp only [Act.put, List.setIfInBounds_toArray, List.set_cons_zero, List.set_cons_succ]
          refine AnyS.step (j := 9) rfl (by kernel_rfl) (fun K hK => ?_)
          go_simp
          obtain ⟨W3, hW3⟩ : ∃ y, y = W2.alloc (.cells #[.slice none 0 0, .slice none 0 0, .slice none 0 0] 25) := ⟨_, rfl⟩
          have HW3 := Lib.hid (show Below w4.heap.size w4 W3 by rw [hW3]; exact HW2.out.alloc HW2.out.size _)
          have HZ3 := Lib.hid (show Zer W3 W2.heap.size by rw [hW3]; exact ⟨by simp [go_sem], by simp [go_sem], by simp [go_sem], by simp [go_sem], by simp [go_sem], by simp [go_sem], by simp⟩)
          have hsz3 : W2.heap.size < W3.heap.size := by rw [hW3]; simp
          have HO3 := Lib.hid (show OwI W3 w4.heap.size (.slice (some ⟨gm, 0, none⟩) nl cm2) nl g.L by rw [hW3]; exact World.ownsRow.alloc HO2.out _)
          rw [← hW3]
          replace g0 := (HW3.out.cell (p := ⟨w.heap.size, 0, none⟩) gl).trans G0.out
          replace g1 := (HW3.out.cell (p := ⟨w.heap.size, 1, none⟩) gl).trans G1.out
          replace g2 := (HW3.out.cell (p := ⟨w.heap.size, 2, none⟩) gl).trans G2.out
          refine hK.out _ _ (fun _ => ⟨g0, g1, g2⟩) ?_
          clear hK hW3
          refine AnyS.step (j := 10) rfl (by kernel_rfl) (fun K hK => ?_)
          have HZf := HZ3
          have HOf := HO3
          have HWf := HW3
          obtain ⟨mb, hmbd⟩ : ∃ y, y = W2.heap.size := ⟨_, rfl⟩
          have hw4m := HW2.out.size
          have hmb : w4.heap.size ≤ mb := by omega
          have hmne : mb ≠ gm := by omega
          rw [← hmbd] at HZf ⊢
          clear hmbd
          have hz := HZf.out
          obtain ⟨z0, z1, z2, zf0, zf1, zf2, zl⟩ := hz
          go_simp
          have HFin := Lib.hid (mor_made (g := g) (B := w4.heap.size) HOf.out HZf.out hmb hmne (.slice g.aR nr g.cR) (.slice g.aE ne g.cE))
          have HWF := Lib.hid (((HWf.out.setCell (p := ⟨mb, 0, none⟩) hmb (.slice (some ⟨gm, 0, none⟩) nl cm2)).setCell (p := ⟨mb, 1, none⟩) hmb (.slice g.aR nr g.cR)).setCell (p := ⟨mb, 2, none⟩) hmb (.slice g.aE ne g.cE))
          refine hK.out _ _ (fun h => absurd h (by decide)) ?_
          clear hK
          refine AnyS.rest 11 (by kernel_rfl) rfl (by kernel_rfl) ?_
          change wpList _ _ _ [] _ _
          go_wp2_with fail
          go_meet
          exact ⟨mb, gm, cm2, rfl, HFin, HWF⟩
        · go_simp
          obtain ⟨W2, hW2⟩ : ∃ y, y = W1.alloc (.cells #[.slice none 0 0, .slice none 0 0, .slice none 0 0] 25) := ⟨_, rfl⟩
          have HW2 := Lib.hid (show Below w4.heap.size w4 W2 by rw [hW2]; exact HW1.out.alloc HW1.out.size _)
          have HZ2 := Lib.hid (show Zer W2 W1.heap.size by rw [hW2]; exact ⟨by simp [go_sem], by simp [go_sem], by simp [go_sem], by simp [go_sem], by simp [go_sem], by simp [go_sem], by simp⟩)
          have hsz2 : W1.heap.size < W2.heap.size := by rw [hW2]; simp
          have HO2 := Lib.hid (show OwI W2 w4.heap.size (.slice (some ⟨W0.heap.size, 0, none⟩) 0 0) 0 [] by rw [hW2]; exact World.ownsRow.alloc HO1.out _)
          rw [← hW2]
          replace g0 := (HW2.out.cell (p := ⟨w.heap.size, 0, none⟩) gl).trans G0.out
          replace g1 := (HW2.out.cell (p := ⟨w.heap.size, 1, none⟩) gl).trans G1.out
          replace g2 := (HW2.out.cell (p := ⟨w.heap.size, 2, none⟩) gl).trans G2.out
          refine hK.out _ _ (fun _ => ⟨g0, g1, g2⟩) ?_
          clear hK hW2
          refine AnyS.step (j := 3) rfl (by kernel_rfl) (fun K hK => ?_)
          refine wp_append_two rfl _ _ 22 rfl w4.heap.size 3 i0 (.int .i64 0) 1 8 Try.underlying22 hi0 hz0 hz1 hz2 rfl (by decide) (.slice (some ⟨W0.heap.size, 0, none⟩) 0 0) 0 _ rfl HO2.out ⟨g.bL, g.oL, none⟩ nl g.cL (g.L.map (Value.int .i64)) rfl (by simp [Hnl.out]) ?qn1 ?qn2 (by unfold maxLen; omega) (by omega) HW2.out.size ?_
          case qn1 =>
            intro jj u hu
            rw [List.getElem?_map] at hu
            obtain ⟨x, hx, rfl⟩ := Option.map_eq_some_iff.1 hu
            obtain ⟨hj, hjx⟩ := List.getElem?_eq_some_iff.1 hx
            have := (HG.out _ (HB4.out.trans (HW2.out.mono hs4))).l.cell jj hj
            rw [hjx] at this
            rw [Addr.add_lit]
            exact this
          case qn2 =>
            intro u hu
            obtain ⟨x, _, rfl⟩ := List.mem_map.1 hu
            rfl
          intro v3 W3 hown hgrow hblk
          have HO3 := Lib.hid (show OwI W3 w4.heap.size v3 nl g.L by
            have : (([] : List Int).map (Value.int .i64) ++ g.L.map (Value.int .i64)) = g.L.map (Value.int .i64) := rfl
            show W3.ownsRow _ _ _ _ _ _
            rw [← this, show nl = 0 + nl by omega]
            exact hown)
          have HW3 := Lib.hid (show Below w4.heap.size w4 W3 from HW2.out.grown hgrow HW2.out.size (fun k hk => (World.ownsRow.lt HO2.out k hk).1))
          have hblk3 : ∀ k, v3.ownBlock = some k → k = W0.heap.size ∨ k = W2.heap.size := fun k hk => by
            rcases hblk with e | e
            · rw [e] at hk
              exact .inl (by simpa [Value.ownBlock] using hk.symm)
            · rw [e] at hk
              exact .inr (by simpa using hk.symm)
          have hsg3 := hgrow.size
          have HZ3 := Lib.hid (HZ2.out.grown hgrow (by simp [Value.ownBlock]; omega))
          replace g0 := (HW3.out.cell (p := ⟨w.heap.size, 0, none⟩) gl).trans G0.out
          replace g1 := (HW3.out.cell (p := ⟨w.heap.size, 1, none⟩) gl).trans G1.out
          replace g2 := (HW3.out.cell (p := ⟨w.heap.size, 2, none⟩) gl).trans G2.out
          refine hK.out _ _ (fun _ => ⟨g0, g1, g2⟩) ?_
          clear hK hown hgrow hblk
          obtain ⟨gm, cm2, hv3, bq1, bq2, bq3, bq4⟩ := HO3.out.shape (by omega)
          subst hv3
          have hgm := hblk3 gm rfl
          simp only [Act.put, List.setIfInBounds_toArray, List.set_cons_zero, List.set_cons_succ]
          refine AnyS.take0 (i := 8) (v := (.agg #[.slice (some ⟨gm, 0, none⟩) nl cm2, .slice g.aR nr g.cR, .slice g.aE ne g.cE])) rfl (by kernel_rfl) (by kernel_rfl) (by kernel_rfl) (by kernel_rfl) (fun _ _ _ h => h) (fun _ => ⟨g0, g1, g2⟩) (Or.inl ⟨by kernel_rfl, fun w' _ => (by go_simp)⟩) ?_
          simp only [Act.put, List.setIfInBounds_toArray, List.set_cons_zero, List.set_cons_succ]
          refine AnyS.step (j := 10) rfl (by kernel_rfl) (fun K hK => ?_)
          have HZf := HZ3
          have HOf := HO3
          have HWf := HW3
          obtain ⟨mb, hmbd⟩ : ∃ y, y = W1.heap.size := ⟨_, rfl⟩
          have hw4m := HW1.out.size
          have hmb : w4.heap.size ≤ mb := by omega
          have hmne : mb ≠ gm := by omega
          rw [← hmbd] at HZf ⊢
          clear hmbd
          have hz := HZf.out
          obtain ⟨z0, z1, z2, zf0, zf1, zf2, zl⟩ := hz
          go_simp
          have HFin := Lib.hid (mor_made (g := g) (B := w4.heap.size) HOf.out HZf.out hmb hmne (.slice g.aR nr g.cR) (.slice g.aE ne g.cE))
          have HWF := Lib.hid (((HWf.out.setCell (p := ⟨mb, 0, none⟩) hmb (.slice (some ⟨gm, 0, none⟩) nl cm2)).setCell (p := ⟨mb, 1, none⟩) hmb (.slice g.aR nr g.cR)).setCell (p := ⟨mb, 2, none⟩) hmb (.slice g.aE ne g.cE))
          refine hK.out _ _ (fun h => absurd h (by decide)) ?_
          clear hK
          refine AnyS.rest 11 (by kernel_rfl) rfl (by kernel_rfl) ?_
          change wpList _ _ _ [] _ _
          go_wp2_with fail
          go_meet
          exact ⟨mb, gm, cm2, rfl, HFin, HWF⟩
      · go_simp
        obtain ⟨W1, hW1⟩ : ∃ y, y = W0.alloc (.cells #[.slice none 0 0, .slice none 0 0, .slice none 0 0] 25) := ⟨_, rfl⟩
        have HW1 := Lib.hid (show Below w4.heap.size w4 W1 by rw [hW1]; exact HW0.out.alloc HW0.out.size _)
        have HZ1 := Lib.hid (show Zer W1 W0.heap.size by rw [hW1]; exact ⟨by simp [go_sem], by simp [go_sem], by simp [go_sem], by simp [go_sem], by simp [go_sem], by simp [go_sem], by simp⟩)
        have hsz1 : W0.heap.size < W1.heap.size := by rw [hW1]; simp
        rw [← hW1]
        replace g0 := (HW1.out.cell (p := ⟨w.heap.size, 0, none⟩) gl).trans G0.out
        replace g1 := (HW1.out.cell (p := ⟨w.heap.size, 1, none⟩) gl).trans G1.out
        replace g2 := (HW1.out.cell (p := ⟨w.heap.size, 2, none⟩) gl).trans G2.out
        refine hK.out _ _ (fun _ => ⟨g0, g1, g2⟩) ?_
        clear hK hW1
        refine AnyS.step (j := 0) rfl (by kernel_rfl) (fun K hK => ?_)
        go_simp
        obtain ⟨W2, hW2⟩ : ∃ y, y = W1.alloc (.cells #[] 3) := ⟨_, rfl⟩
        have HW2 := Lib.hid (show Below w4.heap.size w4 W2 by rw [hW2]; exact HW1.out.alloc HW1.out.size _)
        have HO2 := Lib.hid (show OwI W2 w4.heap.size (.slice (some ⟨W1.heap.size, 0, none⟩) 0 0) 0 [] by rw [hW2]; exact World.ownsRow_made W1 #[] 0 HW1.out.size (Nat.zero_le _) (by simp))
        have hsz2 : W1.heap.size < W2.heap.size := by rw [hW2]; simp
        have HZ2 := Lib.hid (HZ1.out.grown (w' := W2) (row := none) (by rw [hW2]; exact grownBy_alloc_ W1 _) (by simp))
        rw [← hW2]
        replace g0 := (HW2.out.cell (p := ⟨w.heap.size, 0, none⟩) gl).trans G0.out
        replace g1 := (HW2.out.cell (p := ⟨w.heap.size, 1, none⟩) gl).trans G1.out
        replace g2 := (HW2.out.cell (p := ⟨w.heap.size, 2, none⟩) gl).trans G2.out
        refine hK.out _ _ (fun _ => ⟨g0, g1, g2⟩) ?_
        clear hK hW2
        refine AnyS.step (j := 3) rfl (by kernel_rfl) (fun K hK => ?_)
        refine wp_append_two rfl _ _ 22 rfl w4.heap.size 3 i0 (.int .i64 0) 1 8 Try.underlying22 hi0 hz0 hz1 hz2 rfl (by decide) (.slice (some ⟨W1.heap.size, 0, none⟩) 0 0) 0 _ rfl HO2.out ⟨g.bL, g.oL, none⟩ nl g.cL (g.L.map (Value.int .i64)) rfl (by simp [Hnl.out]) ?qn1 ?qn2 (by unfold maxLen; omega) (by omega) HW2.out.size ?_
        case qn1 =>
          intro jj u hu
          rw [List.getElem?_map] at hu
          obtain ⟨x, hx, rfl⟩ := Option.map_eq_some_iff.1 hu
          obtain ⟨hj, hjx⟩ := List.getElem?_eq_some_iff.1 hx
          have := (HG.out _ (HB4.out.trans (HW2.out.mono hs4))).l.cell jj hj
          rw [hjx] at this
          rw [Addr.add_lit]
          exact this
        case qn2 =>
          intro u hu
          obtain ⟨x, _, rfl⟩ := List.mem_map.1 hu
          rfl
        intro v3 W3 hown hgrow hblk
        have HO3 := Lib.hid (show OwI W3 w4.heap.size v3 nl g.L by
          have : (([] : List Int).map (Value.int .i64) ++ g.L.map (Value.int .i64)) = g.L.map (Value.int .i64) := rfl
          show W3.ownsRow _ _ _ _ _ _
          rw [← this, show nl = 0 + nl by omega]
          exact hown)
        have HW3 := Lib.hid (show Below w4.heap.size w4 W3 from HW2.out.grown hgrow HW2.out.size (fun k hk => (World.ownsRow.lt HO2.out k hk).1))
        have hblk3 : ∀ k, v3.ownBlock = some k → k = W1.heap.size ∨ k = W2.heap.size := fun k hk => by
          rcases hblk with e | e
          · rw [e] at hk
            exact .inl (by simpa [Value.ownBlock] using hk.symm)
          · rw [e] at hk
            exact .inr (by simpa using hk.symm)
        have hsg3 := hgrow.size
        have HZ3 := Lib.hid (HZ2.out.grown hgrow (by simp [Value.ownBlock]; omega))
        replace g0 := (HW3.out.cell (p := ⟨w.heap.size, 0, none⟩) gl).trans G0.out
        replace g1 := (HW3.out.cell (p := ⟨w.heap.size, 1, none⟩) gl).trans G1.out
        replace g2 := (HW3.out.cell (p := ⟨w.heap.size, 2, none⟩) gl).trans G2.out
        refine hK.out _ _ (fun _ => ⟨g0, g1, g2⟩) ?_
        clear hK hown hgrow hblk
        obtain ⟨gm, cm2, hv3, bq1, bq2, bq3, bq4⟩ := HO3.out.shape (by omega)
        subst hv3
        have hgm := hblk3 gm rfl
        simp only [Act.put, List.setIfInBounds_toArray, List.set_cons_zero, List.set_cons_succ]
        refine AnyS.take0 (i := 8) (v := (.agg #[.slice (some ⟨gm, 0, none⟩) nl cm2, .slice g.aR nr g.cR, .slice g.aE ne g.cE])) rfl (by kernel_rfl) (by kernel_rfl) (by kernel_rfl) (by kernel_rfl) (fun _ _ _ h => h) (fun _ => ⟨g0, g1, g2⟩) (Or.inl ⟨by kernel_rfl, fun w' _ => (by go_simp)⟩) ?_
        simp only [Act.put, List.setIfInBounds_toArray, List.set_cons_zero, List.set_cons_succ]
        refine AnyS.step (j := 10) rfl (by kernel_rfl) (fun K hK => ?_)
        have HZf := HZ3
        have HOf := HO3
        have HWf := HW3
        obtain ⟨mb, hmbd⟩ : ∃ y, y = W0.heap.size := ⟨_, rfl⟩
        have hw4m := HW0.out.size
        have hmb : w4.heap.size ≤ mb := by omega
        have hmne : mb ≠ gm := by omega
        rw [← hmbd] at HZf ⊢
        clear hmbd
        have hz := HZf.out
        obtain ⟨z0, z1, z2, zf0, zf1, zf2, zl⟩ := hz
        go_simp
        have HFin := Lib.hid (mor_made (g := g) (B := w4.heap.size) HOf.out HZf.out hmb hmne (.slice g.aR nr g.cR) (.slice g.aE ne g.cE))
        have HWF := Lib.hid (((HWf.out.setCell (p := ⟨mb, 0, none⟩) hmb (.slice (some ⟨gm, 0, none⟩) nl cm2)).setCell (p := ⟨mb, 1, none⟩) hmb (.slice g.aR nr g.cR)).setCell (p := ⟨mb, 2, none⟩) hmb (.slice g.aE ne g.cE))
        refine hK.out _ _ (fun h => absurd h (by decide)) ?_
        clear hK
        refine AnyS.rest 11 (by kernel_rfl) rfl (by kernel_rfl) ?_
        change wpList _ _ _ [] _ _
        go_wp2_with fail
        go_meet
        exact ⟨mb, gm, cm2, rfl, HFin, HWF⟩
    obtain ⟨mb, gm, cm2, rfl, HMo, HBc⟩ := hcut
    have HB5 := Lib.hid (HB4.out.trans (HBc.out.mono hs4))
    have HGB5 := Lib.hid (HGB4.out.keep HBc.out)
    have hs5 : w.heap.size ≤ wc.heap.size := HB5.out.size
    have hw45 := HBc.out.size
    have hgl4 := HGB4.out.lt
    clear G0 G1 G2 g0 g1 g2 gl HG4 bL HGB4
    obtain ⟨g0, g1, g2, gl⟩ := HGB5.out
    rw [← Hnl.out] at g0
    rw [← Hnr.out] at g1
    rw [← Hne.out] at g2
    obtain ⟨u, hu⟩ : ∃ u : Nat, IntKind.u64.wrap at_ = (u : Int) := ⟨(IntKind.u64.wrap at_).toNat, by have := u64_ge at_; omega⟩
    have Hu := Lib.hid hu
    clear hu
    have Hnu := Lib.hid (show IntKind.u64.wrap (nl : Int) = (nl : Int) from IntWalk.u64_in _ (by omega))
    obtain ⟨kN, hkN⟩ : ∃ kN : Nat, kN = u % nl := ⟨_, rfl⟩
    have hkl : kN < nl := by rw [hkN]; exact Nat.mod_lt _ (by omega)
    have hkz : ((u : Int) % (nl : Int)) = (kN : Int) := by rw [hkN]; exact (Int.natCast_emod u nl).symm
    have hklz : (kN : Int) < (nl : Int) := by omega
    have Hkw := Lib.hid (show wrap64 ((u : Int) % (nl : Int)) = (kN : Int) by rw [hkz]; exact IntWalk.wrap64_in _ (by omega))
    have Hkw2 := Lib.hid (show IntKind.i64.wrap ((u : Int) % (nl : Int)) = (kN : Int) by rw [hkz]; exact IntWalk.i64_in _ (by omega))
    clear hkN hkz
    have m0 := HMo.out.c0
    have m1 := HMo.out.c1
    have m2 := HMo.out.c2
    have hmlt := HMo.out.lt
    have hgmB := World.ownsRow.lt HMo.out.o gm rfl
    have hkL : kN < g.L.length := by have := Hnl.out; omega
    have ck := HMo.out.o.at_ kN hkL
    have fk := World.ownsRow.frozenAt HMo.out.o kN
    obtain ⟨_, _, hsh, _, _, hcm1, hcm2⟩ := HMo.out.o.shape (by omega)
    simp only [Value.slice.injEq, Option.some.injEq, Addr.mk.injEq, and_true, true_and] at hsh
    obtain ⟨rfl, rfl⟩ := hsh
    unfold maxLen at hcm2
    have hlk := HL.out _ (List.getElem_mem hkL)
    obtain ⟨lk, hlkd⟩ : ∃ lk, lk = g.L[kN]'hkL := ⟨_, rfl⟩
    have Hlk := Lib.hid hlkd
    rw [← hlkd] at ck hlk
    clear hlkd
    by_cases qk : lk = 1000
    · have pk : (lk == 1000) = true := by simpa using qk
      clear qk
      have hu := Hu.out
      have hnu := Hnu.out
      have hkw := Hkw.out
      have hkw2 := Hkw2.out
      go_wp2_with fail
      go_ret
      exact ⟨rfl, HB5.out⟩
    have pk : (lk == 1000) = false := by simpa using qk
    have hne := HMo.out.ne
    have hbm := HMo.out.bm
    have HB6 := Lib.hid (HB5.out.setCell (p := ⟨gm, kN, none⟩) (Nat.le_trans hs4 hgmB.1) (.int .i64 (lk + 1)))
    have HO6 := Lib.hid (HMo.out.o.put kN (lk + 1))
    have hmax : (nl : Nat) ≤ cm2 := hcm1
    obtain ⟨W6, hW6⟩ : ∃ y, y = wc.setCell ⟨gm, kN, none⟩ (.int .i64 (lk + 1)) := ⟨_, rfl⟩
    rw [← hW6] at HB6 HO6
    have HGB6 := Lib.hid (show GbAt W6 w.heap.size g by
      have h1 := HGB5.out
      have h2 : ∀ o, W6.cell? ⟨w.heap.size, o, none⟩ = wc.cell? ⟨w.heap.size, o, none⟩ := fun o => by rw [hW6]; exact World.cell?_setCell_other _ _ _ _ (by intro e; cases e; omega)
      exact ⟨(h2 0).trans h1.c0, (h2 1).trans h1.c1, (h2 2).trans h1.c2, Nat.lt_of_lt_of_le h1.lt (by rw [hW6]; simp)⟩)
    have HG6 := Lib.hid (show GpAt W6 ⟨g.L.set kN (lk + 1), g.R, g.E, some ⟨gm, 0, none⟩, gm, 0, cm2, g.aR, g.bR, g.oR, g.cR, g.aE, g.bE, g.oE, g.cE⟩ by
      have h1 := HG.out W6 HB6.out
      refine ⟨⟨rfl, fun _ => rfl, fun _ => (World.ownsRow.lt HO6.out gm rfl).2, ?_, by unfold maxLen; exact hcm2, (fun h => by cases h), fun j hj => ?_⟩, h1.r, h1.e⟩
      · show (g.L.set kN (lk + 1)).length ≤ cm2
        rw [List.length_set, ← Hnl.out]
        exact hmax
      · rw [Nat.zero_add]
        exact HO6.out.at_ j hj)
    have hck6 : chk ⟨g.L.set kN (lk + 1), g.R, g.E, some ⟨gm, 0, none⟩, gm, 0, cm2, g.aR, g.bR, g.oR, g.cR, g.aE, g.bE, g.oE, g.cE⟩ = 0 := by
      refine chk_of (by show (g.L.set kN (lk + 1)).length ≤ 64; rw [List.length_set, ← Hnl.out]; exact l1) (by show g.R.length ≤ 64; rw [← Hnr.out]; exact l2) (by show g.E.length ≤ 1024; rw [← Hne.out]; exact l3) (fun x hx => ?_) HR.out (fun e he => ?_) HND.out
      · rcases List.mem_or_eq_of_mem_set (show x ∈ g.L.set kN (lk + 1) from hx) with h | rfl
        · exact HL.out x h
        · omega
      · have := HE.out e he
        show 0 ≤ e.1 ∧ e.1 < (((g.L.set kN (lk + 1)).length : Nat) : Int) ∧ _
        rw [List.length_set]
        exact this
    obtain ⟨M1, A1, B1, f1, f2⟩ := pf_of hck6
    have hgrow := grow_more HKz.out hck6 hkL (by rw [atI_get hkL, ← Hlk.out]) rfl rfl HPf.out f2
    have HGr6 := Lib.hid (gre_any _ W6 HG6.out hck6 _ _ M1 f1)
    have Hgrow := Lib.hid hgrow
    clear f1 f2 hgrow hck6
    unfold Gph.val at HGr6
    simp only [List.length_set] at HGr6
    rw [← Hnl.out, ← Hnr.out, ← Hne.out] at HGr6
    have m60 : W6.cell? ⟨mb, 0, none⟩ = some (.slice (some ⟨gm, 0, none⟩) nl cm2) := by rw [hW6, World.cell?_setCell_other _ _ _ _ (by intro e; cases e; exact hne rfl)]; exact m0
    have m61 : W6.cell? ⟨mb, 1, none⟩ = some (.slice g.aR nr g.cR) := by rw [hW6, World.cell?_setCell_other _ _ _ _ (by intro e; cases e; exact hne rfl)]; exact m1
    have m62 : W6.cell? ⟨mb, 2, none⟩ = some (.slice g.aE ne g.cE) := by rw [hW6, World.cell?_setCell_other _ _ _ _ (by intro e; cases e; exact hne rfl)]; exact m2
    have HW6 := Lib.hid hW6
    have hs6 : w.heap.size ≤ W6.heap.size := HB6.out.size
    clear hW6 qk
    have hlw : IntKind.i64.wrap (lk + 1) = lk + 1 := IntWalk.i64_in _ (by omega)
    have hu := Hu.out
    have hnu := Hnu.out
    have hkw := Hkw.out
    have hkw2 := Hkw2.out
    go_upto_region 11 with fail
    clear hu hnu hkw hkw2 Hu Hnu Hkw Hkw2 hlw
    rw [← HW6.out]
    clear m0 m1 m2 ck fk HW6 g0 g1 g2 gl HGB5 HB5
    go_wp2_with fail
    refine HGr6.out.mono ?_
    rintro e w7 ⟨va, rfl, hoa, hb7⟩
    obtain ⟨aa, ca, hva, -⟩ := own_shape hoa
    subst hva
    have HB7 := Lib.hid (HB6.out.trans (hb7.mono hs6))
    have HGB7 := Lib.hid (HGB6.out.keep hb7)
    have hs7 : w.heap.size ≤ w7.heap.size := HB7.out.size
    clear Hlk
    clear hb7 hoa HGB6 HB6 hs6 HGr6 HG6 HO6 HMo HBc m60 m61 m62 hne hbm hmlt hgmB hcm1 hcm2 hmax hlk pk hkL hkl hklz hgl4 hw45 hs5 hs4
    obtain ⟨g0, g1, g2, gl⟩ := HGB7.out
    rw [← Hnl.out] at g0
    rw [← Hnr.out] at g1
    rw [← Hne.out] at g2
    have HG7 := Lib.hid (HG.out w7 HB7.out)
    have haE : g.aE = some ⟨g.bE, g.oE, none⟩ := HG7.out.e.ha (by have := Hne.out; omega)
    have bE := HG7.out.e.hb (by have := Hne.out; omega)
    have hcE := HG7.out.e.hcap
    have hmE := HG7.out.e.hmax
    unfold maxLen at hmE
    rw [← Hne.out] at hcE
    rw [haE] at g2
    obtain ⟨n1, hn1⟩ : ∃ n1, n1 = ne - 1 := ⟨_, rfl⟩
    have hn1z : (ne : Int) - 1 = (n1 : Int) := by omega
    have HG12 := Lib.hid (fun W (hW : Below w.heap.size w W) => show GpAt W ⟨g.L, g.R, g.E.take n1, g.aL, g.bL, g.oL, g.cL, g.aR, g.bR, g.oR, g.cR, some ⟨g.bE, g.oE, none⟩, g.bE, g.oE, g.cE⟩ by
      have h1 := HG.out W hW
      have hlt : (g.E.take n1).length = n1 := by rw [List.length_take]; have := Hne.out; omega
      refine ⟨h1.l, h1.r, ⟨rfl, fun _ => rfl, fun _ => h1.e.hb (by have := Hne.out; omega), ?_, h1.e.hmax, fun j hj => ?_, fun j hj => ?_⟩⟩
      · show (g.E.take n1).length ≤ g.cE
        rw [hlt]; omega
      · have hj' : j < g.E.length := by have h9 : j < (g.E.take n1).length := hj; rw [hlt] at h9; have := Hne.out; omega
        have := h1.e.c0 j hj'
        show W.cell? ⟨g.bE, g.oE + j * 2, none⟩ = some (.int .i64 ((g.E.take n1)[j]'hj).1)
        rw [List.getElem_take]
        exact this
      · have hj' : j < g.E.length := by have h9 : j < (g.E.take n1).length := hj; rw [hlt] at h9; have := Hne.out; omega
        have := h1.e.c1 j hj'
        show W.cell? ⟨g.bE, g.oE + j * 2 + 1, none⟩ = some (.int .i64 ((g.E.take n1)[j]'hj).2)
        rw [List.getElem_take]
        exact this)
    have hck12 : chk ⟨g.L, g.R, g.E.take n1, g.aL, g.bL, g.oL, g.cL, g.aR, g.bR, g.oR, g.cR, some ⟨g.bE, g.oE, none⟩, g.bE, g.oE, g.cE⟩ = 0 := by
      refine chk_of (by show g.L.length ≤ 64; rw [← Hnl.out]; exact l1) (by show g.R.length ≤ 64; rw [← Hnr.out]; exact l2) (by show (g.E.take n1).length ≤ 1024; rw [List.length_take, ← Hne.out]; omega) HL.out HR.out (fun e he => HE.out e (List.mem_of_mem_take (show e ∈ g.E.take n1 from he))) (HND.out.sublist (List.take_sublist _ _))
    obtain ⟨M2, A2, B2, f1, f2⟩ := pf_of hck12
    have hless := grow_less HKz.out hck12 rfl rfl (by rw [← Hne.out, ← hn1]) (by rw [← Hne.out]; omega) HPf.out f2
    have Hless := Lib.hid hless
    have HGr12 := Lib.hid (fun W (hW : Below w.heap.size w W) => gre_any _ W (HG12.out W hW) hck12 _ _ M2 f1)
    clear f1 f2 hless hck12 HG12
    unfold Gph.val at HGr12
    have hlt : (g.E.take n1).length = n1 := by rw [List.length_take]; have := Hne.out; omega
    simp only [hlt] at HGr12
    rw [← Hnl.out, ← Hnr.out] at HGr12
    have HaE := Lib.hid haE
    clear haE hlt HG7
    have hn1c : (n1 : Int) ≤ (g.cE : Int) := by omega
    have hn1w : IntKind.i64.wrap ((ne : Int) - 1) = (n1 : Int) := by rw [hn1z]; exact IntWalk.i64_in _ (by omega)
    have hn1e : ne = n1 + 1 := by omega
    have Hn1e := Lib.hid hn1e
    clear hn1 hn1z hn1e
    go_upto_region 12 with fail
    refine wp_region_s (fun w' => w'.cell? ⟨w.heap.size, 0, none⟩ = some (.slice g.aL nl g.cL) ∧ w'.cell? ⟨w.heap.size, 1, none⟩ = some (.slice g.aR nr g.cR) ∧ w'.cell? ⟨w.heap.size, 2, none⟩ = some (.slice (some ⟨g.bE, g.oE, none⟩) ne g.cE)) 12 (by kernel_rfl) ?_
    refine AnyS.take0 (i := 0) (v := (.pointer (some ⟨w.heap.size, 0, none⟩))) rfl (by kernel_rfl) (by kernel_rfl) (by kernel_rfl) (by kernel_rfl) (fun _ _ _ h => h) (fun _ => ⟨g0, g1, g2⟩) (Or.inl ⟨by kernel_rfl, fun w' _ => (by go_simp)⟩) ?_
    simp only [Act.put, List.setIfInBounds_toArray, List.set_cons_zero, List.set_cons_succ]
    refine AnyS.take (i := 1) (v := (.slice g.aL nl g.cL)) [12, 11] rfl (by kernel_rfl) (by kernel_rfl) (by kernel_rfl) (by kernel_rfl) (fun _ _ _ h => h) ⟨g0, g1, g2⟩ (Or.inl ⟨by kernel_rfl, fun w' hw' => (by obtain ⟨t0, t1, t2⟩ := hw'; go_simp)⟩) ?_
    simp only [Act.put, List.setIfInBounds_toArray, List.set_cons_zero, List.set_cons_succ]
    refine AnyS.take0 (i := 2) (v := (.pointer (some ⟨w.heap.size, 1, none⟩))) rfl (by kernel_rfl) (by kernel_rfl) (by kernel_rfl) (by kernel_rfl) (fun _ _ _ h => h) (fun _ => ⟨g0, g1, g2⟩) (Or.inl ⟨by kernel_rfl, fun w' _ => (by go_simp)⟩) ?_
    simp only [Act.put, List.setIfInBounds_toArray, List.set_cons_zero, List.set_cons_succ]
    refine AnyS.take (i := 3) (v := (.slice g.aR nr g.cR)) [12, 11] rfl (by kernel_rfl) (by kernel_rfl) (by kernel_rfl) (by kernel_rfl) (fun _ _ _ h => h) ⟨g0, g1, g2⟩ (Or.inl ⟨by kernel_rfl, fun w' hw' => (by obtain ⟨t0, t1, t2⟩ := hw'; go_simp)⟩) ?_
    simp only [Act.put, List.setIfInBounds_toArray, List.set_cons_zero, List.set_cons_succ]
    refine AnyS.take0 (i := 4) (v := (.pointer (some ⟨w.heap.size, 2, none⟩))) rfl (by kernel_rfl) (by kernel_rfl) (by kernel_rfl) (by kernel_rfl) (fun _ _ _ h => h) (fun _ => ⟨g0, g1, g2⟩) (Or.inl ⟨by kernel_rfl, fun w' _ => (by go_simp)⟩) ?_
    simp only [Act.put, List.setIfInBounds_toArray, List.set_cons_zero, List.set_cons_succ]
    refine AnyS.take (i := 5) (v := (.slice (some ⟨g.bE, g.oE, none⟩) ne g.cE)) [12, 11, 10] rfl (by kernel_rfl) (by kernel_rfl) (by kernel_rfl) (by kernel_rfl) (fun _ _ _ h => h) ⟨g0, g1, g2⟩ (Or.inl ⟨by kernel_rfl, fun w' hw' => (by obtain ⟨t0, t1, t2⟩ := hw'; go_simp)⟩) ?_
    simp only [Act.put, List.setIfInBounds_toArray, List.set_cons_zero, List.set_cons_succ]
    refine AnyS.take0 (i := 6) (v := (.pointer (some ⟨w.heap.size, 2, none⟩))) rfl (by kernel_rfl) (by kernel_rfl) (by kernel_rfl) (by kernel_rfl) (fun _ _ _ h => h) (fun _ => ⟨g0, g1, g2⟩) (Or.inl ⟨by kernel_rfl, fun w' _ => (by go_simp)⟩) ?_
    simp only [Act.put, List.setIfInBounds_toArray, List.set_cons_zero, List.set_cons_succ]
    refine AnyS.take (i := 7) (v := (.slice (some ⟨g.bE, g.oE, none⟩) ne g.cE)) [12, 11, 10, 9, 8] rfl (by kernel_rfl) (by kernel_rfl) (by kernel_rfl) (by kernel_rfl) (fun _ _ _ h => h) ⟨g0, g1, g2⟩ (Or.inl ⟨by kernel_rfl, fun w' hw' => (by obtain ⟨t0, t1, t2⟩ := hw'; go_simp)⟩) ?_
    simp only [Act.put, List.setIfInBounds_toArray, List.set_cons_zero, List.set_cons_succ]
    refine AnyS.take0 (i := 8) (v := (.int .i64 (ne : Int))) rfl (by kernel_rfl) (by kernel_rfl) (by kernel_rfl) (by kernel_rfl) (fun _ _ _ h => h) (fun _ => ⟨g0, g1, g2⟩) (Or.inl ⟨by kernel_rfl, fun w' _ => (by go_simp)⟩) ?_
    simp only [Act.put, List.setIfInBounds_toArray, List.set_cons_zero, List.set_cons_succ]
    refine AnyS.take0 (i := 9) (v := (.int .i64 (n1 : Int))) rfl (by kernel_rfl) (by kernel_rfl) (by kernel_rfl) (by kernel_rfl) (fun _ _ _ h => h) (fun _ => ⟨g0, g1, g2⟩) (Or.inl ⟨by kernel_rfl, fun w' _ => (by go_simp)⟩) ?_
    simp only [Act.put, List.setIfInBounds_toArray, List.set_cons_zero, List.set_cons_succ]
    refine AnyS.take0 (i := 10) (v := (.slice (some ⟨g.bE, g.oE, none⟩) n1 g.cE)) rfl (by kernel_rfl) (by kernel_rfl) (by kernel_rfl) (by kernel_rfl) (fun _ _ _ h => h) (fun _ => ⟨g0, g1, g2⟩) (Or.inl ⟨by kernel_rfl, fun w' _ => (by go_simp)⟩) ?_
    simp only [Act.put, List.setIfInBounds_toArray, List.set_cons_zero, List.set_cons_succ]
    refine AnyS.take0 (i := 11) (v := (.agg #[.slice g.aL nl g.cL, .slice g.aR nr g.cR, .slice (some ⟨g.bE, g.oE, none⟩) n1 g.cE])) rfl (by kernel_rfl) (by kernel_rfl) (by kernel_rfl) (by kernel_rfl) (fun _ _ _ h => h) (fun _ => ⟨g0, g1, g2⟩) (Or.inl ⟨by kernel_rfl, fun w' _ => (by go_simp)⟩) ?_
    simp only [Act.put, List.setIfInBounds_toArray, List.set_cons_zero, List.set_cons_succ]
    refine AnyS.step (j := 12) rfl (by kernel_rfl) (fun K hK => ?_)
    go_simp
    refine (HGr12.out _ HB7.out.drew).mono ?_
    rintro e w8 ⟨vb, rfl, hob, hb8⟩
    replace hb8 := undrew hb8
    obtain ⟨ab, cb, hvb, -⟩ := own_shape hob
    subst hvb
    have HB8 := Lib.hid (HB7.out.trans (hb8.mono hs7))
    have HGB8 := Lib.hid (HGB7.out.keep hb8)
    have hs8 : w.heap.size ≤ w8.heap.size := HB8.out.size
    clear hb8 hob HGB7 HB7 hs7 HGr12 g0 g1 g2 gl hn1c
    obtain ⟨g0, g1, g2, gl⟩ := HGB8.out
    rw [← Hnl.out] at g0
    rw [← Hnr.out] at g1
    rw [← Hne.out, HaE.out] at g2
    refine hK.out _ _ (fun h => absurd h (by decide)) ?_
    clear hK
    refine AnyS.step (j := 13) rfl (by kernel_rfl) (fun K hK => ?_)
    go_simp
    refine hK.out _ _ (fun h => absurd h (by decide)) ?_
    clear hK
    refine AnyS.take0 (i := 14) (v := (.slice ab M2.length cb)) rfl (by kernel_rfl) (by kernel_rfl) (by kernel_rfl) (by kernel_rfl) (fun _ _ _ h => h) (fun h => absurd h (by decide)) (Or.inl ⟨by kernel_rfl, fun w' _ => (by go_simp)⟩) ?_
    simp only [Act.put, List.setIfInBounds_toArray, List.set_cons_zero, List.set_cons_succ]
    refine AnyS.take0 (i := 15) (v := (.int .i64 0)) rfl (by kernel_rfl) (by kernel_rfl) (by kernel_rfl) (by kernel_rfl) (fun _ _ _ h => h) (fun h => absurd h (by decide)) (Or.inl ⟨by kernel_rfl, fun w' _ => (by go_simp)⟩) ?_
    simp only [Act.put, List.setIfInBounds_toArray, List.set_cons_zero, List.set_cons_succ]
    refine AnyS.rest 16 (by kernel_rfl) rfl (by kernel_rfl) ?_
    change wpList _ _ _ [_, _] _ _
    obtain ⟨i2, hi2, hy0, hy1, hy2⟩ := info_parts infoP
    have HR0 := Lib.hid (show (w8.alloc (.cells #[] 52)).ownsRow w8.heap.size 52 2 (.slice (some ⟨w8.heap.size, 0, none⟩) 0 0) 0 (flatP (g.E.reverse.take 0)) from World.ownsRow_made w8 #[] 0 (Nat.le_refl _) (Nat.zero_le _) (by simp))
    have HW0 := Lib.hid ((Below.refl w8.heap.size w8).alloc (Nat.le_refl _) (.cells #[] 52))
    go_wp2_with fail
    go_loopw [13, 14] (fun s13 s14 wq => ∃ (j : Nat) (vE : Value), s13 = vE ∧ s14 = .int .i64 ((n1 : Int) - (j : Int)) ∧ j ≤ ne ∧ Hid (wq.ownsRow w8.heap.size 52 2 vE j (flatP (g.E.reverse.take j))) ∧ Hid (Below w8.heap.size w8 wq)) (fun _ s14 _ => (intOf s14 + 1).toNat)
    case atStart => exact ⟨0, _, rfl, by simp, Nat.zero_le _, HR0, HW0⟩
    case round =>
      clear HR0 HW0
      obtain ⟨j, vE, rfl, rfl, hj, HRw, HBw⟩ := hrel
      have HBj := Lib.hid (HB8.out.trans (HBw.out.mono hs8))
      have hwj := HBw.out.size
      obtain ⟨g0, g1, g2, gl⟩ := (HGB8.out.keep HBw.out)
      rw [← Hnl.out] at g0
      rw [← Hnr.out] at g1
      rw [← Hne.out, HaE.out] at g2
      by_cases hlt : j < ne
      · obtain ⟨iN, hiN⟩ : ∃ iN, iN = n1 - j := ⟨_, rfl⟩
        have hne1 := Hn1e.out
        have hii : (n1 : Int) - (j : Int) = (iN : Int) := by omega
        have hiE : iN < g.E.length := by have := Hne.out; omega
        have hjR : j < g.E.reverse.length := by rw [List.length_reverse]; have := Hne.out; omega
        have hrev : g.E.reverse[j]'hjR = g.E[iN]'hiE := by
          rw [List.getElem_reverse]
          congr 1
          have := Hne.out
          omega
        have hft : flatP (g.E.reverse.take (j + 1)) = flatP (g.E.reverse.take j) ++ [.int .i64 (g.E[iN]'hiE).1, .int .i64 (g.E[iN]'hiE).2] := by
          unfold flatP
          rw [List.take_add_one, List.getElem?_eq_getElem hjR, List.flatMap_append, hrev]
          simp
        have HGr := Lib.hid (HG.out wr HBj.out)
        have bE := HGr.out.e.hb (by omega)
        have hcE := HGr.out.e.hcap
        have hmE := HGr.out.e.hmax
        unfold maxLen at hmE
        have d0 := HGr.out.e.c0 iN hiE
        have d1 := HGr.out.e.c1 iN hiE
        rw [← Hne.out] at hcE
        have hiz : (iN : Int) < (ne : Int) := by omega
        have hnext : (n1 : Int) - ((j + 1 : Nat) : Int) = (iN : Int) - 1 := by omega
        have Hnext := Lib.hid hnext
        generalize (g.E[iN]'hiE).1 = eu at *
        generalize (g.E[iN]'hiE).2 = ev at *
        have HRa := Lib.hid (World.ownsRow.alloc HRw.out (.cells #[.int .i64 eu, .int .i64 ev] 52))
        have HRb := Lib.hid (fun k hk => (World.ownsRow.lt HRw.out k hk).1)
        rw [hii]
        have hiw : IntKind.i64.wrap ((iN : Int) - 1) = (iN : Int) - 1 := IntWalk.i64_in _ (by omega)
        have Hft := Lib.hid hft
        clear hft hnext hii hiN hne1 hiE hjR hrev HGr HRw
        go_wp2_with (first | (at_builtin; refine wpList_append_evry _ rfl _ _ 23 rfl w8.heap.size 52 i2 (.agg #[.int .i64 0, .int .i64 0]) 2 16 Try.underlying23 hi2 hy0 hy1 hy2 rfl (by decide) _ _ _ rfl HRa.out (some ⟨wr.heap.size, 0, none⟩) 1 1 [.int .i64 eu, .int .i64 ev] rfl ?qc1 ?qc2 ?qc3 ?qc4 ?qc5 ?qc6 ?qc7 ?_) | go_in)
        case qc1 => rfl
        case qc2 => exact fun h => by cases h
        case qc3 =>
          intro ad ha jj u2 hu2
          obtain rfl := Option.some.inj ha
          match jj, hu2 with
          | 0, hu2 => simp at hu2; subst hu2; rw [Addr.add_lit]; simp [go_sem]
          | 1, hu2 => simp at hu2; subst hu2; rw [Addr.add_lit]; simp [go_sem]
          | jj + 2, hu2 => simp at hu2
        case qc4 => intro u2 hu2; simp at hu2; rcases hu2 with rfl | rfl <;> rfl
        case qc5 => unfold maxLen; omega
        case qc6 => omega
        case qc7 => simp; omega
        intro v7 w9 hown hgrow
        have HR9 := Lib.hid (show w9.ownsRow w8.heap.size 52 2 v7 (j + 1) (flatP (g.E.reverse.take (j + 1))) by rw [Hft.out]; exact hown)
        have HB9 := Lib.hid ((HBw.out.alloc hwj (.cells #[.int .i64 eu, .int .i64 ev] 52)).grown hgrow (by simp; omega) HRb.out)
        clear hown hgrow HRa HRb HBw HBj g0 g1 g2 gl
        go_wp2_with fail
        go_roundw
        case rel => exact ⟨j + 1, _, rfl, by rw [Hnext.out], by omega, HR9, HB9⟩
        case measure => first | (simp [intOf]; done) | (simp [intOf]; omega)
      · have hjn : j = ne := by omega
        subst hjn
        have hne1 := Hn1e.out
        have hneg : (n1 : Int) - (j : Int) = -1 := by omega
        rw [hneg]
        have hfull : g.E.reverse.take j = g.E.reverse := List.take_of_length_le (by rw [List.length_reverse]; have := Hne.out; omega)
        have hRw := HRw.out
        rw [hfull] at hRw
        have hbs := hwj
        rcases hRw.2 with ⟨_, h0⟩ | ⟨ge, ce, cur, hvE, hge1, hge2, hce1, hce2, _⟩
        · exact absurd h0 (by omega)
        subst hvE
        have HSP := Lib.hid (show SlP wr (some ⟨ge, 0, none⟩) ge 0 g.E.reverse.length ce g.E.reverse by
          have hel : g.E.reverse.length = j := by rw [List.length_reverse]; exact Hne.out.symm
          refine ⟨rfl, fun _ => rfl, fun _ => (World.ownsRow.lt hRw ge rfl).2, by omega, hce2, fun k hk => ?_, fun k hk => ?_⟩
          · rw [Nat.zero_add, World.ownsRow.cellAt hRw (k * 2) (by omega)]
            exact (flatP_at _ k hk).1
          · rw [Nat.zero_add, World.ownsRow.cellAt hRw (k * 2 + 1) (by omega)]
            exact (flatP_at _ k hk).2)
        have HG13 := Lib.hid (show GpAt wr ⟨g.L, g.R, g.E.reverse, g.aL, g.bL, g.oL, g.cL, g.aR, g.bR, g.oR, g.cR, some ⟨ge, 0, none⟩, ge, 0, ce⟩ from ⟨(HG.out wr HBj.out).l, (HG.out wr HBj.out).r, HSP.out⟩)
        have hck13 : chk ⟨g.L, g.R, g.E.reverse, g.aL, g.bL, g.oL, g.cL, g.aR, g.bR, g.oR, g.cR, some ⟨ge, 0, none⟩, ge, 0, ce⟩ = 0 := by
          refine chk_of (by show g.L.length ≤ 64; rw [← Hnl.out]; exact l1) (by show g.R.length ≤ 64; rw [← Hnr.out]; exact l2) (by show g.E.reverse.length ≤ 1024; rw [List.length_reverse, ← Hne.out]; omega) HL.out HR.out (fun e he => HE.out e (List.mem_reverse.1 (show e ∈ g.E.reverse from he))) (show g.E.reverse.Nodup from List.pairwise_reverse.2 (HND.out.imp (fun h => Ne.symm h)))
        obtain ⟨M3, A3, B3, f1, f2⟩ := pf_of hck13
        have hback := grow_back HKz.out hck13 rfl rfl rfl HPf.out f2
        have HGr13 := Lib.hid (gre_any _ wr HG13.out hck13 _ _ M3 f1)
        have hgw := Hgrow.out
        have hls := Hless.out
        clear f1 f2 hck13 HG13 HSP hfull hRw HRw hge1 hge2
        unfold Gph.val at HGr13
        simp only [List.length_reverse] at HGr13
        rw [← Hnl.out, ← Hnr.out, ← Hne.out] at HGr13
        obtain ⟨m0, hm0⟩ : ∃ y, y = M.length := ⟨_, rfl⟩
        obtain ⟨m1, hm1⟩ : ∃ y, y = M1.length := ⟨_, rfl⟩
        obtain ⟨m2, hm2⟩ : ∃ y, y = M2.length := ⟨_, rfl⟩
        obtain ⟨m3, hm3⟩ : ∃ y, y = M3.length := ⟨_, rfl⟩
        have hsr := HBj.out.size
        clear hneg hne1
        rw [← hm0, ← hm1] at hgw
        rw [← hm0, ← hm2] at hls
        rw [← hm0, ← hm3] at hback
        have HM := Lib.hid (And.intro hgw (And.intro hls hback))
        have hmb : m0 ≤ 1024 := by
          have hri : Rises g.E.length M := by
            have h9 := HPf.out.m
            unfold isM at h9
            rw [Bool.and_eq_true, decide_eq_true_eq] at h9
            exact h9.1
          rw [hm0]
          have := Hne.out
          rcases rises_bound g.E.length M 0 (by omega) (fun x hx => hri.1 x hx) hri.2 with h9 | h9
          · omega
          · rw [h9]; simp
        rw [← hm0, ← hm1, ← hm2]
        clear hgw hls hback hm0 hm1 hm2
        go_wp2_with fail
        refine HGr13.out.mono ?_
        rintro e w10 ⟨vc, rfl, hoc, hb10⟩
        obtain ⟨ac, cc, hvc, -⟩ := own_shape hoc
        subst hvc
        rw [← hm3]
        have HB10 := Lib.hid (HBj.out.trans (hb10.mono hsr))
        clear hb10 hoc HGr13 hm3
        obtain ⟨hgw, hls, hback⟩ := HM.out
        subst hback
        have hb5 : ((m3 : Int) == (m3 : Int)) = true := by simp
        rcases hgw with h1 | h1
        · have hb1 : ((m1 : Int) == (m3 : Int)) = true := by simp [h1]
          rcases hls with h2 | h2
          · have hb3 : ((m2 : Int) == (m3 : Int)) = true := by simp [h2]
            clear h1 h2
            go_wp2_with fail
            go_ret
            exact ⟨rfl, HB10.out⟩
          · have hb3 : ((m2 : Int) == (m3 : Int)) = false := by simp; omega
            have hb4 : ((m2 : Int) + 1 == (m3 : Int)) = true := by simp; omega
            have hm2b : m2 ≤ 1024 := by omega
            clear h1 h2
            go_wp2_with fail
            go_ret
            exact ⟨rfl, HB10.out⟩
        · have hb1 : ((m1 : Int) == (m3 : Int)) = false := by simp; omega
          have hb2 : ((m1 : Int) == (m3 : Int) + 1) = true := by simp; omega
          rcases hls with h2 | h2
          · have hb3 : ((m2 : Int) == (m3 : Int)) = true := by simp [h2]
            clear h1 h2
            go_wp2_with fail
            go_ret
            exact ⟨rfl, HB10.out⟩
          · have hb3 : ((m2 : Int) == (m3 : Int)) = false := by simp; omega
            have hb4 : ((m2 : Int) + 1 == (m3 : Int)) = true := by simp; omega
            have hm2b : m2 ≤ 1024 := by omega
            clear h1 h2
            go_wp2_with fail
            go_ret
            exact ⟨rfl, HB10.out⟩
  · have hk1 : (chk g != 0) = true := by simpa using hk
    generalize chk g = kk at hk1
    go_wp2_with fail
    go_ret
    exact ⟨rfl, HB3.out⟩
end Go.Proofs.Ytpcdbnlljdfogaa
