/- The reader of lines: an item. -/
import Derived.Test.YtccglojnjakbfaaMrk
import Derived.Test.YtccglojnjakbfaaAln
import Derived.Lib.Strings
set_option linter.unusedSimpArgs false
set_option linter.unusedVariables false
namespace Go.Proofs.Ytccglojnjakbfaa
open Go.RowKit

theorem egA : ∀ args w, (callFunc 64 args).run Try.prog w = .ok (.enter 64 args) w := fun _ _ => by kernel_rfl
theorem toL_data (s : ByteArray) : s.toList = s.data.toList := Lib.toList_data s
/-- an item stored, cell by cell -/
def st5 (w : World) (g : Nat) (y : It) : World := ((((w.setCell ⟨g, 0, none⟩ (.string y.c)).setCell ⟨g, 1, none⟩ (.int .i64 y.d)).setCell ⟨g, 2, none⟩ (.bool y.r)).setCell ⟨g, 3, none⟩ (.bool y.v)).setCell ⟨g, 4, none⟩ (.bool y.j)
theorem ItAt.fld0 {w : World} {b : Nat} {x : It} (h : ItAt w b x) (c : ByteArray) : ItAt (w.setCell ⟨b, 0, none⟩ (.string c)) b ⟨c, x.d, x.r, x.v, x.j⟩ := by
  obtain ⟨h0, h1, h2, h3, h4, hf, hl⟩ := h
  refine ⟨?_, ?_, ?_, ?_, ?_, fun k => by rw [World.frozen?_setCell]; exact hf k, by simp; exact hl⟩
  · exact World.cell?_setCell_same _ _ _ h0
  · rw [World.cell?_setCell_other _ _ _ _ (by simp)]; exact h1
  · rw [World.cell?_setCell_other _ _ _ _ (by simp)]; exact h2
  · rw [World.cell?_setCell_other _ _ _ _ (by simp)]; exact h3
  · rw [World.cell?_setCell_other _ _ _ _ (by simp)]; exact h4
theorem st5_it {w : World} {g : Nat} {x : It} (h : ItAt w g x) (y : It) : ItAt (st5 w g y) g y := ((((h.fld0 y.c).fld1 y.d).fld2 y.r).fld3 y.v).fld4 y.j
theorem st5_rd {w : World} {b g p : Nat} {s : ByteArray} {v : Value} (h : RdAt w b s p v) (hg : g ≠ b) (y : It) : RdAt (st5 w g y) b s p v := ((((h.other ⟨g, 0, none⟩ hg _).other ⟨g, 1, none⟩ hg _).other ⟨g, 2, none⟩ hg _).other ⟨g, 3, none⟩ hg _).other ⟨g, 4, none⟩ hg _
theorem st5_kp (b g : Nat) (w : World) (y : It) : Kp b g w (st5 w g y) := ((((Kp.set2 b g 0 w _).trans (Kp.set2 b g 1 _ _)).trans (Kp.set2 b g 2 _ _)).trans (Kp.set2 b g 3 _ _)).trans (Kp.set2 b g 4 _ _)
theorem ItAt.kp {w w' : World} {b c g : Nat} {x : It} (h : ItAt w g x) (hk : Kp b c w w') (h1 : g ≠ b) (h2 : g ≠ c) : ItAt w' g x :=
  ⟨(World.cell?_of_block (a := ⟨g, 0, none⟩) (hk.block g h.lt h1 h2)).trans h.c0, (World.cell?_of_block (a := ⟨g, 1, none⟩) (hk.block g h.lt h1 h2)).trans h.c1, (World.cell?_of_block (a := ⟨g, 2, none⟩) (hk.block g h.lt h1 h2)).trans h.c2, (World.cell?_of_block (a := ⟨g, 3, none⟩) (hk.block g h.lt h1 h2)).trans h.c3, (World.cell?_of_block (a := ⟨g, 4, none⟩) (hk.block g h.lt h1 h2)).trans h.c4, fun k => (World.frozen?_of_block (a := ⟨g, k, none⟩) (hk.block g h.lt h1 h2)).trans (h.f k), Nat.lt_of_lt_of_le h.lt hk.size⟩
theorem Kp.set1' {b g : Nat} {x y : World} (h : Kp b b x y) (o : Nat) (v : Value) : Kp b b x (y.setCell ⟨b, o, none⟩ v) := h.trans (Kp.set1 b b o y v)
/-- a store into a block that is new -/
theorem Kp.new {b g : Nat} {x y z : World} (h : Kp b b x y) (hg : x.heap.size ≤ g) (k : Kp b g y z) : Kp b b x z :=
  ⟨k.os.trans h.os, k.tape.trans h.tape, k.output.trans h.output, Nat.le_trans h.size k.size, fun i hi h1 _ => (k.block i (Nat.lt_of_lt_of_le hi h.size) h1 (by omega)).trans (h.block i hi h1 h1)⟩
/-- an item of the reader -/
def ItePost (w : World) (b : Nat) (s : ByteArray) (v : Value) (t : Int × It × Nat) (e : Ending) (w' : World) : Prop :=
  e = .returned (.tuple #[t.2.1.val, .int .i64 t.1]) ∧ RdAt w' b s t.2.2 v ∧ Kp b b w w'
set_option maxHeartbeats 4000000 in
set_option maxRecDepth 100000 in
theorem item_any {w : World} {b p n cap : Nat} {s : ByteArray} {a : Option Addr} (h : RdAt w b s p (.slice a n cap)) (hp : p ≤ s.size) (hs : s.size ≤ 1000000) (hn : n ≤ 1000) :
    Calls Try.prog 50 #[.pointer (some ⟨b, 0, none⟩)] w (ItePost w b s (.slice a n cap) (itemP s.data.toList p n)) := by
  have HI0 := Lib.hid (it_new w It.zero 49)
  have HB0 := Lib.hid (show Below w.heap.size w (w.alloc (.cells #[.string ⟨#[]⟩, .int .i64 0, .bool false, .bool false, .bool false] 49)) from (by repeat (first | with_reducible exact Below.refl _ _ | (with_reducible refine Below.setCell ?_ (by first | exact Nat.le_refl _ | omega | (simp; done) | (simp; omega)) _) | (with_reducible refine Below.alloc ?_ (by first | exact Nat.le_refl _ | omega | (simp; done) | (simp; omega)) _) | with_reducible refine Below.drew ?_ | with_reducible refine bel_drewN ?_ _ | (with_reducible refine bel_by (by with_reducible assumption) (by first | exact Nat.le_refl _ | omega | (simp; done) | (simp; omega)) ?_))))
  have HR0 := Lib.hid (h.keep ((Below.refl _ _).alloc (Nat.le_refl _) (.cells #[.string ⟨#[]⟩, .int .i64 0, .bool false, .bool false, .bool false] 49)))
  have HRUN := Lib.hid (fun W (hW : RdAt W b s p (.slice a n cap)) => run_any _ codeB alnum_any egA hW hp hs)
  have hbw : b < w.heap.size := h.lt
  have hle := runN_le codeB s.data.toList p (by rw [list_size]; exact hp)
  rw [list_size] at hle
  have HTS := Lib.hid (show (bs ((s.data.toList.drop p).takeWhile codeB)).size = runN codeB s.data.toList p by rw [bs_size]; rfl)
  obtain ⟨t, ht⟩ : ∃ t, itemP s.data.toList p n = t := ⟨_, rfl⟩
  have HT := Lib.hid ht
  rw [ht]
  unfold itemP at ht
  have HTU := Lib.hid ht
  clear ht h
  generalize bs ((s.data.toList.drop p).takeWhile codeB) = T at *
  generalize runN codeB s.data.toList p = r at *
  have hrT : T.size = r := HTS.out
  unfold ItePost
  by_cases h0 : r = 0
  · have HT2 := Lib.hid (show t = (2, It.zero, p) by rw [← HTU.out, if_pos h0])
    have hT0 : T = ⟨#[]⟩ := bs_inj (by
      have : T.data.toList.length = 0 := by rw [list_size]; omega
      rw [List.eq_nil_of_length_eq_zero this])
    clear HTU HT HTS
    subst hT0
    go_enter Try.func50, Try.ntmps50
    go_wp2_with fail
    refine (HRUN.out _ HR0.out).mono ?_
    rintro e w1 ⟨rfl, hb1⟩
    have HR1 := Lib.hid (HR0.out.keep hb1)
    have HI1 := Lib.hid (HI0.out.keep hb1)
    have HB1 := Lib.hid (HB0.out.trans (hb1.mono (by simp)))
    obtain ⟨z0, z1, z2, z3, z4, zf, zl⟩ := HI1.out
    unfold It.zero at z0 z1 z2 z3 z4
    simp only at z0 z1 z2 z3 z4
    clear hb1
    go_wp2_with fail
    change bodyPost _ _ _ _ _ (st5 w1 w.heap.size It.zero)
    have HI2 := st5_it HI1.out It.zero
    have HR2 := st5_rd HR1.out (show w.heap.size ≠ b by omega) It.zero
    have HK2 := (Kp.of (b := b) (c := b) HB1.out).new (Nat.le_refl _) (st5_kp b w.heap.size w1 It.zero)
    generalize st5 w1 w.heap.size It.zero = W5 at *
    clear z0 z1 z2 z3 z4 zf zl
    obtain ⟨z0, z1, z2, z3, z4, zf, zl⟩ := HI2
    refine bodyPost_ret (v := .tuple #[It.zero.val, .int .i64 2]) (by simp [results, Try.results50, go_sem, It.val, z0, z1, z2, z3, z4, zf, zl]) rfl ?_
    rw [HT2.out]
    exact ⟨rfl, HR2, HK2⟩
  · have hTne : ¬ T = ⟨#[]⟩ := fun e => h0 (by rw [← hrT, e]; rfl)
    have hTl : ¬ T.toList = [] := fun e => hTne (bs_inj (by rw [← toL_data, e]))
    have q1 : (T.toList == []) = false := by rw [beq_eq_false_iff_ne]; exact hTl
    have q2 : T.toList.isEmpty = false := by rw [List.isEmpty_eq_false_iff]; exact hTl
    have q3 : (T.size == 0) = false := by rw [beq_eq_false_iff_ne]; omega
    clear hTne hTl
    by_cases h30 : n = 30
    · have HT2 := Lib.hid (show t = (6, It.zero, p) by rw [← HTU.out, if_neg h0, if_pos h30])
      have k30 : ((n : Int) == 30) = true := by rw [h30]; rfl
      clear HTU HT HTS h30
      go_enter Try.func50, Try.ntmps50
      go_wp2_with fail
      refine (HRUN.out _ HR0.out).mono ?_
      rintro e w1 ⟨rfl, hb1⟩
      have HR1 := Lib.hid (HR0.out.keep hb1)
      have HI1 := Lib.hid (HI0.out.keep hb1)
      have HB1 := Lib.hid (HB0.out.trans (hb1.mono (by simp)))
      obtain ⟨z0, z1, z2, z3, z4, zf, zl⟩ := HI1.out
      obtain ⟨c0, c1, c2, cf, cl⟩ := HR1.out
      unfold It.zero at z0 z1 z2 z3 z4
      simp only at z0 z1 z2 z3 z4
      clear hb1
      go_wp2_with fail
      change bodyPost _ _ _ _ _ (st5 w1 w.heap.size It.zero)
      have HI2 := st5_it HI1.out It.zero
      have HR2 := st5_rd HR1.out (show w.heap.size ≠ b by omega) It.zero
      have HK2 := (Kp.of (b := b) (c := b) HB1.out).new (Nat.le_refl _) (st5_kp b w.heap.size w1 It.zero)
      generalize st5 w1 w.heap.size It.zero = W5 at *
      clear z0 z1 z2 z3 z4 zf zl
      obtain ⟨z0, z1, z2, z3, z4, zf, zl⟩ := HI2
      refine bodyPost_ret (v := .tuple #[It.zero.val, .int .i64 6]) (by simp [results, Try.results50, go_sem, It.val, z0, z1, z2, z3, z4, zf, zl]) rfl ?_
      rw [HT2.out]
      exact ⟨rfl, HR2, HK2⟩
    · have k30 : ((n : Int) == 30) = false := by simp; omega
      have HCO := Lib.hid (fun W => code_any T (by omega) W)
      cases hcs : codeS T with
      | false =>
        have HT2 := Lib.hid (show t = (3, It.zero, p) by rw [← HTU.out, if_neg h0, if_neg h30, if_pos hcs])
        rw [hcs] at HCO
        clear HTU HT HTS h30 hcs
        go_enter Try.func50, Try.ntmps50
        go_wp2_with fail
        refine (HRUN.out _ HR0.out).mono ?_
        rintro e w1 ⟨rfl, hb1⟩
        have HR1 := Lib.hid (HR0.out.keep hb1)
        have HI1 := Lib.hid (HI0.out.keep hb1)
        have HB1 := Lib.hid (HB0.out.trans (hb1.mono (by simp)))
        obtain ⟨z0, z1, z2, z3, z4, zf, zl⟩ := HI1.out
        obtain ⟨c0, c1, c2, cf, cl⟩ := HR1.out
        unfold It.zero at z0 z1 z2 z3 z4
        simp only at z0 z1 z2 z3 z4
        clear hb1
        go_wp2_with fail
        refine (HCO.out _).mono ?_
        rintro e w1' ⟨rfl, rfl⟩
        go_wp2_with fail
        change bodyPost _ _ _ _ _ (st5 w1 w.heap.size It.zero)
        have HI2 := st5_it HI1.out It.zero
        have HR2 := st5_rd HR1.out (show w.heap.size ≠ b by omega) It.zero
        have HK2 := (Kp.of (b := b) (c := b) HB1.out).new (Nat.le_refl _) (st5_kp b w.heap.size w1 It.zero)
        generalize st5 w1 w.heap.size It.zero = W5 at *
        clear z0 z1 z2 z3 z4 zf zl
        obtain ⟨z0, z1, z2, z3, z4, zf, zl⟩ := HI2
        refine bodyPost_ret (v := .tuple #[It.zero.val, .int .i64 3]) (by simp [results, Try.results50, go_sem, It.val, z0, z1, z2, z3, z4, zf, zl]) rfl ?_
        rw [HT2.out]
        exact ⟨rfl, HR2, HK2⟩
      | true =>
        have HT2 := Lib.hid (show markR (s.data.toList.drop (p + r)) (p + r) ⟨T, 0, false, false, false⟩ = t by rw [← HTU.out, if_neg h0, if_neg h30, if_neg (by rw [hcs]; simp)])
        rw [hcs] at HCO
        have HPC := Lib.hid (show (p : Int) + (r : Int) = ((p + r : Nat) : Int) by omega)
        clear HTU HT HTS h30 hcs
        go_enter Try.func50, Try.ntmps50
        go_wp2_with fail
        refine (HRUN.out _ HR0.out).mono ?_
        rintro e w1 ⟨rfl, hb1⟩
        have HR1 := Lib.hid (HR0.out.keep hb1)
        have HI1 := Lib.hid (HI0.out.keep hb1)
        have HB1 := Lib.hid (HB0.out.trans (hb1.mono (by simp)))
        obtain ⟨z0, z1, z2, z3, z4, zf, zl⟩ := HI1.out
        obtain ⟨c0, c1, c2, cf, cl⟩ := HR1.out
        clear hb1
        go_wp2_with fail
        refine (HCO.out _).mono ?_
        rintro e w1' ⟨rfl, rfl⟩
        go_wp2_with fail
        rw [HPC.out]
        have HR2 := Lib.hid ((HR1.out.set1 (p + r)).keep ((Below.refl _ _).alloc (Nat.le_refl _) (.cells #[.string T, .int .i64 0, .bool false, .bool false, .bool false] 49)))
        have HX2 := Lib.hid (it_new (w1.setCell ⟨b, 1, none⟩ (.int .i64 ((p + r : Nat) : Int))) ⟨T, 0, false, false, false⟩ 49)
        have HI2 := Lib.hid ((HI1.out.other ⟨b, 1, none⟩ (show b ≠ w.heap.size by omega) (.int .i64 ((p + r : Nat) : Int))).keep ((Below.refl _ _).alloc (Nat.le_refl _) (.cells #[.string T, .int .i64 0, .bool false, .bool false, .bool false] 49)))
        have HK2 := Lib.hid (((Kp.of (b := b) (c := b) HB1.out).trans (Kp.set1 b b 1 w1 (.int .i64 ((p + r : Nat) : Int)))).trans (Kp.of ((Below.refl _ _).alloc (Nat.le_refl _) (.cells #[.string T, .int .i64 0, .bool false, .bool false, .bool false] 49))))
        simp only [World.size_setCell] at HX2
        have hg2 : ((w1.setCell ⟨b, 1, none⟩ (.int .i64 ((p + r : Nat) : Int))).alloc (.cells #[.string T, .int .i64 0, .bool false, .bool false, .bool false] 49)).heap.size = w1.heap.size + 1 := by simp
        have hgw : w.heap.size + 1 ≤ w1.heap.size := by have := HI1.out.lt; omega
        generalize ((w1.setCell ⟨b, 1, none⟩ (.int .i64 ((p + r : Nat) : Int))).alloc (.cells #[.string T, .int .i64 0, .bool false, .bool false, .bool false] 49)) = V at *
        have hVs : w1.heap.size < V.heap.size := by omega
        clear z0 z1 z2 z3 z4 zf zl c0 c1 c2 cf cl hg2 HI1 HR1 HB1 HI0 HR0 HB0 HRUN HCO
        obtain ⟨g2, hg⟩ : ∃ g2, w1.heap.size = g2 := ⟨_, rfl⟩
        rw [hg] at HX2 hgw hVs ⊢
        have HMK := Lib.hid (mark_any HR2.out HX2.out (by omega) (by omega) hs (by simp) (by simp))
        rw [HT2.out] at HMK
        refine HMK.out.mono ?_
        rintro e w3 ⟨rfl, hr3, hx3, hk3⟩
        have HR3 := Lib.hid hr3
        have HX3 := Lib.hid hx3
        have HI3 := Lib.hid (HI2.out.kp hk3 (by omega) (by omega))
        have HK3 := Lib.hid (HK2.out.new (show w.heap.size ≤ g2 by omega) hk3)
        clear hr3 hx3 hk3 HMK HR2 HX2 HI2 HK2
        obtain ⟨x0, x1, x2, x3, x4, xf, xl⟩ := HX3.out
        obtain ⟨z0, z1, z2, z3, z4, zf, zl⟩ := HI3.out
        go_wp2_with fail
        change bodyPost _ _ _ _ _ (st5 w3 w.heap.size t.2.1)
        have HI4 := st5_it HI3.out t.2.1
        have HR4 := st5_rd HR3.out (show w.heap.size ≠ b by omega) t.2.1
        have HK4 := HK3.out.new (Nat.le_refl _) (st5_kp b w.heap.size w3 t.2.1)
        generalize st5 w3 w.heap.size t.2.1 = W5 at *
        clear z0 z1 z2 z3 z4 zf zl x0 x1 x2 x3 x4 xf xl
        obtain ⟨z0, z1, z2, z3, z4, zf, zl⟩ := HI4
        refine bodyPost_ret (v := .tuple #[t.2.1.val, .int .i64 t.1]) (by simp [results, Try.results50, go_sem, It.val, z0, z1, z2, z3, z4, zf, zl]) rfl ?_
        exact ⟨rfl, HR4, HK4⟩
end Go.Proofs.Ytccglojnjakbfaa
