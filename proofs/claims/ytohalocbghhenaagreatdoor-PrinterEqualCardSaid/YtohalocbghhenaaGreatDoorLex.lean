/- Contract of layer 9: Lex. -/
import Derived.Test.YtohalocbghhenaaGreatDoorFirst
import Derived.Test.YtohalocbghhenaaGreatDoorTks
import Derived.Test.YtohalocbghhenaaGreatDoorLexJ
set_option linter.unusedSimpArgs false
set_option linter.unusedVariables false
namespace Go.Proofs.YtohalocbghhenaaGreatDoor
open Go.RowKit

theorem own_below {w w' : World} {base e z n : Nat} {v : Value} {xs : List Value} (h : w.ownsRow base e z v n xs) (hB : Below w.heap.size w w') : w'.ownsRow base e z v n xs := by
  obtain ⟨hl, h⟩ := h
  rcases h with h | ⟨g, cap, cur, h', hg, hb, hr⟩
  · exact ⟨hl, Or.inl h⟩
  · exact ⟨hl, Or.inr ⟨g, cap, cur, h', hg, by rw [hB.block g (Array.getElem?_eq_some_iff.1 hb).1]; exact hb, hr⟩⟩
theorem own_low {w : World} {base base' e z n : Nat} {v : Value} {xs : List Value} (h : w.ownsRow base e z v n xs) (hb : base' ≤ base) : w.ownsRow base' e z v n xs := by
  obtain ⟨hl, h⟩ := h
  rcases h with h | ⟨g, cap, cur, h', hg, h''⟩
  · exact ⟨hl, Or.inl h⟩
  · exact ⟨hl, Or.inr ⟨g, cap, cur, h', Nat.le_trans hb hg, h''⟩⟩
def LexPost (w : World) (x : List Tk × Int × Int) (e : Ending) (w' : World) : Prop :=
  ∃ v, e = .returned (.tuple #[v, fV x.2.1 x.2.2]) ∧ w'.ownsRow w.heap.size 51 4 v x.1.length (flatT x.1) ∧ Below w.heap.size w w'
theorem FtAt.grown {w w' : World} {row : Option Nat} {b : Nat} {c a : Int} (h : FtAt w b c a) (hg : w.grownBy w' row) (hne : some b ≠ row) : FtAt w' b c a :=
  ⟨(World.cell?_of_block (a := ⟨b, 0, none⟩) (hg.block b h.lt hne)).trans h.c0, (World.cell?_of_block (a := ⟨b, 1, none⟩) (hg.block b h.lt hne)).trans h.c1, fun k => (World.frozen?_of_block (a := ⟨b, k, none⟩) (hg.block b h.lt hne)).trans (h.f k), Nat.lt_of_lt_of_le h.lt hg.size⟩
theorem TkAt.grown {w w' : World} {row : Option Nat} {b : Nat} {t : Tk} (h : TkAt w b t) (hg : w.grownBy w' row) (hne : some b ≠ row) : TkAt w' b t :=
  ⟨(World.cell?_of_block (a := ⟨b, 0, none⟩) (hg.block b h.lt hne)).trans h.c0, (World.cell?_of_block (a := ⟨b, 1, none⟩) (hg.block b h.lt hne)).trans h.c1, (World.cell?_of_block (a := ⟨b, 2, none⟩) (hg.block b h.lt hne)).trans h.c2, (World.cell?_of_block (a := ⟨b, 3, none⟩) (hg.block b h.lt hne)).trans h.c3, fun k => (World.frozen?_of_block (a := ⟨b, k, none⟩) (hg.block b h.lt hne)).trans (h.f k), Nat.lt_of_lt_of_le h.lt hg.size⟩
theorem tk_cells (w : World) (t : Tk) : ∀ j u, (encT t)[j]? = some u → (w.alloc (.cells #[.int .i64 t.k, .string t.t, .int .i64 t.n, .int .i64 t.a] 51)).cell? ((⟨w.heap.size, 0, none⟩ : Addr).add j) = some u := by
  intro j u hu
  obtain ⟨z0, z1, z2, z3, _, _⟩ := tk_new w t 51
  unfold encT at hu
  match j, hu with
  | 0, hu => simp at hu; subst hu; exact z0
  | 1, hu => simp at hu; subst hu; exact z1
  | 2, hu => simp at hu; subst hu; exact z2
  | 3, hu => simp at hu; subst hu; exact z3
  | j + 4, hu => simp at hu
set_option maxHeartbeats 4000000 in
set_option maxRecDepth 100000 in
theorem lex_any (s : ByteArray) (w : World) (hT : Tabs w) : Calls Tryz.prog 43 #[.string s] w (LexPost w (lexS s)) := by
  by_cases h1 : 65536 < s.size
  · have HR := Lib.hid (show lexS s = ([], 6, 65536) by unfold lexS; rw [if_pos h1])
    have k1 : decide ((s.size : Int) > 65536) = true := decide_eq_true (by omega)
    have HTL := Lib.hid (fun W => tooLong_any W)
    unfold fV at HTL
    clear hT
    go_enter Tryz.func43, Tryz.ntmps43
    go_wp2_with fail
    refine (HTL.out _).mono ?_
    rintro e w1 ⟨rfl, hb1⟩
    have HB := Lib.hid (show Below w.heap.size w w1 from (by repeat (first | with_reducible exact Below.refl _ _ | (with_reducible refine Below.setCell ?_ (by first | exact Nat.le_refl _ | omega | (simp; done) | (simp; omega)) _) | (with_reducible refine Below.alloc ?_ (by first | exact Nat.le_refl _ | omega | (simp; done) | (simp; omega)) _) | with_reducible refine Below.drew ?_ | with_reducible refine bel_drewN ?_ _ | (with_reducible refine bel_by (by with_reducible assumption) (by first | exact Nat.le_refl _ | omega | (simp; done) | (simp; omega)) ?_))))
    obtain ⟨y0, y1, yf, yl⟩ := (ft_new w 0 0 40).keep hb1
    clear hb1
    go_wp2_with fail
    have hbw := HB.out
    refine bodyPost_ret (v := .tuple #[.slice none 0 0, fV 6 65536]) (by simp [results, Tryz.results43, go_sem, fV, y0, y1, yf, yl]) rfl ?_
    rw [HR.out]
    exact ⟨_, rfl, World.ownsRow_nil _ _ _ _, (by repeat (first | with_reducible exact Below.refl _ _ | (with_reducible refine Below.setCell ?_ (by first | exact Nat.le_refl _ | omega | (simp; done) | (simp; omega)) _) | (with_reducible refine Below.alloc ?_ (by first | exact Nat.le_refl _ | omega | (simp; done) | (simp; omega)) _) | with_reducible refine Below.drew ?_ | with_reducible refine bel_drewN ?_ _ | (with_reducible refine bel_by (by with_reducible assumption) (by first | exact Nat.le_refl _ | omega | (simp; done) | (simp; omega)) ?_)))⟩
  · have k1 : decide ((s.size : Int) > 65536) = false := decide_eq_false (by omega)
    have HT := Lib.hid hT
    have HF := Lib.hid (fun p hp W hW => first_any s (by omega) p hp W hW)
    have HS := Lib.hid (lexS_small s (by omega))
    obtain ⟨iz, hi, hz0, hz1, hz2⟩ := info_parts infoT
    clear hT
    go_enter Tryz.func43, Tryz.ntmps43
    go_wp2_with fail
    go_loopw [4, 5] (fun s4 s5 wr => ∃ (k : Nat) (acc : List Tk), k ≤ s.size ∧ s5 = .int .i64 (k : Int) ∧ acc.length ≤ k ∧ Hid (wr.ownsRow (w.heap.size + 1) 51 4 s4 acc.length (flatT acc)) ∧ Hid (Below w.heap.size w wr) ∧ Hid (FtAt wr w.heap.size 0 0) ∧ Hid (lexR (s.size + 1) s.data.toList 0 = (acc ++ (lexR (s.size - k + 1) (s.data.toList.drop k) k).1, (lexR (s.size - k + 1) (s.data.toList.drop k) k).2))) (fun _ s5 _ => (s.size - (intOf s5)).toNat)
    case atStart => exact ⟨0, [], Nat.zero_le _, rfl, Nat.le_refl _, Lib.hid (World.ownsRow_nil _ _ _ _), Lib.hid (by repeat (first | with_reducible exact Below.refl _ _ | (with_reducible refine Below.setCell ?_ (by first | exact Nat.le_refl _ | omega | (simp; done) | (simp; omega)) _) | (with_reducible refine Below.alloc ?_ (by first | exact Nat.le_refl _ | omega | (simp; done) | (simp; omega)) _) | with_reducible refine Below.drew ?_ | with_reducible refine bel_drewN ?_ _ | (with_reducible refine bel_by (by with_reducible assumption) (by first | exact Nat.le_refl _ | omega | (simp; done) | (simp; omega)) ?_))), Lib.hid (ft_new w 0 0 40), Lib.hid (by simp)⟩
    case round =>
      obtain ⟨k, acc, hk, rfl, hacc, HO, HB, HFT, HL⟩ := hrel
      have HC := Lib.hid (HF.out k hk)
      have HST := Lib.hid (show lexR (s.size - k + 1) (s.data.toList.drop k) k = if (firstL (s.data.toList.drop k) k).2.2.1 = 0 then (if (firstL (s.data.toList.drop k) k).1.k = 5 then ([(firstL (s.data.toList.drop k) k).1], 0, 0) else ((firstL (s.data.toList.drop k) k).1 :: (lexR (s.size - k) ((s.data.toList.drop k).drop ((firstL (s.data.toList.drop k) k).2.1 - k)) (firstL (s.data.toList.drop k) k).2.1).1, (lexR (s.size - k) ((s.data.toList.drop k).drop ((firstL (s.data.toList.drop k) k).2.1 - k)) (firstL (s.data.toList.drop k) k).2.1).2)) else ([], (firstL (s.data.toList.drop k) k).2.2) from rfl)
      have HLN := Lib.hid (firstL_len (s.data.toList.drop k) k)
      generalize firstL (s.data.toList.drop k) k = X at *
      obtain ⟨⟨tk, tt, tn, ta⟩, n, c, fa⟩ := X
      simp only [firstV, Tk.val, fV] at HC
      simp only [List.length_drop, list_size] at HST HLN
      have hlt0 : w.heap.size < wr.heap.size := HFT.out.lt
      by_cases h0 : c = 0
      · subst h0
        obtain ⟨l1, l2, l3, l4, l5⟩ := HLN.out rfl
        have l6 : fa = 0 := by simpa using l5
        clear l5
        subst l6
        have hST := HST.out
        rw [if_pos rfl] at hST
        clear HST HLN
        have HST := Lib.hid hST
        clear hST
        have HPRE := Lib.hid (fun (w1 : World) (hb1 : Below wr.heap.size wr w1) => (
          (show Below w.heap.size w ((w1.alloc (.cells #[.int .i64 tk, .string tt, .int .i64 tn, .int .i64 ta] 51)).alloc (.cells #[.int .i64 0, .int .i64 0] 40)) from ((bel_by hb1 (by omega) HB.out).alloc (by have := hb1.size; omega) _).alloc (by have := hb1.size; simp; omega) _)))
        have HPO := Lib.hid (fun (w1 : World) (hb1 : Below wr.heap.size wr w1) => ((own_below HO.out hb1).alloc (.cells #[.int .i64 tk, .string tt, .int .i64 tn, .int .i64 ta] 51)).alloc (.cells #[.int .i64 0, .int .i64 0] 40))
        have HPF := Lib.hid (fun (w1 : World) (hb1 : Below wr.heap.size wr w1) => ((HFT.out.low hb1 hlt0).keep ((Below.refl _ _).alloc (Nat.le_refl _) (.cells #[.int .i64 tk, .string tt, .int .i64 tn, .int .i64 ta] 51))).keep ((Below.refl _ _).alloc (Nat.le_refl _) (.cells #[.int .i64 0, .int .i64 0] 40)))
        have HPT := Lib.hid (fun (w1 : World) => (tk_new w1 ⟨tk, tt, tn, ta⟩ 51).keep ((Below.refl _ _).alloc (Nat.le_refl _) (.cells #[.int .i64 0, .int .i64 0] 40)))
        have HTr := Lib.hid (HT.out.below HB.out)
        have HOL := Lib.hid (fun g h => (HO.out.lt g h))
        clear HO HB HFT
        by_cases h5 : tk = 5
        · subst h5
          have hS := HST.out
          rw [if_pos rfl] at hS
          have HR := Lib.hid (show lexS s = (acc ++ [⟨5, tt, tn, ta⟩], 0, 0) by
            have hl := HL.out
            rw [hS] at hl
            rw [HS.out, hl]
            rfl)
          clear HST hS HL HS l3 l4
          go_wp2_with fail
          refine (HC.out _ HTr.out).mono ?_
          rintro e w1 ⟨rfl, hb1⟩
          have hzw : wr.heap.size ≤ w1.heap.size := hb1.size
          have HB2 := Lib.hid (HPRE.out w1 hb1)
          have HO2 := Lib.hid (HPO.out w1 hb1)
          have HF2 := Lib.hid (HPF.out w1 hb1)
          have HT2 := Lib.hid (HPT.out w1)
          obtain ⟨z0, z1, z2, z3, zf, zl⟩ := HT2.out
          have hlw : w.heap.size ≤ w1.heap.size := by omega
          have HB3 := Lib.hid (HB2.out.alloc (by simp; omega) (.cells #[.int .i64 5, .string tt, .int .i64 tn, .int .i64 ta] 51))
          have HO3 := Lib.hid (HO2.out.alloc (.cells #[.int .i64 5, .string tt, .int .i64 tn, .int .i64 ta] 51))
          have HF3 := Lib.hid (HF2.out.keep ((Below.refl _ _).alloc (Nat.le_refl _) (.cells #[.int .i64 5, .string tt, .int .i64 tn, .int .i64 ta] 51)))
          have HT3 := Lib.hid (HT2.out.keep ((Below.refl _ _).alloc (Nat.le_refl _) (.cells #[.int .i64 5, .string tt, .int .i64 tn, .int .i64 ta] 51)))
          have hce := tk_cells ((w1.alloc (.cells #[.int .i64 5, .string tt, .int .i64 tn, .int .i64 ta] 51)).alloc (.cells #[.int .i64 0, .int .i64 0] 40)) ⟨5, tt, tn, ta⟩
          simp only [World.size_alloc] at hce
          have HCE := Lib.hid hce
          clear hce hb1 HB2 HO2 HF2
          have hmx : acc.length ≤ 65536 := by omega
          go_wp2_with (at_builtin; go_loud (refine wpList_append_blk _ rfl _ _ 22 rfl (w.heap.size + 1) 51 iz (.agg #[.int .i64 0, .string ⟨#[]⟩, .int .i64 0, .int .i64 0]) 4 40 Tryz.underlying22 hi hz0 hz1 hz2 rfl (by decide) _ _ _ rfl HO3.out ⟨w1.heap.size + 1 + 1, 0, none⟩ 1 1 (encT ⟨5, tt, tn, ta⟩) rfl rfl HCE.out ?n1 ?n2 ?n3 ?n4 (by decide) ?_))
          case n1 => intro u hu; simp only [encT, List.mem_cons, List.not_mem_nil, or_false] at hu; rcases hu with rfl | rfl | rfl | rfl <;> rfl
          case n2 => unfold maxLen; omega
          case n3 => omega
          case n4 => simp; omega
          intro v' w7 ho hg hb
          clear z0 z1 z2 z3 zf zl
          have HO7 := Lib.hid ho
          have HB7 := Lib.hid (HB3.out.grown hg (by simp; omega) (fun k hk => by have := ((HO3.out.lt k hk).1); omega))
          have HF7 := Lib.hid (HF3.out.grown hg (fun e => by have := ((HO3.out.lt _ e.symm).1); omega))
          obtain ⟨z0, z1, z2, z3, zf, zl⟩ := HT3.out.grown hg (fun e => by have := HOL.out _ e.symm; omega)
          obtain ⟨y0, y1, yf, yl⟩ := HF7.out
          clear ho hg hb HCE HT2 HT3 HO3 HB3 HF3
          go_wp2_with fail
          have hbw := HB7.out
          refine bodyPost_ret (v := .tuple #[v', fV 0 0]) (by simp [results, Tryz.results43, go_sem, fV, y0, y1, yf, yl]) rfl ?_
          rw [HR.out]
          refine ⟨_, rfl, ?_, (by repeat (first | with_reducible exact Below.refl _ _ | (with_reducible refine Below.setCell ?_ (by first | exact Nat.le_refl _ | omega | (simp; done) | (simp; omega)) _) | (with_reducible refine Below.alloc ?_ (by first | exact Nat.le_refl _ | omega | (simp; done) | (simp; omega)) _) | with_reducible refine Below.drew ?_ | with_reducible refine bel_drewN ?_ _ | (with_reducible refine bel_by (by with_reducible assumption) (by first | exact Nat.le_refl _ | omega | (simp; done) | (simp; omega)) ?_)))⟩
          simp only [List.length_append, List.length_singleton, flatT_snoc]
          exact own_low (ownsRow_setCell_below (ownsRow_setCell_below HO7.out (Nat.lt_succ_self _) _) (Nat.lt_succ_self _) _) (Nat.le_succ _)
        · have hS := HST.out
          rw [if_neg h5, List.drop_drop, show k + (n - k) = n by omega] at hS
          have hk3 := l3 h5
          have HR := Lib.hid (show lexR (s.size + 1) s.data.toList 0 = ((acc ++ [⟨tk, tt, tn, ta⟩]) ++ (lexR (s.size - n + 1) (s.data.toList.drop n) n).1, (lexR (s.size - n + 1) (s.data.toList.drop n) n).2) by
            have hl := HL.out
            rw [hS] at hl
            rw [hl, lexR_fuel (s.size - k) (s.size - n + 1) _ _ (by rw [List.length_drop, list_size]; omega) (by rw [List.length_drop, list_size]; omega)]
            simp)
          have h5b : (tk == 5) = false := by simpa using h5
          have hns : n ≤ s.size := by omega
          clear HST hS HL HS l3 l4 h5
          go_wp2_with fail
          refine (HC.out _ HTr.out).mono ?_
          rintro e w1 ⟨rfl, hb1⟩
          have hzw : wr.heap.size ≤ w1.heap.size := hb1.size
          have HB2 := Lib.hid (HPRE.out w1 hb1)
          have HO2 := Lib.hid (HPO.out w1 hb1)
          have HF2 := Lib.hid (HPF.out w1 hb1)
          have HT2 := Lib.hid (HPT.out w1)
          obtain ⟨z0, z1, z2, z3, zf, zl⟩ := HT2.out
          have hlw : w.heap.size ≤ w1.heap.size := by omega
          have HB3 := Lib.hid (HB2.out.alloc (by simp; omega) (.cells #[.int .i64 tk, .string tt, .int .i64 tn, .int .i64 ta] 51))
          have HO3 := Lib.hid (HO2.out.alloc (.cells #[.int .i64 tk, .string tt, .int .i64 tn, .int .i64 ta] 51))
          have HF3 := Lib.hid (HF2.out.keep ((Below.refl _ _).alloc (Nat.le_refl _) (.cells #[.int .i64 tk, .string tt, .int .i64 tn, .int .i64 ta] 51)))
          have HT3 := Lib.hid (HT2.out.keep ((Below.refl _ _).alloc (Nat.le_refl _) (.cells #[.int .i64 tk, .string tt, .int .i64 tn, .int .i64 ta] 51)))
          have hce := tk_cells ((w1.alloc (.cells #[.int .i64 tk, .string tt, .int .i64 tn, .int .i64 ta] 51)).alloc (.cells #[.int .i64 0, .int .i64 0] 40)) ⟨tk, tt, tn, ta⟩
          simp only [World.size_alloc] at hce
          have HCE := Lib.hid hce
          clear hce hb1 HB2 HO2 HF2
          have hmx : acc.length ≤ 65536 := by omega
          go_wp2_with (at_builtin; go_loud (refine wpList_append_blk _ rfl _ _ 22 rfl (w.heap.size + 1) 51 iz (.agg #[.int .i64 0, .string ⟨#[]⟩, .int .i64 0, .int .i64 0]) 4 40 Tryz.underlying22 hi hz0 hz1 hz2 rfl (by decide) _ _ _ rfl HO3.out ⟨w1.heap.size + 1 + 1, 0, none⟩ 1 1 (encT ⟨tk, tt, tn, ta⟩) rfl rfl HCE.out ?n1 ?n2 ?n3 ?n4 (by decide) ?_))
          case n1 => intro u hu; simp only [encT, List.mem_cons, List.not_mem_nil, or_false] at hu; rcases hu with rfl | rfl | rfl | rfl <;> rfl
          case n2 => unfold maxLen; omega
          case n3 => omega
          case n4 => simp; omega
          intro v' w7 ho hg hb
          clear z0 z1 z2 z3 zf zl
          have HO7 := Lib.hid ho
          have HB7 := Lib.hid (HB3.out.grown hg (by simp; omega) (fun k hk => by have := ((HO3.out.lt k hk).1); omega))
          have HF7 := Lib.hid (HF3.out.grown hg (fun e => by have := ((HO3.out.lt _ e.symm).1); omega))
          obtain ⟨z0, z1, z2, z3, zf, zl⟩ := HT3.out.grown hg (fun e => by have := HOL.out _ e.symm; omega)
          obtain ⟨y0, y1, yf, yl⟩ := HF7.out
          clear ho hg hb HCE HT2 HT3 HO3 HB3 HF3
          go_wp2_with fail
          go_roundw
          case rel =>
            refine ⟨n, acc ++ [⟨tk, tt, tn, ta⟩], hns, rfl, by simp; omega, Lib.hid ?_, HB7, HF7, HR⟩
            simp only [List.length_append, List.length_singleton, flatT_snoc]
            exact HO7.out
          case measure => simp [intOf]; omega
      · have hST := HST.out
        rw [if_neg h0] at hST
        have HR := Lib.hid (show lexS s = ([], c, fa) by
          have hl := HL.out
          rw [hST] at hl
          rw [HS.out, hl, if_neg h0])
        have HTr := Lib.hid (HT.out.below HB.out)
        have e1 : (c != 0) = true := by simpa using h0
        have e2 : (c == 0) = false := by simpa using h0
        clear hST HST HLN HL HS h0
        go_wp2_with fail
        refine (HC.out _ HTr.out).mono ?_
        rintro e w1 ⟨rfl, hb1⟩
        have hzw : wr.heap.size ≤ w1.heap.size := hb1.size
        have HB1 := Lib.hid (bel_by hb1 (by omega) HB.out)
        obtain ⟨y0, y1, yf, yl⟩ := HFT.out.low hb1 hlt0
        have hlw : w.heap.size < w1.heap.size := by omega
        clear hb1
        go_wp2_with fail
        go_region
        all_goals
          go_wp2_with fail
          have hbw := HB1.out
          refine bodyPost_ret (v := .tuple #[.slice none 0 0, fV c fa]) (by simp [results, Tryz.results43, go_sem, fV, y0, y1, yf, yl, hlw]) rfl ?_
          rw [HR.out]
          exact ⟨_, rfl, World.ownsRow_nil _ _ _ _, (by repeat (first | with_reducible exact Below.refl _ _ | (with_reducible refine Below.setCell ?_ (by first | exact Nat.le_refl _ | omega | (simp; done) | (simp; omega)) _) | (with_reducible refine Below.alloc ?_ (by first | exact Nat.le_refl _ | omega | (simp; done) | (simp; omega)) _) | with_reducible refine Below.drew ?_ | with_reducible refine bel_drewN ?_ _ | (with_reducible refine bel_by (by with_reducible assumption) (by first | exact Nat.le_refl _ | omega | (simp; done) | (simp; omega)) ?_)))⟩
end Go.Proofs.YtohalocbghhenaaGreatDoor
