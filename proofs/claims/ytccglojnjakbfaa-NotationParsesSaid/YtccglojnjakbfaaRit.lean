/- The reference's reading of an item. -/
import Derived.Test.YtccglojnjakbfaaPar
set_option linter.unusedSimpArgs false
set_option linter.unusedVariables false
namespace Go.Proofs.Ytccglojnjakbfaa
open Go.RowKit

theorem eq43 (c : UInt8) : (c == 43) = ((c.toNat : Int) == 43) := u8_eq c 43 (by decide)
/-- an item and the sign behind it: the item, the next place, the fault -/
def ritP (L : List UInt8) (p n : Nat) : It × Int × Int × Int :=
  if (itemP L p n).1 = 0 then
    (if isAt 43 L (itemP L p n).2.2 = true then (⟨(itemP L p n).2.1.c, (itemP L p n).2.1.d, (itemP L p n).2.1.r, (itemP L p n).2.1.v, true⟩, (((itemP L p n).2.2 + 1 : Nat) : Int), 0, 0)
     else ((itemP L p n).2.1, ((itemP L p n).2.2 : Int), 0, 0))
  else (It.zero, 0, (itemP L p n).1, ((itemP L p n).2.2 : Int))
def st2 (w : World) (g : Nat) (c a : Int) : World := (w.setCell ⟨g, 0, none⟩ (.int .i64 c)).setCell ⟨g, 1, none⟩ (.int .i64 a)
def RitPost (w : World) (x : It × Int × Int × Int) (e : Ending) (w' : World) : Prop := e = .returned (.tuple #[x.1.val, .int .i64 x.2.1, fV x.2.2.1 x.2.2.2]) ∧ Below w.heap.size w w'
/-- the last step: the result's cells are stored -/
theorem rit_fin {w W : World} (y : It) (n c a : Int) {ac : Act} {x : It × Int × Int × Int} (h6 : ac.tmps[6]? = some (.pointer (some ⟨w.heap.size, 0, none⟩))) (h7 : ac.tmps[7]? = some (.int .i64 n)) (h8 : ac.tmps[8]? = some (.pointer (some ⟨w.heap.size + 1, 0, none⟩))) (hd : ac.defers = [])
    (hi : ItAt W w.heap.size y) (hf : FtAt W (w.heap.size + 1) 0 0) (hb : Below w.heap.size w W) (hx : x = (y, n, c, a)) :
    bodyPost Try.prog Try.f26 (RitPost w x) .ret ac (st2 W (w.heap.size + 1) c a) := by
  have hi2 : ItAt (st2 W (w.heap.size + 1) c a) w.heap.size y := (hi.other ⟨w.heap.size + 1, 0, none⟩ (show w.heap.size + 1 ≠ w.heap.size by omega) _).other ⟨w.heap.size + 1, 1, none⟩ (show w.heap.size + 1 ≠ w.heap.size by omega) _
  have hf2 : FtAt (st2 W (w.heap.size + 1) c a) (w.heap.size + 1) c a := by
    obtain ⟨f0, f1, ff, fl⟩ := hf
    unfold st2
    refine ⟨?_, ?_, fun k => by rw [World.frozen?_setCell, World.frozen?_setCell]; exact ff k, by simp; exact fl⟩
    · rw [World.cell?_setCell_other _ _ _ _ (by simp)]
      exact World.cell?_setCell_same _ _ _ f0
    · exact World.cell?_setCell_same (u := .int .i64 0) _ _ _ (by rw [World.cell?_setCell_other _ _ _ _ (by simp)]; exact f1)
  have hb2 : Below w.heap.size w (st2 W (w.heap.size + 1) c a) := (hb.setCell (p := ⟨w.heap.size + 1, 0, none⟩) (show w.heap.size ≤ w.heap.size + 1 by omega) _).setCell (p := ⟨w.heap.size + 1, 1, none⟩) (show w.heap.size ≤ w.heap.size + 1 by omega) _
  generalize st2 W (w.heap.size + 1) c a = V at *
  obtain ⟨z0, z1, z2, z3, z4, zf, zl⟩ := hi2
  obtain ⟨y0, y1, yf, yl⟩ := hf2
  subst hx
  refine bodyPost_ret (v := .tuple #[y.val, .int .i64 n, fV c a]) (by simp [results, Try.results26, go_sem, It.val, fV, h6, h7, h8, z0, z1, z2, z3, z4, zf, zl, y0, y1, yf, yl]) hd ?_
  exact ⟨rfl, hb2⟩
theorem st5_ft {w : World} {g b : Nat} {c a : Int} (h : FtAt w b c a) (hg : g ≠ b) (y : It) : FtAt (st5 w g y) b c a := ((((h.other ⟨g, 0, none⟩ hg _).other ⟨g, 1, none⟩ hg _).other ⟨g, 2, none⟩ hg _).other ⟨g, 3, none⟩ hg _).other ⟨g, 4, none⟩ hg _
theorem st5_below {w W : World} {g B : Nat} (h : Below B w W) (hg : B ≤ g) (y : It) : Below B w (st5 W g y) :=
  ((((h.setCell (p := ⟨g, 0, none⟩) hg _).setCell (p := ⟨g, 1, none⟩) hg _).setCell (p := ⟨g, 2, none⟩) hg _).setCell (p := ⟨g, 3, none⟩) hg _).setCell (p := ⟨g, 4, none⟩) hg _
/-- the last step, stores and all -/
theorem rit_end {w W : World} (y : It) (n c a : Int) {ac : Act} {x : It × Int × Int × Int} (hi : ItAt W w.heap.size It.zero) (hf : FtAt W (w.heap.size + 1) 0 0) (hb : Below w.heap.size w W) (hx : x = (y, n, c, a))
    (h6 : ac.tmps[6]? = some (.pointer (some ⟨w.heap.size, 0, none⟩))) (h7 : ac.tmps[7]? = some (.int .i64 n)) (h8 : ac.tmps[8]? = some (.pointer (some ⟨w.heap.size + 1, 0, none⟩))) (hd : ac.defers = []) :
    bodyPost Try.prog Try.f26 (RitPost w x) .ret ac (st2 (st5 W w.heap.size y) (w.heap.size + 1) c a) :=
  rit_fin y n c a h6 h7 h8 hd (st5_it hi y) (st5_ft hf (by omega) y) (st5_below hb (Nat.le_refl _) y) hx
set_option maxHeartbeats 4000000 in
set_option maxRecDepth 100000 in
theorem ritem_any (s : ByteArray) (hs : s.size ≤ 1000000) (p n : Nat) (hp : p ≤ s.size) (hn : n ≤ 1000) (w : World) :
    Calls Try.prog 26 #[.string s, .int .i64 (p : Int), .int .i64 (n : Int)] w (RitPost w (ritP s.data.toList p n)) := by
  have HI0 := Lib.hid (show ItAt ((w.alloc (.cells #[.string ⟨#[]⟩, .int .i64 0, .bool false, .bool false, .bool false] 49)).alloc (.cells #[.int .i64 0, .int .i64 0] 26)) w.heap.size It.zero from (it_new w It.zero 49).keep ((Below.refl _ _).alloc (Nat.le_refl _) (.cells #[.int .i64 0, .int .i64 0] 26)))
  have HF0 := Lib.hid (show FtAt ((w.alloc (.cells #[.string ⟨#[]⟩, .int .i64 0, .bool false, .bool false, .bool false] 49)).alloc (.cells #[.int .i64 0, .int .i64 0] 26)) (w.heap.size + 1) 0 0 by
    have := ft_new (w.alloc (.cells #[.string ⟨#[]⟩, .int .i64 0, .bool false, .bool false, .bool false] 49)) 0 0 26
    rwa [World.size_alloc] at this)
  have HB0 := Lib.hid (show Below w.heap.size w ((w.alloc (.cells #[.string ⟨#[]⟩, .int .i64 0, .bool false, .bool false, .bool false] 49)).alloc (.cells #[.int .i64 0, .int .i64 0] 26)) from (by repeat (first | with_reducible exact Below.refl _ _ | (with_reducible refine Below.setCell ?_ (by first | exact Nat.le_refl _ | omega | (simp; done) | (simp; omega)) _) | (with_reducible refine Below.alloc ?_ (by first | exact Nat.le_refl _ | omega | (simp; done) | (simp; omega)) _) | with_reducible refine Below.drew ?_ | with_reducible refine bel_drewN ?_ _ | (with_reducible refine bel_by (by with_reducible assumption) (by first | exact Nat.le_refl _ | omega | (simp; done) | (simp; omega)) ?_))))
  have HY := Lib.hid (runN_yes codeB s p)
  have HN := Lib.hid (runN_no codeB s p)
  have HX := Lib.hid (runN_ext codeB s p)
  have hle := runN_le codeB s.data.toList p (by rw [list_size]; exact hp)
  rw [list_size] at hle
  obtain ⟨x, hx⟩ : ∃ x, ritP s.data.toList p n = x := ⟨_, rfl⟩
  obtain ⟨t, ht⟩ : ∃ t, itemP s.data.toList p n = t := ⟨_, rfl⟩
  rw [hx]
  unfold ritP at hx
  rw [ht] at hx
  have HXU := Lib.hid hx
  unfold itemP at ht
  rw [← HX.out] at ht
  have HTU := Lib.hid ht
  clear hx ht HX
  obtain ⟨r, hr⟩ : ∃ r, p + runN codeB s.data.toList p = r := ⟨_, rfl⟩
  rw [hr] at hle HTU
  have HY2 := Lib.hid (show ∀ (k : Nat) (hk : k < s.size), p ≤ k → k < r → codeB (s[k]'hk) = true from fun k hk h1 h2 => HY.out k hk h1 (by omega))
  have HN2 := Lib.hid (show ∀ h : r < s.size, codeB (s[r]'h) = false by subst hr; exact HN.out)
  have hpr : p ≤ r := by omega
  have HR0 := Lib.hid (show runN codeB s.data.toList p = 0 ↔ r = p by omega)
  clear hr HY HN
  have HG := Lib.hid letter_any
  go_enter Try.func26, Try.ntmps26
  go_wp2_with fail
  generalize ((w.alloc (.cells #[.string ⟨#[]⟩, .int .i64 0, .bool false, .bool false, .bool false] 49)).alloc (.cells #[.int .i64 0, .int .i64 0] 26)) = V at *
  have hVs : w.heap.size + 1 < V.heap.size := HF0.out.lt
  obtain ⟨i0, i1, i2, i3, i4, jf, jl⟩ := HI0.out
  obtain ⟨f0, f1, ff, fl⟩ := HF0.out
  go_loop [9] (fun s9 => ∃ k : Nat, p ≤ k ∧ k ≤ r ∧ s9 = .int .i64 (k : Int)) (fun s9 => (s.size - (intOf s9)).toNat)
  case atStart => exact ⟨p, Nat.le_refl _, hpr, rfl⟩
  case round =>
    obtain ⟨k, hpk, hk, rfl⟩ := hrel
    by_cases hkr : k < r
    · have hlt : k < s.size := by omega
      have hl : (k : Int) < (s.size : Int) := by omega
      have HK := Lib.hid (HG.out (s[k]'hlt))
      rw [HY2.out k hlt hpk hkr] at HK
      go_wp2_with fail
      refine (HK.out _).mono ?_
      rintro e w1 ⟨rfl, rfl⟩
      go_wp2_with fail
      go_round
      case rel => exact ⟨k + 1, by omega, by omega, by go_num⟩
      case measure => simp [intOf]; omega
    · obtain rfl : k = r := by omega
      clear HY2
      by_cases hlt : k < s.size
      · have hl : (k : Int) < (s.size : Int) := by omega
        have HK := Lib.hid (HG.out (s[k]'hlt))
        rw [HN2.out hlt] at HK
        clear HN2
        go_wp2_with fail
        refine (HK.out _).mono ?_
        rintro e w1 ⟨rfl, rfl⟩
        clear HK
        have HXC := Lib.hid (show (s.extract p k).size ≤ 9223372036854775807 by rw [ByteArray.size_extract]; omega)
        by_cases h0 : k = p
        · have HT := Lib.hid (show t = (2, It.zero, p) by rw [← HTU.out, if_pos (HR0.out.2 h0)])
          have HXE := Lib.hid (show x = (It.zero, 0, 2, (p : Int)) by rw [← HXU.out, HT.out, if_neg (by simp)])
          have q0 : ((k : Int) == (p : Int)) = true := by rw [h0]; simp
          clear HTU h0
          go_wp2_with fail
          change bodyPost _ _ _ _ _ (st2 (st5 _ w.heap.size It.zero) (w.heap.size + 1) 2 (p : Int))
          exact rit_end It.zero 0 2 (p : Int) HI0.out HF0.out HB0.out HXE.out rfl rfl rfl rfl
        · have q0 : ((k : Int) == (p : Int)) = false := by simp; omega
          have hr0 : ¬ runN codeB s.data.toList p = 0 := fun e => h0 (HR0.out.1 e)
          by_cases h30 : n = 30
          · have HT := Lib.hid (show t = (6, It.zero, p) by rw [← HTU.out, if_neg hr0, if_pos h30])
            have HXE := Lib.hid (show x = (It.zero, 0, 6, (p : Int)) by rw [← HXU.out, HT.out, if_neg (by simp)])
            have q30 : ((n : Int) == 30) = true := by rw [h30]; rfl
            clear HTU h30
            go_wp2_with fail
            change bodyPost _ _ _ _ _ (st2 (st5 _ w.heap.size It.zero) (w.heap.size + 1) 6 (p : Int))
            exact rit_end It.zero 0 6 (p : Int) HI0.out HF0.out HB0.out HXE.out rfl rfl rfl rfl
          · have q30 : ((n : Int) == 30) = false := by simp; omega
            have HCO := Lib.hid (fun W => rcode_any (s.extract p k) HXC.out W)
            cases hcs : codeS (s.extract p k) with
            | false =>
              have HT := Lib.hid (show t = (3, It.zero, p) by rw [← HTU.out, if_neg hr0, if_neg h30, if_pos hcs])
              have HXE := Lib.hid (show x = (It.zero, 0, 3, (p : Int)) by rw [← HXU.out, HT.out, if_neg (by simp)])
              rw [hcs] at HCO
              have b1 : 0 ≤ (p : Int) := by omega
              have b2 : (p : Int) ≤ (k : Int) := by omega
              have b3 : (k : Int) ≤ (s.size : Int) := by omega
              clear HTU h30 hcs
              go_wp2_with fail
              have HX1 := Lib.hid (it_new V ⟨s.extract p k, 0, false, false, false⟩ 49)
              have HI1 := Lib.hid (HI0.out.keep ((Below.refl _ _).alloc (Nat.le_refl _) (.cells #[.string (s.extract p k), .int .i64 0, .bool false, .bool false, .bool false] 49)))
              have HF1 := Lib.hid (HF0.out.keep ((Below.refl _ _).alloc (Nat.le_refl _) (.cells #[.string (s.extract p k), .int .i64 0, .bool false, .bool false, .bool false] 49)))
              have HB1 := Lib.hid (HB0.out.alloc (show w.heap.size ≤ V.heap.size by omega) (.cells #[.string (s.extract p k), .int .i64 0, .bool false, .bool false, .bool false] 49))
              generalize (V.alloc (.cells #[.string (s.extract p k), .int .i64 0, .bool false, .bool false, .bool false] 49)) = V2 at *
              clear i0 i1 i2 i3 i4 jf f0 f1 ff HI0 HF0 HB0
              obtain ⟨i0, i1, i2, i3, i4, jf, jl2⟩ := HI1.out
              obtain ⟨f0, f1, ff, fl2⟩ := HF1.out
              refine (HCO.out _).mono ?_
              rintro e w1 ⟨rfl, rfl⟩
              go_wp2_with fail
              change bodyPost _ _ _ _ _ (st2 (st5 _ w.heap.size It.zero) (w.heap.size + 1) 3 (p : Int))
              exact rit_end It.zero 0 3 (p : Int) HI1.out HF1.out HB1.out HXE.out rfl rfl rfl rfl
            | true =>
              have HT0 := Lib.hid (show markR (s.data.toList.drop k) k ⟨s.extract p k, 0, false, false, false⟩ = t by rw [← HTU.out, if_neg hr0, if_neg h30, if_neg (by rw [hcs]; simp)])
              rw [hcs] at HCO
              have b1 : 0 ≤ (p : Int) := by omega
              have b2 : (p : Int) ≤ (k : Int) := by omega
              have b3 : (k : Int) ≤ (s.size : Int) := by omega
              clear HTU h30 hcs
              go_wp2_with fail
              have HX1 := Lib.hid (it_new V ⟨s.extract p k, 0, false, false, false⟩ 49)
              have HI1 := Lib.hid (HI0.out.keep ((Below.refl _ _).alloc (Nat.le_refl _) (.cells #[.string (s.extract p k), .int .i64 0, .bool false, .bool false, .bool false] 49)))
              have HF1 := Lib.hid (HF0.out.keep ((Below.refl _ _).alloc (Nat.le_refl _) (.cells #[.string (s.extract p k), .int .i64 0, .bool false, .bool false, .bool false] 49)))
              have HB1 := Lib.hid (HB0.out.alloc (show w.heap.size ≤ V.heap.size by omega) (.cells #[.string (s.extract p k), .int .i64 0, .bool false, .bool false, .bool false] 49))
              generalize (V.alloc (.cells #[.string (s.extract p k), .int .i64 0, .bool false, .bool false, .bool false] 49)) = V2 at *
              clear i0 i1 i2 i3 i4 jf f0 f1 ff HI0 HF0 HB0
              obtain ⟨i0, i1, i2, i3, i4, jf, jl2⟩ := HI1.out
              obtain ⟨f0, f1, ff, fl2⟩ := HF1.out
              refine (HCO.out _).mono ?_
              rintro e w1 ⟨rfl, rfl⟩
              clear HCO
              obtain ⟨z0, z1, z2, z3, z4, zf, zl⟩ := HX1.out
              go_wp2_with fail
              clear i0 i1 i2 i3 i4 jf f0 f1 ff z0 z1 z2 z3 z4 zf
              go_loopw [9] (fun s9 wr => ∃ (i : Nat) (y : It), k ≤ i ∧ i ≤ s.size ∧ s9 = .int .i64 (i : Int) ∧ 0 ≤ y.d ∧ y.d ≤ 9 ∧ Hid (ItAt wr (V.heap.size) y) ∧ Hid (ItAt wr w.heap.size It.zero) ∧ Hid (FtAt wr (w.heap.size + 1) 0 0) ∧ Hid (Below w.heap.size w wr) ∧ Hid (markR (s.data.toList.drop i) i y = t)) (fun s9 _ => (s.size - (intOf s9)).toNat)
              case atStart => exact ⟨k, _, Nat.le_refl _, by omega, rfl, by simp, by simp, HX1, HI1, HF1, HB1, HT0⟩
              case round =>
                obtain ⟨i, y, hki, hi, rfl, hy0, hy9, HX, HI, HF, HB, HM⟩ := hrel
                clear HX1 HI1 HF1 HB1 HT0
                obtain ⟨z0, z1, z2, z3, z4, zf, zl3⟩ := HX.out
                obtain ⟨i0, i1, i2, i3, i4, jf, jl3⟩ := HI.out
                obtain ⟨f0, f1, ff, fl3⟩ := HF.out
                by_cases hlt2 : i < s.size
                · have hl2 : (i : Int) < (s.size : Int) := by omega
                  have HC := Lib.hid (drop_cons s i hlt2)
                  have HIA := Lib.hid (isAt_yes (c := 43) hlt2)
                  by_cases h60 : s[i]'hlt2 = 60
                  · have h63 : ¬ s[i]'hlt2 = 63 := by rw [h60]; decide
                    have h42 : ¬ s[i]'hlt2 = 42 := by rw [h60]; decide
                    have h43 : ¬ s[i]'hlt2 = 43 := by rw [h60]; decide
                    have k60 : (((s[i]'hlt2).toNat : Int) == 60) = true := by rw [← eq60, h60]; rfl
                    have k63 : (((s[i]'hlt2).toNat : Int) == 63) = false := by rw [← eq63]; simpa using h63
                    have k42 : (((s[i]'hlt2).toNat : Int) == 42) = false := by rw [← eq42]; simpa using h42
                    have k43 : (((s[i]'hlt2).toNat : Int) == 43) = false := by rw [← eq43]; simpa using h43
                    by_cases hy : y.d = 9
                    · have hyb : (y.d == 9) = true := by simpa using hy
                      have HT := Lib.hid (show t = (6, y, i) by rw [← HM.out, HC.out, markR, if_pos h60, if_pos hy])
                      have HXE := Lib.hid (show x = (It.zero, 0, 6, (i : Int)) by rw [← HXU.out, HT.out, if_neg (by simp)])
                      go_wp2_with fail
                      change bodyPost _ _ _ _ _ (st2 (st5 wr w.heap.size It.zero) (w.heap.size + 1) 6 (i : Int))
                      exact rit_end It.zero 0 6 (i : Int) HI.out HF.out HB.out HXE.out rfl rfl rfl rfl
                    · have hyb : (y.d == 9) = false := by simpa using hy
                      have HT := Lib.hid (show markR (s.data.toList.drop (i + 1)) (i + 1) ⟨y.c, y.d + 1, y.r, y.v, y.j⟩ = t by rw [← HM.out, HC.out, markR, if_pos h60, if_neg hy])
                      clear HM HC
                      go_wp2_with fail
                      go_roundw
                      case rel =>
                        exact ⟨i + 1, ⟨y.c, y.d + 1, y.r, y.v, y.j⟩, by omega, by omega, by go_num, by first | omega | (simp only; omega), by first | omega | (simp only; omega), Lib.hid (HX.out.fld1 _), Lib.hid (HI.out.other _ (show V.heap.size ≠ w.heap.size by omega) _), Lib.hid (HF.out.other _ (show V.heap.size ≠ w.heap.size + 1 by omega) _), Lib.hid (HB.out.setCell (p := ⟨V.heap.size, 1, none⟩) (show w.heap.size ≤ V.heap.size by omega) _), HT⟩
                      case measure => simp [intOf]; omega
                  · by_cases h63 : s[i]'hlt2 = 63
                    · have h42 : ¬ s[i]'hlt2 = 42 := by rw [h63]; decide
                      have h43 : ¬ s[i]'hlt2 = 43 := by rw [h63]; decide
                      have k60 : (((s[i]'hlt2).toNat : Int) == 60) = false := by rw [← eq60]; simpa using h60
                      have k63 : (((s[i]'hlt2).toNat : Int) == 63) = true := by rw [← eq63, h63]; rfl
                      have k42 : (((s[i]'hlt2).toNat : Int) == 42) = false := by rw [← eq42]; simpa using h42
                      have k43 : (((s[i]'hlt2).toNat : Int) == 43) = false := by rw [← eq43]; simpa using h43
                      cases hy : y.r with
                      | true =>
                        rw [hy] at z2
                        have HT := Lib.hid (show t = (4, y, i) by rw [← HM.out, HC.out, markR, if_neg h60, if_pos h63, if_pos hy])
                        have HXE := Lib.hid (show x = (It.zero, 0, 4, (i : Int)) by rw [← HXU.out, HT.out, if_neg (by simp)])
                        go_wp2_with fail
                        change bodyPost _ _ _ _ _ (st2 (st5 wr w.heap.size It.zero) (w.heap.size + 1) 4 (i : Int))
                        exact rit_end It.zero 0 4 (i : Int) HI.out HF.out HB.out HXE.out rfl rfl rfl rfl
                      | false =>
                        rw [hy] at z2
                        have HT := Lib.hid (show markR (s.data.toList.drop (i + 1)) (i + 1) ⟨y.c, y.d, true, y.v, y.j⟩ = t by rw [← HM.out, HC.out, markR, if_neg h60, if_pos h63, if_neg (by rw [hy]; simp)])
                        clear HM HC
                        go_wp2_with fail
                        go_roundw
                        case rel =>
                          exact ⟨i + 1, ⟨y.c, y.d, true, y.v, y.j⟩, by omega, by omega, by go_num, by first | omega | (simp only; omega), by first | omega | (simp only; omega), Lib.hid (HX.out.fld2 _), Lib.hid (HI.out.other _ (show V.heap.size ≠ w.heap.size by omega) _), Lib.hid (HF.out.other _ (show V.heap.size ≠ w.heap.size + 1 by omega) _), Lib.hid (HB.out.setCell (p := ⟨V.heap.size, 2, none⟩) (show w.heap.size ≤ V.heap.size by omega) _), HT⟩
                        case measure => simp [intOf]; omega
                    · by_cases h42 : s[i]'hlt2 = 42
                      · have h43 : ¬ s[i]'hlt2 = 43 := by rw [h42]; decide
                        have k60 : (((s[i]'hlt2).toNat : Int) == 60) = false := by rw [← eq60]; simpa using h60
                        have k63 : (((s[i]'hlt2).toNat : Int) == 63) = false := by rw [← eq63]; simpa using h63
                        have k42 : (((s[i]'hlt2).toNat : Int) == 42) = true := by rw [← eq42, h42]; rfl
                        have k43 : (((s[i]'hlt2).toNat : Int) == 43) = false := by rw [← eq43]; simpa using h43
                        cases hy : y.v with
                        | true =>
                          rw [hy] at z3
                          have HT := Lib.hid (show t = (4, y, i) by rw [← HM.out, HC.out, markR, if_neg h60, if_neg h63, if_pos h42, if_pos hy])
                          have HXE := Lib.hid (show x = (It.zero, 0, 4, (i : Int)) by rw [← HXU.out, HT.out, if_neg (by simp)])
                          go_wp2_with fail
                          change bodyPost _ _ _ _ _ (st2 (st5 wr w.heap.size It.zero) (w.heap.size + 1) 4 (i : Int))
                          exact rit_end It.zero 0 4 (i : Int) HI.out HF.out HB.out HXE.out rfl rfl rfl rfl
                        | false =>
                          rw [hy] at z3
                          have HT := Lib.hid (show markR (s.data.toList.drop (i + 1)) (i + 1) ⟨y.c, y.d, y.r, true, y.j⟩ = t by rw [← HM.out, HC.out, markR, if_neg h60, if_neg h63, if_pos h42, if_neg (by rw [hy]; simp)])
                          clear HM HC
                          go_wp2_with fail
                          go_roundw
                          case rel =>
                            exact ⟨i + 1, ⟨y.c, y.d, y.r, true, y.j⟩, by omega, by omega, by go_num, by first | omega | (simp only; omega), by first | omega | (simp only; omega), Lib.hid (HX.out.fld3 _), Lib.hid (HI.out.other _ (show V.heap.size ≠ w.heap.size by omega) _), Lib.hid (HF.out.other _ (show V.heap.size ≠ w.heap.size + 1 by omega) _), Lib.hid (HB.out.setCell (p := ⟨V.heap.size, 3, none⟩) (show w.heap.size ≤ V.heap.size by omega) _), HT⟩
                          case measure => simp [intOf]; omega
                      · have HT := Lib.hid (show t = (0, y, i) by rw [← HM.out, HC.out, markR, if_neg h60, if_neg h63, if_neg h42])
                        by_cases h43 : s[i]'hlt2 = 43
                        · have k60 : (((s[i]'hlt2).toNat : Int) == 60) = false := by rw [← eq60]; simpa using h60
                          have k63 : (((s[i]'hlt2).toNat : Int) == 63) = false := by rw [← eq63]; simpa using h63
                          have k42 : (((s[i]'hlt2).toNat : Int) == 42) = false := by rw [← eq42]; simpa using h42
                          have k43 : (((s[i]'hlt2).toNat : Int) == 43) = true := by rw [← eq43, h43]; rfl
                          have HXE := Lib.hid (show x = (⟨y.c, y.d, y.r, y.v, true⟩, ((i + 1 : Nat) : Int), 0, 0) by rw [← HXU.out, HT.out, if_pos rfl, if_pos (by rw [HIA.out, h43]; rfl)])
                          have HIC := Lib.hid (show (i : Int) + 1 = ((i + 1 : Nat) : Int) by omega)
                          go_wp2_with fail
                          obtain ⟨y0, y1, y2, y3, y4, yf, yl⟩ := HX.out.fld4 true
                          go_wp2_with fail
                          rw [HIC.out]
                          change bodyPost _ _ _ _ _ (st2 (st5 _ w.heap.size ⟨y.c, y.d, y.r, y.v, true⟩) (w.heap.size + 1) 0 0)
                          exact rit_end ⟨y.c, y.d, y.r, y.v, true⟩ ((i + 1 : Nat) : Int) 0 0 (HI.out.other ⟨V.heap.size, 4, none⟩ (show V.heap.size ≠ w.heap.size by omega) _) (HF.out.other ⟨V.heap.size, 4, none⟩ (show V.heap.size ≠ w.heap.size + 1 by omega) _) (HB.out.setCell (p := ⟨V.heap.size, 4, none⟩) (show w.heap.size ≤ V.heap.size by omega) _) HXE.out rfl rfl rfl rfl
                        · have k60 : (((s[i]'hlt2).toNat : Int) == 60) = false := by rw [← eq60]; simpa using h60
                          have k63 : (((s[i]'hlt2).toNat : Int) == 63) = false := by rw [← eq63]; simpa using h63
                          have k42 : (((s[i]'hlt2).toNat : Int) == 42) = false := by rw [← eq42]; simpa using h42
                          have k43 : (((s[i]'hlt2).toNat : Int) == 43) = false := by rw [← eq43]; simpa using h43
                          have HXE := Lib.hid (show x = (y, (i : Int), 0, 0) by rw [← HXU.out, HT.out, if_pos rfl, if_neg (by rw [HIA.out]; simpa using h43)])
                          go_wp2_with fail
                          change bodyPost _ _ _ _ _ (st2 (st5 wr w.heap.size y) (w.heap.size + 1) 0 0)
                          exact rit_end y (i : Int) 0 0 HI.out HF.out HB.out HXE.out rfl rfl rfl rfl
                · obtain rfl : i = s.size := by omega
                  have hl2 : ¬ (s.size : Int) < (s.size : Int) := by omega
                  have HT := Lib.hid (show t = (0, y, s.size) by rw [← HM.out, drop_end s s.size (Nat.le_refl _), markR])
                  have HXE := Lib.hid (show x = (y, (s.size : Int), 0, 0) by rw [← HXU.out, HT.out, if_pos rfl, if_neg (by rw [isAt_no (Nat.le_refl _)]; simp)])
                  go_wp2_with fail
                  change bodyPost _ _ _ _ _ (st2 (st5 wr w.heap.size y) (w.heap.size + 1) 0 0)
                  exact rit_end y (s.size : Int) 0 0 HI.out HF.out HB.out HXE.out rfl rfl rfl rfl
      · have hl : ¬ (k : Int) < (s.size : Int) := by omega
        clear HN2
        have HXC := Lib.hid (show (s.extract p k).size ≤ 9223372036854775807 by rw [ByteArray.size_extract]; omega)
        by_cases h0 : k = p
        · have HT := Lib.hid (show t = (2, It.zero, p) by rw [← HTU.out, if_pos (HR0.out.2 h0)])
          have HXE := Lib.hid (show x = (It.zero, 0, 2, (p : Int)) by rw [← HXU.out, HT.out, if_neg (by simp)])
          have q0 : ((k : Int) == (p : Int)) = true := by rw [h0]; simp
          clear HTU h0
          go_wp2_with fail
          change bodyPost _ _ _ _ _ (st2 (st5 _ w.heap.size It.zero) (w.heap.size + 1) 2 (p : Int))
          exact rit_end It.zero 0 2 (p : Int) HI0.out HF0.out HB0.out HXE.out rfl rfl rfl rfl
        · have q0 : ((k : Int) == (p : Int)) = false := by simp; omega
          have hr0 : ¬ runN codeB s.data.toList p = 0 := fun e => h0 (HR0.out.1 e)
          by_cases h30 : n = 30
          · have HT := Lib.hid (show t = (6, It.zero, p) by rw [← HTU.out, if_neg hr0, if_pos h30])
            have HXE := Lib.hid (show x = (It.zero, 0, 6, (p : Int)) by rw [← HXU.out, HT.out, if_neg (by simp)])
            have q30 : ((n : Int) == 30) = true := by rw [h30]; rfl
            clear HTU h30
            go_wp2_with fail
            change bodyPost _ _ _ _ _ (st2 (st5 _ w.heap.size It.zero) (w.heap.size + 1) 6 (p : Int))
            exact rit_end It.zero 0 6 (p : Int) HI0.out HF0.out HB0.out HXE.out rfl rfl rfl rfl
          · have q30 : ((n : Int) == 30) = false := by simp; omega
            have HCO := Lib.hid (fun W => rcode_any (s.extract p k) HXC.out W)
            cases hcs : codeS (s.extract p k) with
            | false =>
              have HT := Lib.hid (show t = (3, It.zero, p) by rw [← HTU.out, if_neg hr0, if_neg h30, if_pos hcs])
              have HXE := Lib.hid (show x = (It.zero, 0, 3, (p : Int)) by rw [← HXU.out, HT.out, if_neg (by simp)])
              rw [hcs] at HCO
              have b1 : 0 ≤ (p : Int) := by omega
              have b2 : (p : Int) ≤ (k : Int) := by omega
              have b3 : (k : Int) ≤ (s.size : Int) := by omega
              clear HTU h30 hcs
              go_wp2_with fail
              have HX1 := Lib.hid (it_new V ⟨s.extract p k, 0, false, false, false⟩ 49)
              have HI1 := Lib.hid (HI0.out.keep ((Below.refl _ _).alloc (Nat.le_refl _) (.cells #[.string (s.extract p k), .int .i64 0, .bool false, .bool false, .bool false] 49)))
              have HF1 := Lib.hid (HF0.out.keep ((Below.refl _ _).alloc (Nat.le_refl _) (.cells #[.string (s.extract p k), .int .i64 0, .bool false, .bool false, .bool false] 49)))
              have HB1 := Lib.hid (HB0.out.alloc (show w.heap.size ≤ V.heap.size by omega) (.cells #[.string (s.extract p k), .int .i64 0, .bool false, .bool false, .bool false] 49))
              generalize (V.alloc (.cells #[.string (s.extract p k), .int .i64 0, .bool false, .bool false, .bool false] 49)) = V2 at *
              clear i0 i1 i2 i3 i4 jf f0 f1 ff HI0 HF0 HB0
              obtain ⟨i0, i1, i2, i3, i4, jf, jl2⟩ := HI1.out
              obtain ⟨f0, f1, ff, fl2⟩ := HF1.out
              refine (HCO.out _).mono ?_
              rintro e w1 ⟨rfl, rfl⟩
              go_wp2_with fail
              change bodyPost _ _ _ _ _ (st2 (st5 _ w.heap.size It.zero) (w.heap.size + 1) 3 (p : Int))
              exact rit_end It.zero 0 3 (p : Int) HI1.out HF1.out HB1.out HXE.out rfl rfl rfl rfl
            | true =>
              have HT0 := Lib.hid (show markR (s.data.toList.drop k) k ⟨s.extract p k, 0, false, false, false⟩ = t by rw [← HTU.out, if_neg hr0, if_neg h30, if_neg (by rw [hcs]; simp)])
              rw [hcs] at HCO
              have b1 : 0 ≤ (p : Int) := by omega
              have b2 : (p : Int) ≤ (k : Int) := by omega
              have b3 : (k : Int) ≤ (s.size : Int) := by omega
              clear HTU h30 hcs
              go_wp2_with fail
              have HX1 := Lib.hid (it_new V ⟨s.extract p k, 0, false, false, false⟩ 49)
              have HI1 := Lib.hid (HI0.out.keep ((Below.refl _ _).alloc (Nat.le_refl _) (.cells #[.string (s.extract p k), .int .i64 0, .bool false, .bool false, .bool false] 49)))
              have HF1 := Lib.hid (HF0.out.keep ((Below.refl _ _).alloc (Nat.le_refl _) (.cells #[.string (s.extract p k), .int .i64 0, .bool false, .bool false, .bool false] 49)))
              have HB1 := Lib.hid (HB0.out.alloc (show w.heap.size ≤ V.heap.size by omega) (.cells #[.string (s.extract p k), .int .i64 0, .bool false, .bool false, .bool false] 49))
              generalize (V.alloc (.cells #[.string (s.extract p k), .int .i64 0, .bool false, .bool false, .bool false] 49)) = V2 at *
              clear i0 i1 i2 i3 i4 jf f0 f1 ff HI0 HF0 HB0
              obtain ⟨i0, i1, i2, i3, i4, jf, jl2⟩ := HI1.out
              obtain ⟨f0, f1, ff, fl2⟩ := HF1.out
              refine (HCO.out _).mono ?_
              rintro e w1 ⟨rfl, rfl⟩
              clear HCO
              obtain ⟨z0, z1, z2, z3, z4, zf, zl⟩ := HX1.out
              go_wp2_with fail
              clear i0 i1 i2 i3 i4 jf f0 f1 ff z0 z1 z2 z3 z4 zf
              go_loopw [9] (fun s9 wr => ∃ (i : Nat) (y : It), k ≤ i ∧ i ≤ s.size ∧ s9 = .int .i64 (i : Int) ∧ 0 ≤ y.d ∧ y.d ≤ 9 ∧ Hid (ItAt wr (V.heap.size) y) ∧ Hid (ItAt wr w.heap.size It.zero) ∧ Hid (FtAt wr (w.heap.size + 1) 0 0) ∧ Hid (Below w.heap.size w wr) ∧ Hid (markR (s.data.toList.drop i) i y = t)) (fun s9 _ => (s.size - (intOf s9)).toNat)
              case atStart => exact ⟨k, _, Nat.le_refl _, by omega, rfl, by simp, by simp, HX1, HI1, HF1, HB1, HT0⟩
              case round =>
                obtain ⟨i, y, hki, hi, rfl, hy0, hy9, HX, HI, HF, HB, HM⟩ := hrel
                clear HX1 HI1 HF1 HB1 HT0
                obtain ⟨z0, z1, z2, z3, z4, zf, zl3⟩ := HX.out
                obtain ⟨i0, i1, i2, i3, i4, jf, jl3⟩ := HI.out
                obtain ⟨f0, f1, ff, fl3⟩ := HF.out
                by_cases hlt2 : i < s.size
                · exact absurd hlt2 (by omega)
                · obtain rfl : i = s.size := by omega
                  have hl2 : ¬ (s.size : Int) < (s.size : Int) := by omega
                  have HT := Lib.hid (show t = (0, y, s.size) by rw [← HM.out, drop_end s s.size (Nat.le_refl _), markR])
                  have HXE := Lib.hid (show x = (y, (s.size : Int), 0, 0) by rw [← HXU.out, HT.out, if_pos rfl, if_neg (by rw [isAt_no (Nat.le_refl _)]; simp)])
                  go_wp2_with fail
                  change bodyPost _ _ _ _ _ (st2 (st5 wr w.heap.size y) (w.heap.size + 1) 0 0)
                  exact rit_end y (s.size : Int) 0 0 HI.out HF.out HB.out HXE.out rfl rfl rfl rfl
end Go.Proofs.Ytccglojnjakbfaa
