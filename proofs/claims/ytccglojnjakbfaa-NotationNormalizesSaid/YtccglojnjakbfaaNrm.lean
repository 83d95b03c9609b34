/- Contract of layer 19: Normalize. -/
import Derived.Test.YtccglojnjakbfaaInvP
set_option linter.unusedSimpArgs false
set_option linter.unusedVariables false
namespace Go.Proofs.Ytccglojnjakbfaa
open Go.RowKit

theorem parP_fa (L : List UInt8) (h : (parP L).2.1 = 0) : (parP L).2.2 = 0 := by
  unfold parP at h ⊢
  by_cases h0 : (redP L (L.length + 1) 0 []).1 = 0
  · rw [if_pos h0]
  · rw [if_neg h0] at h; exact absurd h h0
theorem fit_of_chk {L : List It} (h : chkL L = 0) : fitC L := fun k hk => by
  have := (err_zero (chk_zero h).1).2 _ (List.getElem_mem hk)
  have := code_size this.1
  omega
/-- what Normalize gives -/
def NrmPost (w : World) (L : List UInt8) (e : Ending) (w' : World) : Prop :=
  e = .returned (.tuple #[.string (if (parP L).2.1 = 0 then bs (prtS (parP L).1) else ⟨#[]⟩), fV (parP L).2.1 (parP L).2.2]) ∧ Below w.heap.size w w'
set_option maxHeartbeats 4000000 in
set_option maxRecDepth 100000 in
theorem norm_any (s : ByteArray) (hs : s.size ≤ 1000000) (w : World) : Calls Try.prog 19 #[.string s] w (NrmPost w s.data.toList) := by
  have H1 := Lib.hid (fun W => parse_any s hs W)
  have HCK := Lib.hid (par_chk s.data.toList)
  have HFA := Lib.hid (parP_fa s.data.toList)
  have HF0 := Lib.hid (ft_new w 0 0 26)
  have HB0 := Lib.hid (show Below w.heap.size w (w.alloc (.cells #[.int .i64 0, .int .i64 0] 26)) from (by repeat (first | with_reducible exact Below.refl _ _ | (with_reducible refine Below.setCell ?_ (by first | exact Nat.le_refl _ | omega | (simp; done) | (simp; omega)) _) | (with_reducible refine Below.alloc ?_ (by first | exact Nat.le_refl _ | omega | (simp; done) | (simp; omega)) _) | with_reducible refine Below.drew ?_ | with_reducible refine bel_drewN ?_ _ | (with_reducible refine bel_by (by with_reducible assumption) (by first | exact Nat.le_refl _ | omega | (simp; done) | (simp; omega)) ?_))))
  unfold ParPost at H1
  unfold NrmPost
  generalize parP s.data.toList = x at *
  obtain ⟨L, c, fa⟩ := x
  simp only at H1 HCK HFA ⊢
  by_cases h0 : c = 0
  · subst h0
    obtain rfl : fa = 0 := HFA.out rfl
    obtain ⟨hck, _⟩ := HCK.out rfl
    have HP := Lib.hid (fun W a b off len cap (hW : SlX W a b off len cap L) => print_any hW (fit_of_chk hck))
    unfold PrtPost at HP
    rw [hck, if_pos rfl] at HP
    rw [if_pos rfl]
    unfold fV at H1
    clear hck HCK HFA
    generalize bs (prtS L) = T at *
    go_enter Try.func19, Try.ntmps19
    go_wp2_with fail
    refine (H1.out _).mono ?_
    rintro e w1 ⟨v, rfl, ho, hb1⟩
    obtain ⟨a1, b1, c1, rfl, sl1, _⟩ := slx_own ho
    have HB1 := Lib.hid (show Below w.heap.size w (w1.alloc (.cells #[.int .i64 0, .int .i64 0] 26)) from (HB0.out.trans (hb1.mono HB0.out.size)).alloc (Nat.le_trans HB0.out.size hb1.size) _)
    have HF1 := Lib.hid ((HF0.out.keep hb1).keep ((Below.refl _ _).alloc (Nat.le_refl _) (.cells #[.int .i64 0, .int .i64 0] 26)))
    have HS1 := Lib.hid (sl1.keep ((Below.refl _ _).alloc (Nat.le_refl _) (.cells #[.int .i64 0, .int .i64 0] 26)))
    clear ho hb1 sl1 HF0 HB0 H1
    go_wp2_with fail
    generalize (w1.alloc (.cells #[.int .i64 0, .int .i64 0] 26)) = V at *
    refine (HP.out _ _ _ _ _ _ HS1.out).mono ?_
    rintro e w2 ⟨rfl, hb2⟩
    obtain ⟨y0, y1, yf, yl⟩ := HF1.out.keep hb2
    have HB2 := Lib.hid (HB1.out.trans (hb2.mono HB1.out.size))
    clear hb2
    go_wp2_with fail
    have hbw := HB2.out
    refine bodyPost_ret (v := .tuple #[.string T, fV 0 0]) (by simp [results, Try.results19, go_sem, fV, y0, y1, yf, yl]) rfl ?_
    exact ⟨rfl, (by repeat (first | with_reducible exact Below.refl _ _ | (with_reducible refine Below.setCell ?_ (by first | exact Nat.le_refl _ | omega | (simp; done) | (simp; omega)) _) | (with_reducible refine Below.alloc ?_ (by first | exact Nat.le_refl _ | omega | (simp; done) | (simp; omega)) _) | with_reducible refine Below.drew ?_ | with_reducible refine bel_drewN ?_ _ | (with_reducible refine bel_by (by with_reducible assumption) (by first | exact Nat.le_refl _ | omega | (simp; done) | (simp; omega)) ?_)))⟩
  · rw [if_neg h0]
    have k0 : (c == 0) = false := by simpa using h0
    have k1 : (c != 0) = true := by simpa using h0
    unfold fV at H1
    clear h0 HCK HFA
    go_enter Try.func19, Try.ntmps19
    go_wp2_with fail
    refine (H1.out _).mono ?_
    rintro e w1 ⟨v, rfl, ho, hb1⟩
    have hlw : w.heap.size < w1.heap.size := (HF0.out.keep hb1).lt
    have HB1 := Lib.hid (show Below w.heap.size w (w1.alloc (.cells #[.int .i64 c, .int .i64 fa] 26)) from (HB0.out.trans (hb1.mono HB0.out.size)).alloc (Nat.le_trans HB0.out.size hb1.size) _)
    have HF1 := Lib.hid ((HF0.out.keep hb1).keep ((Below.refl _ _).alloc (Nat.le_refl _) (.cells #[.int .i64 c, .int .i64 fa] 26)))
    have HG1 := Lib.hid (ft_new w1 c fa 26)
    clear ho hb1 HF0 HB0 H1
    obtain ⟨y0, y1, yf, yl⟩ := HF1.out
    obtain ⟨x0, x1, xf, xl⟩ := HG1.out
    go_wp2_with fail
    generalize (w1.alloc (.cells #[.int .i64 c, .int .i64 fa] 26)) = V at *
    have hne : w.heap.size ≠ w1.heap.size := by omega
    go_region
    all_goals
      go_wp2_with fail
      have hbw := HB1.out
      refine bodyPost_ret (v := .tuple #[.string ⟨#[]⟩, fV c fa]) (by simp [results, Try.results19, go_sem, fV, y0, y1, yf, yl]) rfl ?_
      exact ⟨rfl, hbw.trans (show Below w.heap.size V _ from by
        first
          | exact ((Below.refl _ _).drew.setCell (p := ⟨w.heap.size, 0, none⟩) (Nat.le_refl _) _).setCell (p := ⟨w.heap.size, 1, none⟩) (Nat.le_refl _) _
          | exact (((Below.refl _ _).setCell (p := ⟨w.heap.size, 0, none⟩) (Nat.le_refl _) _).setCell (p := ⟨w.heap.size, 1, none⟩) (Nat.le_refl _) _).drew)⟩
end Go.Proofs.Ytccglojnjakbfaa
