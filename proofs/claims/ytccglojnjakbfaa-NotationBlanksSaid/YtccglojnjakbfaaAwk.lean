/- Contract of layer 19's awake. -/
import Derived.Test.YtccglojnjakbfaaPar
import Derived.Test.YtccglojnjakbfaaPrt
set_option linter.unusedSimpArgs false
set_option linter.unusedVariables false
namespace Go.Proofs.Ytccglojnjakbfaa
open Go.RowKit

def egL : ByteArray := ⟨#[32, 51, 65, 43, 50, 84, 60, 63, 32, 32, 70, 85, 83, 83, 112, 52, 42, 32]⟩
def its1 : List It := [⟨⟨#[51, 65]⟩, 0, false, false, true⟩, ⟨⟨#[50, 84]⟩, 1, true, false, false⟩, ⟨⟨#[70, 85, 83, 83, 112, 52]⟩, 0, false, true, false⟩]
theorem par_eg : parP egL.data.toList = (its1, 0, 0) := by decide +kernel
theorem chk_eg : chkL its1 = 0 := by decide +kernel
theorem prt_eg : bs (prtS its1) = ⟨#[51, 65, 43, 50, 84, 60, 63, 32, 70, 85, 83, 83, 112, 52, 42]⟩ := by decide +kernel
theorem fit_eg : fitC its1 := by
  intro k h
  have h8 : ∀ x ∈ its1, x.c.size ≤ 8 := by decide
  have := h8 _ (List.getElem_mem h)
  omega
set_option maxHeartbeats 4000000 in
set_option maxRecDepth 100000 in
theorem awake_any (w : World) : Calls Try.prog 10 #[] w fun e w' => e = .returned (.bool true) ∧ Below w.heap.size w w' := by
  have H1 := Lib.hid (fun W => parse_any egL (by decide) W)
  rw [par_eg] at H1
  unfold ParPost fV at H1
  unfold egL at H1
  simp only at H1
  go_enter Try.func10, Try.ntmps10
  go_wp2_with fail
  refine (H1.out _).mono ?_
  rintro e w1 ⟨v, rfl, ho, hb1⟩
  obtain ⟨a, b, cap, rfl, sl, hbb⟩ := (show ∃ a b cap, v = .slice a 3 cap ∧ SlX w1 a b 0 3 cap its1 ∧ (0 < 3 → w.heap.size ≤ b) from slx_own ho)
  have HF := Lib.hid (ft_new w1 0 0 26)
  have HB := Lib.hid (show Below w.heap.size w (w1.alloc (.cells #[.int .i64 0, .int .i64 0] 26)) from hb1.alloc hb1.size _)
  have HS := Lib.hid (sl.keep ((Below.refl _ _).alloc (Nat.le_refl _) (.cells #[.int .i64 0, .int .i64 0] 26)))
  have H2 := Lib.hid (print_any HS.out fit_eg)
  unfold PrtPost at H2
  rw [chk_eg, if_pos rfl, prt_eg] at H2
  obtain rfl := sl.ha (by decide)
  clear ho hb1 sl
  go_wp2_with fail
  generalize (w1.alloc (.cells #[.int .i64 0, .int .i64 0] 26)) = V at *
  refine H2.out.mono ?_
  rintro e w2 ⟨rfl, hb2⟩
  have SA := HS.out.keep hb2
  obtain ⟨y0, y1, yf, yl⟩ := HF.out.keep hb2
  have HB2 := Lib.hid (HB.out.trans (hb2.mono HB.out.size))
  have ba := SA.hb (by decide)
  have hcap := SA.hcap
  have hmax := SA.hmax
  unfold maxLen at hmax
  have a4 := SA.c4 0 (by decide)
  have b1 := SA.c1 1 (by decide)
  have b2 := SA.c2 1 (by decide)
  have d3 := SA.c3 2 (by decide)
  simp only [its1, List.getElem_cons_zero, List.getElem_cons_succ, Nat.zero_mul, Nat.zero_add, Nat.one_mul, Nat.reduceMul, Nat.reduceAdd] at a4 b1 b2 d3
  clear SA hb2 HS H2 HB HF H1
  go_wp2_with fail
  go_ret
  exact ⟨by first | rfl | simp, HB2.out⟩
end Go.Proofs.Ytccglojnjakbfaa
