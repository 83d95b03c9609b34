/- The examples of the chapter on encodings, each by its contract. -/
import Derived.Test.YtljeialaefmbmaaDoorDataZ
import Derived.Test.YtljeialaefmbmaaDoorSplit
set_option linter.unusedSimpArgs false
set_option linter.unusedVariables false
namespace Go.Proofs.YtljeialaefmbmaaDoor
open Go.RowKit

theorem eg_encI : encI (-5) = ⟨#[105, 45, 53, 59]⟩ := by
  have e : decS (-5) = [45, 53] := by
    unfold decS
    rw [if_pos (by omega), show (-(-5 : Int)).toNat = 5 from rfl, decL_lt (by omega)]
    rfl
  unfold encI
  rw [e]
  rfl
theorem eg_encT : encT ⟨#[97, 98]⟩ = ⟨#[50, 58, 97, 98]⟩ := by
  have e : decS (((⟨#[97, 98]⟩ : ByteArray).size : Nat) : Int) = [50] := by
    unfold decS
    rw [if_neg (by omega), show ((((⟨#[97, 98]⟩ : ByteArray).size : Nat) : Int)).toNat = 2 from rfl, decL_lt (by omega)]
    rfl
  unfold encT
  rw [e]
  rfl
theorem eg_w1 (b : Nat) (w : World) (hW : WAt w b [] 0) : Calls Tryd.prog 10 #[.pointer (some ⟨b, 0, none⟩)] w fun e w' => e = .returned (.tuple #[]) ∧ WAt w' b [⟨#[108]⟩] 1 ∧ But b w w' :=
  wopen_any b [] 0 w hW (by decide) (by omega)
theorem eg_w2 (b : Nat) (w : World) (hW : WAt w b [⟨#[108]⟩] 1) : Calls Tryd.prog 11 #[.pointer (some ⟨b, 0, none⟩), .int .i64 (-5)] w fun e w' => e = .returned (.tuple #[]) ∧ WAt w' b [⟨#[105, 45, 53, 59]⟩, ⟨#[108]⟩] 1 ∧ But b w w' := by
  rw [← eg_encI]
  exact wint_any b _ 1 (-5) (by omega) (by omega) w hW (by decide)
theorem eg_w3 (b : Nat) (w : World) (hW : WAt w b [⟨#[105, 45, 53, 59]⟩, ⟨#[108]⟩] 1) : Calls Tryd.prog 12 #[.pointer (some ⟨b, 0, none⟩), .string ⟨#[97, 98]⟩] w fun e w' => e = .returned (.tuple #[]) ∧ WAt w' b [⟨#[50, 58, 97, 98]⟩, ⟨#[105, 45, 53, 59]⟩, ⟨#[108]⟩] 1 ∧ But b w w' := by
  rw [← eg_encT]
  exact wtext_any b _ 1 ⟨#[97, 98]⟩ w hW (by decide)
theorem eg_w4 (b : Nat) (w : World) (hW : WAt w b [⟨#[50, 58, 97, 98]⟩, ⟨#[105, 45, 53, 59]⟩, ⟨#[108]⟩] 1) : Calls Tryd.prog 10 #[.pointer (some ⟨b, 0, none⟩)] w fun e w' => e = .returned (.tuple #[]) ∧ WAt w' b [⟨#[108]⟩, ⟨#[50, 58, 97, 98]⟩, ⟨#[105, 45, 53, 59]⟩, ⟨#[108]⟩] 2 ∧ But b w w' :=
  wopen_any b _ 1 w hW (by decide) (by omega)
theorem eg_data : dataS [⟨#[108]⟩, ⟨#[50, 58, 97, 98]⟩, ⟨#[105, 45, 53, 59]⟩, ⟨#[108]⟩] 2 = ⟨#[108, 105, 45, 53, 59, 50, 58, 97, 98, 108, 101, 101]⟩ := by kernel_rfl
theorem eg_w5 (b : Nat) (w : World) (hW : WAt w b [⟨#[108]⟩, ⟨#[50, 58, 97, 98]⟩, ⟨#[105, 45, 53, 59]⟩, ⟨#[108]⟩] 2) : Calls Tryd.prog 8 #[.pointer (some ⟨b, 0, none⟩)] w fun e w' => e = .returned (.string ⟨#[108, 105, 45, 53, 59, 50, 58, 97, 98, 108, 101, 101]⟩) ∧ Below w.heap.size w w' := by
  rw [← eg_data]
  exact data_any b _ 2 w hW (by decide) (by decide)
theorem eg_w6 (b : Nat) (w : World) (hW : WAt w b [⟨#[108]⟩, ⟨#[50, 58, 97, 98]⟩, ⟨#[105, 45, 53, 59]⟩, ⟨#[108]⟩] 2) : Calls Tryd.prog 9 #[.pointer (some ⟨b, 0, none⟩)] w fun e w' => e = .returned (.int .i64 2) ∧ w = w' :=
  wdepth_any b _ 2 w hW
def egS : ByteArray := ⟨#[108, 105, 49, 59, 101]⟩
theorem eg_ok0 : ROk ⟨egS, 0, 0, 0⟩ := ⟨by decide, by decide, by decide⟩
theorem eg_ok1 : ROk ⟨egS, 1, 1, 0⟩ := ⟨by decide, by decide, by decide⟩
theorem eg_ok2 : ROk ⟨egS, 4, 1, 0⟩ := ⟨by decide, by decide, by decide⟩
theorem eg_ok3 : ROk ⟨egS, 5, 0, 0⟩ := ⟨by decide, by decide, by decide⟩
theorem eg_s0 : (readR ⟨egS, 0, 0, 0⟩ 3).1 = ⟨egS, 1, 1, 0⟩ := by kernel_rfl
theorem eg_s1 : (readR ⟨egS, 1, 1, 0⟩ 1).1 = ⟨egS, 4, 1, 0⟩ ∧ (readR ⟨egS, 1, 1, 0⟩ 1).2.n = 1 := ⟨by kernel_rfl, by kernel_rfl⟩
theorem eg_s2 : (readR ⟨egS, 4, 1, 0⟩ 4).1 = ⟨egS, 5, 0, 0⟩ := by kernel_rfl
theorem eg_m2 : moreR ⟨egS, 4, 1, 0⟩ = false := by kernel_rfl
theorem eg_e3 : endR ⟨egS, 5, 0, 0⟩ = 0 := by kernel_rfl
theorem eg_r1 (b : Nat) (w : World) (hR : RAt w b ⟨egS, 0, 0, 0⟩) : Calls Tryd.prog 14 #[.pointer (some ⟨b, 0, none⟩)] w fun e w' => e = .returned (.tuple #[]) ∧ RAt w' b ⟨egS, 1, 1, 0⟩ ∧ But b w w' := by
  rw [← eg_s0]
  exact rdOpen_any b _ w hR eg_ok0
theorem eg_r2 (b : Nat) (w : World) (hR : RAt w b ⟨egS, 1, 1, 0⟩) : Calls Tryd.prog 15 #[.pointer (some ⟨b, 0, none⟩)] w fun e w' => e = .returned (.int .i64 1) ∧ RAt w' b ⟨egS, 4, 1, 0⟩ ∧ But b w w' := by
  rw [← eg_s1.1]
  have h := rdInt_any b _ w hR eg_ok1
  rw [eg_s1.2] at h
  exact h
theorem eg_r3 (b : Nat) (w : World) (hR : RAt w b ⟨egS, 4, 1, 0⟩) : Calls Tryd.prog 16 #[.pointer (some ⟨b, 0, none⟩)] w fun e w' => e = .returned (.bool false) ∧ ∃ n, w' = w.drewN n := by
  rw [← eg_m2]
  exact rdMore_any b _ w hR eg_ok2
theorem eg_r4 (b : Nat) (w : World) (hR : RAt w b ⟨egS, 4, 1, 0⟩) : Calls Tryd.prog 18 #[.pointer (some ⟨b, 0, none⟩)] w fun e w' => e = .returned (.tuple #[]) ∧ RAt w' b ⟨egS, 5, 0, 0⟩ ∧ But b w w' := by
  rw [← eg_s2]
  exact rdClose_any b _ w hR eg_ok2
theorem eg_r5 (b : Nat) (w : World) (hR : RAt w b ⟨egS, 5, 0, 0⟩) : Calls Tryd.prog 21 #[.pointer (some ⟨b, 0, none⟩)] w fun e w' => e = .returned (.int .i64 0) ∧ ∃ n, w' = w.drewN n := by
  rw [← eg_e3]
  exact rdEnd_any b _ w hR eg_ok3
theorem eg_skipS : skipS ⟨#[105, 49, 59, 50, 58, 97, 98]⟩ 3 = (7, true) := by kernel_rfl
theorem eg_skip (w : World) : Calls Tryd.prog 19 #[.string ⟨#[105, 49, 59, 50, 58, 97, 98]⟩, .int .i64 3] w fun r w' => r = .returned (.tuple #[.int .i64 7, .bool true]) ∧ Below w.heap.size w w' := by
  have h := skip_any ⟨#[105, 49, 59, 50, 58, 97, 98]⟩ 3 (by decide) (by decide) w
  rw [eg_skipS] at h
  exact h
def egL : ByteArray := ⟨#[108, 105, 49, 59, 108, 101, 48, 58, 101]⟩
theorem eg_splitS : splitS egL = [⟨#[105, 49, 59]⟩, ⟨#[108, 101]⟩, ⟨#[48, 58]⟩] := by kernel_rfl
theorem eg_depthL : depthS egL = 2 := by kernel_rfl
theorem eg_split (w : World) : Calls Tryd.prog 20 #[.string ⟨#[108, 105, 49, 59, 108, 101, 48, 58, 101]⟩] w fun e w' => ∃ g cap, e = .returned (.tuple #[.slice (some ⟨g, 0, none⟩) 3 cap, .bool true]) ∧ 3 ≤ cap ∧ cap ≤ maxLen ∧ w'.cell? ⟨g, 1, none⟩ = some (.string ⟨#[108, 101]⟩) ∧ Below w.heap.size w w' := by
  have h := split_yes egL (by decide) (by rw [eg_depthL]; omega) w
  refine h.mono ?_
  rintro e w' ⟨v, rfl, hown, hb⟩
  rw [eg_splitS] at hown
  obtain ⟨-, ⟨-, h0⟩ | ⟨g, cap, cur, rfl, hg, hcur, hcap, hmax, hsz, htake⟩⟩ := hown
  · simp at h0
  · refine ⟨g, cap, rfl, hcap, hmax, ?_, hb⟩
    have h1 : cur.toList[1]? = some (.string ⟨#[108, 101]⟩) := by
      have := congrArg (fun l : List Value => l[1]?) htake
      simpa using this
    simp [World.cell?, hcur]
    simpa using h1
theorem eg_d1 : depthS ⟨#[108, 108, 101, 48, 58, 101]⟩ = 2 := by kernel_rfl
theorem eg_depth (w : World) : Calls Tryd.prog 22 #[.string ⟨#[108, 108, 101, 48, 58, 101]⟩] w fun r w' => r = .returned (.int .i64 2) ∧ Below w.heap.size w w' := by
  rw [← eg_d1]
  exact depth_any _ (by decide) w
theorem eg_d2 : decide (0 ≤ depthS ⟨#[48, 58]⟩) = true := by kernel_rfl
theorem eg_valid (w : World) : Calls Tryd.prog 23 #[.string ⟨#[48, 58]⟩] w fun r w' => r = .returned (.bool true) ∧ Below w.heap.size w w' := by
  rw [← eg_d2]
  exact valid_any _ (by decide) w
theorem eg_d3 : decide (0 ≤ depthS ⟨#[105, 48, 53, 59]⟩) = false := by kernel_rfl
theorem eg_invalid (w : World) : Calls Tryd.prog 23 #[.string ⟨#[105, 48, 53, 59]⟩] w fun r w' => r = .returned (.bool false) ∧ Below w.heap.size w w' := by
  rw [← eg_d3]
  exact valid_any _ (by decide) w
theorem eg_new (w : World) : Calls Tryd.prog 13 #[.string ⟨#[108, 105, 49, 59, 101]⟩] w fun e w' => e = .returned (.pointer (some ⟨w.heap.size, 0, none⟩)) ∧ RAt w' w.heap.size ⟨egS, 0, 0, 0⟩ ∧ Below w.heap.size w w' := rdNew_any egS w
theorem RAt.below {w w' : World} {b : Nat} {r : RSt} (h : RAt w b r) (hb : Below w.heap.size w w') : RAt w' b r := by
  obtain ⟨c0, c1, c2, c3, ff, lt⟩ := h
  have hs := hb.size
  exact ⟨(hb.cell (p := ⟨b, 0, none⟩) lt).trans c0, (hb.cell (p := ⟨b, 1, none⟩) lt).trans c1, (hb.cell (p := ⟨b, 2, none⟩) lt).trans c2, (hb.cell (p := ⟨b, 3, none⟩) lt).trans c3, fun o => (hb.frozen (p := ⟨b, o, none⟩) lt).trans (ff o), by omega⟩
theorem RAt.drewN {w : World} {b : Nat} {r : RSt} (h : RAt w b r) (n : Nat) : RAt (w.drewN n) b r := h.below (bel_drewN (Below.refl _ _) n)
end Go.Proofs.YtljeialaefmbmaaDoor
