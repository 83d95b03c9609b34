/- The law EncodeRaw: what its walk leans on. -/
import Derived.Test.YtljeialaefmbmaaInC
import Derived.Test.YtljeialaefmbmaaInD
import Derived.Test.YtljeialaefmbmaaInE
import Derived.Test.YtljeialaefmbmaaInF
import Derived.Test.YtljeialaefmbmaaSl
import Derived.Test.YtljeialaefmbmaaBut
import Derived.Test.YtljeialaefmbmaaAwake
set_option linter.unusedSimpArgs false
set_option linter.unusedVariables false
namespace Go.Proofs.Ytljeialaefmbmaa
open Go.RowKit

theorem InAt.but {w w' : World} {b c : Nat} {r : RSt} (h : InAt w b r) (hb : But c w w') (hne : b ≠ c) : InAt w' b r := by
  obtain ⟨c0, c1, c2, c3, ff, lt⟩ := h
  have hblk := hb.block b lt hne
  exact ⟨(World.cell?_of_block hblk).trans c0, (World.cell?_of_block hblk).trans c1, (World.cell?_of_block hblk).trans c2, (World.cell?_of_block hblk).trans c3, fun o => (World.frozen?_of_block (a := ⟨b, o, none⟩) hblk).trans (ff o), Nat.lt_of_lt_of_le lt hb.size⟩
theorem InAt.below {w w' : World} {b : Nat} {r : RSt} (h : InAt w b r) (hb : Below w.heap.size w w') : InAt w' b r := h.but (But.of (b := w.heap.size) hb) (Nat.ne_of_lt h.lt)
theorem InAt.drewN {w : World} {b : Nat} {r : RSt} (h : InAt w b r) (n : Nat) : InAt (w.drewN n) b r := h.below (bel_drewN (Below.refl _ _) n)
/-- both readers stand at the same state -/
structure Both (W w : World) (rb mb : Nat) (r : RSt) : Prop where
  hr : RAt w rb r
  hi : InAt w mb r
  ok : ROk r
  er : r.err = 0 ∨ r.err = 2
  bel : Below W.heap.size W w
  rm : rb < mb
  wr : W.heap.size ≤ rb
theorem readR_err {r : RSt} (K : Int) (h : r.err = 0 ∨ r.err = 2) : (readR r K).1.err = 0 ∨ (readR r K).1.err = 2 := by
  unfold readR
  split
  · split
    · right; rfl
    · exact h
  · exact h
/-- one step of both -/
theorem Both.step {W w w1 w2 : World} {rb mb : Nat} {r : RSt} {K : Int} (h : Both W w rb mb r) (hK : 1 ≤ K ∧ K ≤ 4) (hr : RAt w1 rb (readR r K).1) (h1 : But rb w w1) (hi : InAt w2 mb (readR r K).1) (h2 : But mb w1 w2) : Both W w2 rb mb (readR r K).1 :=
  ⟨hr.but h2 (by have := h.rm; omega), hi, readR_ok h.ok K hK, readR_err K h.er, (h1.below h.bel h.wr (Nat.le_refl _)) |> fun hb => h2.below hb (by have := h.rm; have := h.wr; omega) (Nat.le_refl _), h.rm, h.wr⟩
def failR (r : RSt) : RSt := if r.err = 0 then { r with err := 2 } else r
theorem failR_ok {r : RSt} (h : ROk r) : ROk (failR r) := by
  unfold failR
  split
  · exact ⟨h.hs, h.ha, h.ho⟩
  · exact h
theorem failR_err {r : RSt} (h : r.err = 0 ∨ r.err = 2) : (failR r).err = 2 := by
  unfold failR
  rcases h with h | h
  · rw [if_pos h]
  · rw [if_neg (by omega)]; exact h
theorem failR_in {w : World} {mb : Nat} {r : RSt} (h : InAt w mb r) (he : r.err = 0 ∨ r.err = 2) : InAt (w.setCell ⟨mb, 3, none⟩ (.bool true)) mb (failR r) := by
  have hb : badR (failR r) = true := by unfold badR; rw [failR_err he]; rfl
  have e0 : (failR r).s = r.s := by unfold failR; split <;> rfl
  have e1 : (failR r).at' = r.at' := by unfold failR; split <;> rfl
  have e2 : (failR r).opn = r.opn := by unfold failR; split <;> rfl
  obtain ⟨c0, c1, c2, c3, ff, lt⟩ := h
  refine ⟨?_, ?_, ?_, ?_, fun o => ?_, ?_⟩
  · rw [e0]; simp (maxDischargeDepth := 6) [go_sem, c0, c1, c2, c3, ff, lt]
  · rw [e1]; simp (maxDischargeDepth := 6) [go_sem, c0, c1, c2, c3, ff, lt]
  · rw [e2]; simp (maxDischargeDepth := 6) [go_sem, c0, c1, c2, c3, ff, lt]
  · rw [hb]; simp (maxDischargeDepth := 6) [go_sem, c0, c1, c2, c3, ff, lt]
  · simp (maxDischargeDepth := 6) [go_sem, c0, c1, c2, c3, ff, lt]
  · simpa using lt
theorem Both.fail {W w w1 : World} {rb mb : Nat} {r : RSt} (h : Both W w rb mb r) (hr : RAt w1 rb (failR r)) (h1 : But rb w w1) : Both W (w1.setCell ⟨mb, 3, none⟩ (.bool true)) rb mb (failR r) := by
  have h2 : But mb w1 (w1.setCell ⟨mb, 3, none⟩ (.bool true)) := (But.refl _ _).set _ _
  exact ⟨hr.but h2 (by have := h.rm; omega), failR_in (h.hi.but h1 (by have := h.rm; omega)) h.er, failR_ok h.ok, Or.inr (failR_err h.er), (h1.below h.bel h.wr (Nat.le_refl _)) |> fun hb => h2.below hb (by have := h.rm; have := h.wr; omega) (Nat.le_refl _), h.rm, h.wr⟩
theorem endR_02 {r : RSt} (h : r.err = 0 ∨ r.err = 2) : endR r = 0 ∨ endR r = 2 := by
  unfold endR
  split
  · split
    · left; rfl
    · right; rfl
  · rcases h with h | h
    · omega
    · exact Or.inr h
/-- quiet calls, at the world of a drawn region -/
def QC (f : FuncId) (b : Nat) (v : Value) (w : World) : Prop := ∀ n, Calls Try.prog f #[.pointer (some ⟨b, 0, none⟩)] (w.drewN n) fun e w'' => e = .returned v ∧ ∃ m, w'' = w.drewN m
theorem qc_more {w : World} {b : Nat} {r : RSt} (h : RAt w b r) (ok : ROk r) : QC 16 b (.bool (moreR r)) w := fun n => Calls.quiet_of (rdMore_any b r _ (h.drewN n) ok)
theorem qc_err {w : World} {b : Nat} {r : RSt} (h : RAt w b r) : QC 21 b (.int .i64 r.err) w := fun n => quietS (rdErr_any b r _ (h.drewN n))
theorem qc_off {w : World} {b : Nat} {r : RSt} (h : RAt w b r) : QC 23 b (.int .i64 (r.at' : Int)) w := fun n => quietS (rdOff_any b r _ (h.drewN n))
theorem qc_end {w : World} {b : Nat} {r : RSt} (h : RAt w b r) (ok : ROk r) : QC 22 b (.int .i64 (endR r)) w := fun n => Calls.quiet_of (rdEnd_any b r _ (h.drewN n) ok)
theorem qc_imore {w : World} {b : Nat} {r : RSt} (h : InAt w b r) (ok : ROk r) (er : r.err = 0 ∨ r.err = 2) : QC 29 b (.bool (moreR r)) w := fun n => Calls.quiet_of (inMore_any b r _ (h.drewN n) ok er)
theorem qc_iend {w : World} {b : Nat} {r : RSt} (h : InAt w b r) (ok : ROk r) (er : r.err = 0 ∨ r.err = 2) : QC 30 b (.bool (endB r)) w := fun n => Calls.quiet_of (inEnd_any b r _ (h.drewN n) ok er)
end Go.Proofs.Ytljeialaefmbmaa
