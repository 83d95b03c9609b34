/- Contracts of package encode: Data of an empty Writer; a Writer that is new. -/
import Derived.Test.YtljeialaefmbmaaDoorData
set_option linter.unusedSimpArgs false
set_option linter.unusedVariables false
namespace Go.Proofs.YtljeialaefmbmaaDoor
open Go.RowKit

theorem rep0_at (b : Nat) (w : World) :
    Calls Tryd.prog 27 #[.slice (some ⟨b, 0, none⟩) 1 1, .int .i64 0] w fun e w' => (∃ g, e = .returned (.slice (some ⟨g, 0, none⟩) 0 0)) ∧ Below w.heap.size w w' := by
  go_enter Tryd.func27, Tryd.ntmps27
  go_wp2
  go_ret
  exact ⟨⟨_, rfl⟩, (by repeat (first | with_reducible exact Below.refl _ _ | (with_reducible refine Below.setCell ?_ (by first | exact Nat.le_refl _ | omega | (simp; done) | (simp; omega)) _) | (with_reducible refine Below.alloc ?_ (by first | exact Nat.le_refl _ | omega | (simp; done) | (simp; omega)) _) | with_reducible refine Below.drew ?_ | with_reducible refine bel_drewN ?_ _ | (with_reducible refine bel_by (by with_reducible assumption) (by first | exact Nat.le_refl _ | omega | (simp; done) | (simp; omega)) ?_)))⟩

set_option maxHeartbeats 4000000 in
set_option maxRecDepth 100000 in
theorem data_zero (b : Nat) (w : World) (hW : WAt w b [] 0) :
    Calls Tryd.prog 8 #[.pointer (some ⟨b, 0, none⟩)] w fun e w' => e = .returned (.string ⟨#[]⟩) ∧ Below w.heap.size w w' := by
  obtain ⟨⟨v, c0, hc⟩, c1, c2, ff, lt⟩ := hW
  obtain rfl : v = .pointer none := hc
  have c1 : w.cell? ⟨b, 1, none⟩ = some (.int .i64 0) := c1
  have c2 : w.cell? ⟨b, 2, none⟩ = some (.int .i64 0) := c2
  clear ff
  have hRep := Lib.hid (fun (q : Nat) (W : World) => rep0_at q W)
  go_enter Tryd.func8, Tryd.ntmps8
  go_upto_region 1 with fail
  go_cut [3] (fun s3 wx => ∃ (g : Nat), s3 = .slice (some ⟨g, 0, none⟩) 0 0 ∧ Below w.heap.size w wx)
  case first =>
    go_region_held3 (fun w' => w'.cell? ⟨b, 1, none⟩ = some (.int .i64 0) ∧ w'.cell? ⟨b, 2, none⟩ = some (.int .i64 0))
      ((first | (simp [go_sem, c1, c2, lt]; done) | (simp (maxDischargeDepth := 6) [go_sem, c1, c2, lt]; done) | (simp (maxDischargeDepth := 6) [go_sem, hc2, c1, c2, lt, lt1]; done)))
      (first
        | (go_at_call 27; refine (hRep.out _ _).mono ?_; rintro e w2 ⟨⟨g, rfl⟩, hb2⟩; (repeat (with_reducible replace hb2 := undrew hb2)); obtain ⟨hc2, hf2⟩ := bcell hb2; have hz2 := bsize hb2; (try simp at hz2); have lt1 : b < w.heap.size + 1 := (by omega)))
    all_goals
      go_wp2_with fail
      go_meet
      refine ⟨g, rfl, ?_⟩
      exact (by repeat (first | with_reducible exact Below.refl _ _ | (with_reducible refine Below.setCell ?_ (by first | exact Nat.le_refl _ | omega | (simp; done) | (simp; omega)) _) | (with_reducible refine Below.alloc ?_ (by first | exact Nat.le_refl _ | omega | (simp; done) | (simp; omega)) _) | with_reducible refine Below.drew ?_ | with_reducible refine bel_drewN ?_ _ | (with_reducible refine bel_by (by with_reducible assumption) (by first | exact Nat.le_refl _ | omega | (simp; done) | (simp; omega)) ?_)))
  obtain ⟨g, rfl, hbC⟩ := hcut
  have d0 := (hbC.cell (p := ⟨b, 0, none⟩) lt).trans c0
  have d1 := (hbC.cell (p := ⟨b, 1, none⟩) lt).trans c1
  have hconv : ∀ W, (convert 53 9 (.slice (some ⟨g, 0, none⟩) 0 0)).run Tryd.prog W = .ok (.string ⟨#[]⟩) W := fun W => run_convert_bytes_back W _ _ 5 ⟨g, 0, none⟩ 0 [] Tryd.underlying53 Tryd.underlying5 Tryd.underlying9 (fun j hj => absurd hj (by simp))
  have HB := Lib.hid hbC
  clear hRep c0 c1 c2 hbC
  go_wp2
  go_loopw [4, 5] (fun s4 s5 wr => s4 = .int .i64 0 ∧ s5 = .pointer none ∧ Below w.heap.size w wr) (fun _ _ _ => 0)
  case atStart => exact ⟨rfl, rfl, HB.out⟩
  case round =>
    obtain ⟨rfl, rfl, hbel⟩ := hrel
    go_wp2
    go_ret
    exact ⟨rfl, hbel⟩

theorem wat_new (w : World) (t : TypeId) : WAt (w.alloc (.cells #[.pointer none, .int .i64 0, .int .i64 0] t)) w.heap.size [] 0 :=
  ⟨⟨.pointer none, by simp [go_sem], rfl⟩, by simp [go_sem, sumLen], by simp [go_sem], fun o => by simp [go_sem], by simp⟩
theorem But.below {B b : Nat} {w w1 w2 : World} (h : Below B w w1) (k : But b w1 w2) (hb : B ≤ b) (hB : B ≤ w.heap.size) : Below B w w2 :=
  ⟨k.os.trans h.os, k.tape.trans h.tape, k.output.trans h.output, Nat.le_trans h.size k.size, fun i hi => by
    have := h.size
    exact (k.block i (by omega) (by omega)).trans (h.block i hi)⟩
theorem sumLen_zero {l : List ByteArray} (h : sumLen l = 0) (hne : ∀ t ∈ l, 0 < t.size) : l = [] := by
  cases l with
  | nil => rfl
  | cons t l =>
    have e : sumLen (t :: l) = t.size + sumLen l := by simp [sumLen]
    have := hne t (by simp)
    omega
theorem data_any (b : Nat) (l : List ByteArray) (o : Nat) (w : World) (hW : WAt w b l o) (hs : sumLen l + o ≤ 1099511627776) (hne : ∀ t ∈ l, 0 < t.size) :
    Calls Tryd.prog 8 #[.pointer (some ⟨b, 0, none⟩)] w fun e w' => e = .returned (.string (dataS l o)) ∧ Below w.heap.size w w' := by
  by_cases h : 0 < sumLen l + o
  · exact data_pos b l o w hW hs hne h
  · obtain rfl : o = 0 := by omega
    obtain rfl := sumLen_zero (by omega) hne
    exact data_zero b w hW
end Go.Proofs.YtljeialaefmbmaaDoor
