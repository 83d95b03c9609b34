/- Contracts of the reference of fractions, second part: the long division. -/
import Derived.Test.YtbjmibaepccbeaaRefM
import Derived.StillTailTactics
import Derived.WalkSmall
import Derived.BigRegion
set_option linter.unusedSimpArgs false
set_option linter.unusedVariables false
namespace Go.Proofs.Ytbjmibaepccbeaa
open Go.RowKit

/-- what the variables of the long division hold -/
structure LD (w wr : World) (ah al bh bl q r : Int) : Prop where
  ca0 : wr.cell? ⟨w.heap.size, 0, none⟩ = some (.int .u64 ah)
  ca1 : wr.cell? ⟨w.heap.size, 1, none⟩ = some (.int .u64 al)
  cb0 : wr.cell? ⟨w.heap.size + 1, 0, none⟩ = some (.int .u64 bh)
  cb1 : wr.cell? ⟨w.heap.size + 1, 1, none⟩ = some (.int .u64 bl)
  cx0 : wr.cell? ⟨w.heap.size + 1 + 1, 0, none⟩ = some (.int .u64 0)
  cx1 : wr.cell? ⟨w.heap.size + 1 + 1, 1, none⟩ = some (.int .u64 0)
  cy0 : wr.cell? ⟨w.heap.size + 1 + 1 + 1, 0, none⟩ = some (.int .u64 0)
  cy1 : wr.cell? ⟨w.heap.size + 1 + 1 + 1, 1, none⟩ = some (.int .u64 0)
  cq0 : wr.cell? ⟨w.heap.size + 1 + 1 + 1 + 1, 0, none⟩ = some (.int .u64 (hiW q))
  cq1 : wr.cell? ⟨w.heap.size + 1 + 1 + 1 + 1, 1, none⟩ = some (.int .u64 (loW q))
  cr0 : wr.cell? ⟨w.heap.size + 1 + 1 + 1 + 1 + 1, 0, none⟩ = some (.int .u64 (hiW r))
  cr1 : wr.cell? ⟨w.heap.size + 1 + 1 + 1 + 1 + 1, 1, none⟩ = some (.int .u64 (loW r))
  f20 : wr.frozen? ⟨w.heap.size + 1 + 1, 0, none⟩ = false
  f21 : wr.frozen? ⟨w.heap.size + 1 + 1, 1, none⟩ = false
  f30 : wr.frozen? ⟨w.heap.size + 1 + 1 + 1, 0, none⟩ = false
  f31 : wr.frozen? ⟨w.heap.size + 1 + 1 + 1, 1, none⟩ = false
  f40 : wr.frozen? ⟨w.heap.size + 1 + 1 + 1 + 1, 0, none⟩ = false
  f41 : wr.frozen? ⟨w.heap.size + 1 + 1 + 1 + 1, 1, none⟩ = false
  f50 : wr.frozen? ⟨w.heap.size + 1 + 1 + 1 + 1 + 1, 0, none⟩ = false
  f51 : wr.frozen? ⟨w.heap.size + 1 + 1 + 1 + 1 + 1, 1, none⟩ = false
  hz : w.heap.size + 6 ≤ wr.heap.size
  hw : Below w.heap.size w wr

theorem LD.below {w wr w' : World} {ah al bh bl q r : Int} (L : LD w wr ah al bh bl q r) (hb : Below wr.heap.size wr w') : LD w w' ah al bh bl q r where
  ca0 := (hb.cell (p := ⟨w.heap.size, 0, none⟩) (by have := L.hz; show w.heap.size < wr.heap.size; omega)).trans L.ca0
  ca1 := (hb.cell (p := ⟨w.heap.size, 1, none⟩) (by have := L.hz; show w.heap.size < wr.heap.size; omega)).trans L.ca1
  cb0 := (hb.cell (p := ⟨w.heap.size + 1, 0, none⟩) (by have := L.hz; show w.heap.size + 1 < wr.heap.size; omega)).trans L.cb0
  cb1 := (hb.cell (p := ⟨w.heap.size + 1, 1, none⟩) (by have := L.hz; show w.heap.size + 1 < wr.heap.size; omega)).trans L.cb1
  cx0 := (hb.cell (p := ⟨w.heap.size + 1 + 1, 0, none⟩) (by have := L.hz; show w.heap.size + 1 + 1 < wr.heap.size; omega)).trans L.cx0
  cx1 := (hb.cell (p := ⟨w.heap.size + 1 + 1, 1, none⟩) (by have := L.hz; show w.heap.size + 1 + 1 < wr.heap.size; omega)).trans L.cx1
  cy0 := (hb.cell (p := ⟨w.heap.size + 1 + 1 + 1, 0, none⟩) (by have := L.hz; show w.heap.size + 1 + 1 + 1 < wr.heap.size; omega)).trans L.cy0
  cy1 := (hb.cell (p := ⟨w.heap.size + 1 + 1 + 1, 1, none⟩) (by have := L.hz; show w.heap.size + 1 + 1 + 1 < wr.heap.size; omega)).trans L.cy1
  cq0 := (hb.cell (p := ⟨w.heap.size + 1 + 1 + 1 + 1, 0, none⟩) (by have := L.hz; show w.heap.size + 1 + 1 + 1 + 1 < wr.heap.size; omega)).trans L.cq0
  cq1 := (hb.cell (p := ⟨w.heap.size + 1 + 1 + 1 + 1, 1, none⟩) (by have := L.hz; show w.heap.size + 1 + 1 + 1 + 1 < wr.heap.size; omega)).trans L.cq1
  cr0 := (hb.cell (p := ⟨w.heap.size + 1 + 1 + 1 + 1 + 1, 0, none⟩) (by have := L.hz; show w.heap.size + 1 + 1 + 1 + 1 + 1 < wr.heap.size; omega)).trans L.cr0
  cr1 := (hb.cell (p := ⟨w.heap.size + 1 + 1 + 1 + 1 + 1, 1, none⟩) (by have := L.hz; show w.heap.size + 1 + 1 + 1 + 1 + 1 < wr.heap.size; omega)).trans L.cr1
  f20 := (hb.frozen (p := ⟨w.heap.size + 1 + 1, 0, none⟩) (by have := L.hz; show w.heap.size + 1 + 1 < wr.heap.size; omega)).trans L.f20
  f21 := (hb.frozen (p := ⟨w.heap.size + 1 + 1, 1, none⟩) (by have := L.hz; show w.heap.size + 1 + 1 < wr.heap.size; omega)).trans L.f21
  f30 := (hb.frozen (p := ⟨w.heap.size + 1 + 1 + 1, 0, none⟩) (by have := L.hz; show w.heap.size + 1 + 1 + 1 < wr.heap.size; omega)).trans L.f30
  f31 := (hb.frozen (p := ⟨w.heap.size + 1 + 1 + 1, 1, none⟩) (by have := L.hz; show w.heap.size + 1 + 1 + 1 < wr.heap.size; omega)).trans L.f31
  f40 := (hb.frozen (p := ⟨w.heap.size + 1 + 1 + 1 + 1, 0, none⟩) (by have := L.hz; show w.heap.size + 1 + 1 + 1 + 1 < wr.heap.size; omega)).trans L.f40
  f41 := (hb.frozen (p := ⟨w.heap.size + 1 + 1 + 1 + 1, 1, none⟩) (by have := L.hz; show w.heap.size + 1 + 1 + 1 + 1 < wr.heap.size; omega)).trans L.f41
  f50 := (hb.frozen (p := ⟨w.heap.size + 1 + 1 + 1 + 1 + 1, 0, none⟩) (by have := L.hz; show w.heap.size + 1 + 1 + 1 + 1 + 1 < wr.heap.size; omega)).trans L.f50
  f51 := (hb.frozen (p := ⟨w.heap.size + 1 + 1 + 1 + 1 + 1, 1, none⟩) (by have := L.hz; show w.heap.size + 1 + 1 + 1 + 1 + 1 < wr.heap.size; omega)).trans L.f51
  hz := Nat.le_trans L.hz hb.size
  hw := L.hw.trans (hb.mono L.hw.size)

set_option maxHeartbeats 2000000 in
theorem LD.shift {w wr : World} {ah al bh bl q r : Int} (q' r' : Int) (L : LD w wr ah al bh bl q r) : LD w ((((wr.setCell ⟨w.heap.size + 1 + 1 + 1 + 1 + 1, 0, none⟩ (.int .u64 (hiW r'))).setCell ⟨w.heap.size + 1 + 1 + 1 + 1 + 1, 1, none⟩ (.int .u64 (loW r'))).setCell ⟨w.heap.size + 1 + 1 + 1 + 1, 0, none⟩ (.int .u64 (hiW q'))).setCell ⟨w.heap.size + 1 + 1 + 1 + 1, 1, none⟩ (.int .u64 (loW q'))) ah al bh bl q' r' where
  ca0 := by simp [go_sem, L.ca0, L.ca1, L.cb0, L.cb1, L.cx0, L.cx1, L.cy0, L.cy1, L.cq0, L.cq1, L.cr0, L.cr1, L.f20, L.f21, L.f30, L.f31, L.f40, L.f41, L.f50, L.f51]
  ca1 := by simp [go_sem, L.ca0, L.ca1, L.cb0, L.cb1, L.cx0, L.cx1, L.cy0, L.cy1, L.cq0, L.cq1, L.cr0, L.cr1, L.f20, L.f21, L.f30, L.f31, L.f40, L.f41, L.f50, L.f51]
  cb0 := by simp [go_sem, L.ca0, L.ca1, L.cb0, L.cb1, L.cx0, L.cx1, L.cy0, L.cy1, L.cq0, L.cq1, L.cr0, L.cr1, L.f20, L.f21, L.f30, L.f31, L.f40, L.f41, L.f50, L.f51]
  cb1 := by simp [go_sem, L.ca0, L.ca1, L.cb0, L.cb1, L.cx0, L.cx1, L.cy0, L.cy1, L.cq0, L.cq1, L.cr0, L.cr1, L.f20, L.f21, L.f30, L.f31, L.f40, L.f41, L.f50, L.f51]
  cx0 := by simp [go_sem, L.ca0, L.ca1, L.cb0, L.cb1, L.cx0, L.cx1, L.cy0, L.cy1, L.cq0, L.cq1, L.cr0, L.cr1, L.f20, L.f21, L.f30, L.f31, L.f40, L.f41, L.f50, L.f51]
  cx1 := by simp [go_sem, L.ca0, L.ca1, L.cb0, L.cb1, L.cx0, L.cx1, L.cy0, L.cy1, L.cq0, L.cq1, L.cr0, L.cr1, L.f20, L.f21, L.f30, L.f31, L.f40, L.f41, L.f50, L.f51]
  cy0 := by simp [go_sem, L.ca0, L.ca1, L.cb0, L.cb1, L.cx0, L.cx1, L.cy0, L.cy1, L.cq0, L.cq1, L.cr0, L.cr1, L.f20, L.f21, L.f30, L.f31, L.f40, L.f41, L.f50, L.f51]
  cy1 := by simp [go_sem, L.ca0, L.ca1, L.cb0, L.cb1, L.cx0, L.cx1, L.cy0, L.cy1, L.cq0, L.cq1, L.cr0, L.cr1, L.f20, L.f21, L.f30, L.f31, L.f40, L.f41, L.f50, L.f51]
  cq0 := by simp [go_sem, L.ca0, L.ca1, L.cb0, L.cb1, L.cx0, L.cx1, L.cy0, L.cy1, L.cq0, L.cq1, L.cr0, L.cr1, L.f20, L.f21, L.f30, L.f31, L.f40, L.f41, L.f50, L.f51]
  cq1 := by simp [go_sem, L.ca0, L.ca1, L.cb0, L.cb1, L.cx0, L.cx1, L.cy0, L.cy1, L.cq0, L.cq1, L.cr0, L.cr1, L.f20, L.f21, L.f30, L.f31, L.f40, L.f41, L.f50, L.f51]
  cr0 := by simp [go_sem, L.ca0, L.ca1, L.cb0, L.cb1, L.cx0, L.cx1, L.cy0, L.cy1, L.cq0, L.cq1, L.cr0, L.cr1, L.f20, L.f21, L.f30, L.f31, L.f40, L.f41, L.f50, L.f51]
  cr1 := by simp [go_sem, L.ca0, L.ca1, L.cb0, L.cb1, L.cx0, L.cx1, L.cy0, L.cy1, L.cq0, L.cq1, L.cr0, L.cr1, L.f20, L.f21, L.f30, L.f31, L.f40, L.f41, L.f50, L.f51]
  f20 := by simp [go_sem, L.ca0, L.ca1, L.cb0, L.cb1, L.cx0, L.cx1, L.cy0, L.cy1, L.cq0, L.cq1, L.cr0, L.cr1, L.f20, L.f21, L.f30, L.f31, L.f40, L.f41, L.f50, L.f51]
  f21 := by simp [go_sem, L.ca0, L.ca1, L.cb0, L.cb1, L.cx0, L.cx1, L.cy0, L.cy1, L.cq0, L.cq1, L.cr0, L.cr1, L.f20, L.f21, L.f30, L.f31, L.f40, L.f41, L.f50, L.f51]
  f30 := by simp [go_sem, L.ca0, L.ca1, L.cb0, L.cb1, L.cx0, L.cx1, L.cy0, L.cy1, L.cq0, L.cq1, L.cr0, L.cr1, L.f20, L.f21, L.f30, L.f31, L.f40, L.f41, L.f50, L.f51]
  f31 := by simp [go_sem, L.ca0, L.ca1, L.cb0, L.cb1, L.cx0, L.cx1, L.cy0, L.cy1, L.cq0, L.cq1, L.cr0, L.cr1, L.f20, L.f21, L.f30, L.f31, L.f40, L.f41, L.f50, L.f51]
  f40 := by simp [go_sem, L.ca0, L.ca1, L.cb0, L.cb1, L.cx0, L.cx1, L.cy0, L.cy1, L.cq0, L.cq1, L.cr0, L.cr1, L.f20, L.f21, L.f30, L.f31, L.f40, L.f41, L.f50, L.f51]
  f41 := by simp [go_sem, L.ca0, L.ca1, L.cb0, L.cb1, L.cx0, L.cx1, L.cy0, L.cy1, L.cq0, L.cq1, L.cr0, L.cr1, L.f20, L.f21, L.f30, L.f31, L.f40, L.f41, L.f50, L.f51]
  f50 := by simp [go_sem, L.ca0, L.ca1, L.cb0, L.cb1, L.cx0, L.cx1, L.cy0, L.cy1, L.cq0, L.cq1, L.cr0, L.cr1, L.f20, L.f21, L.f30, L.f31, L.f40, L.f41, L.f50, L.f51]
  f51 := by simp [go_sem, L.ca0, L.ca1, L.cb0, L.cb1, L.cx0, L.cx1, L.cy0, L.cy1, L.cq0, L.cq1, L.cr0, L.cr1, L.f20, L.f21, L.f30, L.f31, L.f40, L.f41, L.f50, L.f51]
  hz := by have := L.hz; simp; omega
  hw := ((((L.hw.setCell (p := ⟨w.heap.size + 1 + 1 + 1 + 1 + 1, 0, none⟩) (show w.heap.size ≤ w.heap.size + 1 + 1 + 1 + 1 + 1 by omega) _).setCell (p := ⟨w.heap.size + 1 + 1 + 1 + 1 + 1, 1, none⟩) (show w.heap.size ≤ w.heap.size + 1 + 1 + 1 + 1 + 1 by omega) _).setCell (p := ⟨w.heap.size + 1 + 1 + 1 + 1, 0, none⟩) (show w.heap.size ≤ w.heap.size + 1 + 1 + 1 + 1 by omega) _).setCell (p := ⟨w.heap.size + 1 + 1 + 1 + 1, 1, none⟩) (show w.heap.size ≤ w.heap.size + 1 + 1 + 1 + 1 by omega) _)

set_option maxHeartbeats 2000000 in
theorem LD.minus {w wr : World} {ah al bh bl q r : Int} (q' r' : Int) (hq : hiW q = hiW q') (L : LD w wr ah al bh bl q r) : LD w (((wr.setCell ⟨w.heap.size + 1 + 1 + 1 + 1 + 1, 0, none⟩ (.int .u64 (hiW r'))).setCell ⟨w.heap.size + 1 + 1 + 1 + 1 + 1, 1, none⟩ (.int .u64 (loW r'))).setCell ⟨w.heap.size + 1 + 1 + 1 + 1, 1, none⟩ (.int .u64 (loW q'))) ah al bh bl q' r' where
  ca0 := by simp [go_sem, L.ca0, L.ca1, L.cb0, L.cb1, L.cx0, L.cx1, L.cy0, L.cy1, L.cq0, L.cq1, L.cr0, L.cr1, L.f20, L.f21, L.f30, L.f31, L.f40, L.f41, L.f50, L.f51]
  ca1 := by simp [go_sem, L.ca0, L.ca1, L.cb0, L.cb1, L.cx0, L.cx1, L.cy0, L.cy1, L.cq0, L.cq1, L.cr0, L.cr1, L.f20, L.f21, L.f30, L.f31, L.f40, L.f41, L.f50, L.f51]
  cb0 := by simp [go_sem, L.ca0, L.ca1, L.cb0, L.cb1, L.cx0, L.cx1, L.cy0, L.cy1, L.cq0, L.cq1, L.cr0, L.cr1, L.f20, L.f21, L.f30, L.f31, L.f40, L.f41, L.f50, L.f51]
  cb1 := by simp [go_sem, L.ca0, L.ca1, L.cb0, L.cb1, L.cx0, L.cx1, L.cy0, L.cy1, L.cq0, L.cq1, L.cr0, L.cr1, L.f20, L.f21, L.f30, L.f31, L.f40, L.f41, L.f50, L.f51]
  cx0 := by simp [go_sem, L.ca0, L.ca1, L.cb0, L.cb1, L.cx0, L.cx1, L.cy0, L.cy1, L.cq0, L.cq1, L.cr0, L.cr1, L.f20, L.f21, L.f30, L.f31, L.f40, L.f41, L.f50, L.f51]
  cx1 := by simp [go_sem, L.ca0, L.ca1, L.cb0, L.cb1, L.cx0, L.cx1, L.cy0, L.cy1, L.cq0, L.cq1, L.cr0, L.cr1, L.f20, L.f21, L.f30, L.f31, L.f40, L.f41, L.f50, L.f51]
  cy0 := by simp [go_sem, L.ca0, L.ca1, L.cb0, L.cb1, L.cx0, L.cx1, L.cy0, L.cy1, L.cq0, L.cq1, L.cr0, L.cr1, L.f20, L.f21, L.f30, L.f31, L.f40, L.f41, L.f50, L.f51]
  cy1 := by simp [go_sem, L.ca0, L.ca1, L.cb0, L.cb1, L.cx0, L.cx1, L.cy0, L.cy1, L.cq0, L.cq1, L.cr0, L.cr1, L.f20, L.f21, L.f30, L.f31, L.f40, L.f41, L.f50, L.f51]
  cq0 := by simp [go_sem, L.ca0, L.ca1, L.cb0, L.cb1, L.cx0, L.cx1, L.cy0, L.cy1, L.cq0, L.cq1, L.cr0, L.cr1, L.f20, L.f21, L.f30, L.f31, L.f40, L.f41, L.f50, L.f51, hq]
  cq1 := by simp [go_sem, L.ca0, L.ca1, L.cb0, L.cb1, L.cx0, L.cx1, L.cy0, L.cy1, L.cq0, L.cq1, L.cr0, L.cr1, L.f20, L.f21, L.f30, L.f31, L.f40, L.f41, L.f50, L.f51]
  cr0 := by simp [go_sem, L.ca0, L.ca1, L.cb0, L.cb1, L.cx0, L.cx1, L.cy0, L.cy1, L.cq0, L.cq1, L.cr0, L.cr1, L.f20, L.f21, L.f30, L.f31, L.f40, L.f41, L.f50, L.f51]
  cr1 := by simp [go_sem, L.ca0, L.ca1, L.cb0, L.cb1, L.cx0, L.cx1, L.cy0, L.cy1, L.cq0, L.cq1, L.cr0, L.cr1, L.f20, L.f21, L.f30, L.f31, L.f40, L.f41, L.f50, L.f51]
  f20 := by simp [go_sem, L.ca0, L.ca1, L.cb0, L.cb1, L.cx0, L.cx1, L.cy0, L.cy1, L.cq0, L.cq1, L.cr0, L.cr1, L.f20, L.f21, L.f30, L.f31, L.f40, L.f41, L.f50, L.f51]
  f21 := by simp [go_sem, L.ca0, L.ca1, L.cb0, L.cb1, L.cx0, L.cx1, L.cy0, L.cy1, L.cq0, L.cq1, L.cr0, L.cr1, L.f20, L.f21, L.f30, L.f31, L.f40, L.f41, L.f50, L.f51]
  f30 := by simp [go_sem, L.ca0, L.ca1, L.cb0, L.cb1, L.cx0, L.cx1, L.cy0, L.cy1, L.cq0, L.cq1, L.cr0, L.cr1, L.f20, L.f21, L.f30, L.f31, L.f40, L.f41, L.f50, L.f51]
  f31 := by simp [go_sem, L.ca0, L.ca1, L.cb0, L.cb1, L.cx0, L.cx1, L.cy0, L.cy1, L.cq0, L.cq1, L.cr0, L.cr1, L.f20, L.f21, L.f30, L.f31, L.f40, L.f41, L.f50, L.f51]
  f40 := by simp [go_sem, L.ca0, L.ca1, L.cb0, L.cb1, L.cx0, L.cx1, L.cy0, L.cy1, L.cq0, L.cq1, L.cr0, L.cr1, L.f20, L.f21, L.f30, L.f31, L.f40, L.f41, L.f50, L.f51]
  f41 := by simp [go_sem, L.ca0, L.ca1, L.cb0, L.cb1, L.cx0, L.cx1, L.cy0, L.cy1, L.cq0, L.cq1, L.cr0, L.cr1, L.f20, L.f21, L.f30, L.f31, L.f40, L.f41, L.f50, L.f51]
  f50 := by simp [go_sem, L.ca0, L.ca1, L.cb0, L.cb1, L.cx0, L.cx1, L.cy0, L.cy1, L.cq0, L.cq1, L.cr0, L.cr1, L.f20, L.f21, L.f30, L.f31, L.f40, L.f41, L.f50, L.f51]
  f51 := by simp [go_sem, L.ca0, L.ca1, L.cb0, L.cb1, L.cx0, L.cx1, L.cy0, L.cy1, L.cq0, L.cq1, L.cr0, L.cr1, L.f20, L.f21, L.f30, L.f31, L.f40, L.f41, L.f50, L.f51]
  hz := by have := L.hz; simp; omega
  hw := (((L.hw.setCell (p := ⟨w.heap.size + 1 + 1 + 1 + 1 + 1, 0, none⟩) (show w.heap.size ≤ w.heap.size + 1 + 1 + 1 + 1 + 1 by omega) _).setCell (p := ⟨w.heap.size + 1 + 1 + 1 + 1 + 1, 1, none⟩) (show w.heap.size ≤ w.heap.size + 1 + 1 + 1 + 1 + 1 by omega) _).setCell (p := ⟨w.heap.size + 1 + 1 + 1 + 1, 1, none⟩) (show w.heap.size ≤ w.heap.size + 1 + 1 + 1 + 1 by omega) _)

theorem and_one (x : Int) (h : 0 ≤ x) (h' : x ≤ 18446744073709551615) : bits .and .u64 x 1 = x % 2 := by
  obtain ⟨n, rfl⟩ := Int.eq_ofNat_of_zero_le h
  rw [show (1 : Int) = ((1 : Nat) : Int) from rfl, u64_and_nat _ _ (by omega) (by omega), Nat.and_one_is_mod]
  omega
theorem or_one (x B : Int) (h : 0 ≤ x) (h' : x ≤ 9223372036854775807) (B0 : 0 ≤ B) (B1 : B ≤ 1) : bits .or .u64 (x * 2) B = x * 2 + B := by
  obtain ⟨n, rfl⟩ := Int.eq_ofNat_of_zero_le h
  obtain ⟨m, rfl⟩ := Int.eq_ofNat_of_zero_le B0
  rw [show (n : Int) * 2 = ((n * 2 : Nat) : Int) from by omega, u64_or_nat _ _ (by omega) (by omega)]
  have e : n * 2 ||| m = n * 2 + m := by
    have h2 := Nat.shiftLeft_add_eq_or_of_lt (i := 1) (b := m) (by omega) n
    rw [Nat.shiftLeft_eq] at h2
    simpa using h2.symm
  rw [e]; omega

theorem shl_or {x B : Int} (x0 : 0 ≤ x) (x1 : x < 170141183460469231731687303715884105728) (B0 : 0 ≤ B) (B1 : B ≤ 1) :
    bits .or .u64 (IntKind.u64.wrap (hiW x * 2)) (loW x / 9223372036854775808) = hiW (x * 2 + B) ∧ bits .or .u64 (IntKind.u64.wrap (loW x * 2)) B = loW (x * 2 + B) ∧ IntKind.u64.wrap (loW x * 2) = loW (x * 2) := by
  have e1 : IntKind.u64.wrap (hiW x * 2) = hiW x * 2 := IntWalk.u64_in _ (by unfold hiW; omega)
  have e2 : IntKind.u64.wrap (loW x * 2) = loW x % 9223372036854775808 * 2 := by rw [IntKind.wrap_u64]; unfold loW; omega
  have o1 := or_one (hiW x) (loW x / 9223372036854775808) (by unfold hiW; omega) (by unfold hiW; omega) (by unfold loW; omega) (by unfold loW; omega)
  have o2 := or_one (loW x % 9223372036854775808) B (by omega) (by omega) B0 B1
  rw [e1, e2, o1, o2]
  unfold hiW loW
  omega

set_option maxHeartbeats 8000000 in
set_option maxRecDepth 100000 in
theorem rdivide_any (ah al bh bl : Int) (h1 : 0 ≤ ah) (h1' : ah ≤ 18446744073709551615) (h2 : 0 ≤ al) (h2' : al ≤ 18446744073709551615) (h3 : 0 ≤ bh) (h3' : bh ≤ 9223372036854775807) (h4 : 0 ≤ bl) (h4' : bl ≤ 18446744073709551615)
    (hb : 0 < valW bh bl) (w : World) :
    Calls Try.prog 74 #[.agg #[.int .u64 ah, .int .u64 al], .agg #[.int .u64 bh, .int .u64 bl]] w fun e w' =>
      e = .returned (.tuple #[.agg #[.int .u64 (hiW (valW ah al / valW bh bl)), .int .u64 (loW (valW ah al / valW bh bl))], .agg #[.int .u64 (hiW (valW ah al % valW bh bl)), .int .u64 (loW (valW ah al % valW bh bl))]]) ∧ Below w.heap.size w w' := by
  obtain ⟨A, hA⟩ : ∃ A, A = valW ah al := ⟨_, rfl⟩
  obtain ⟨b, hbv⟩ : ∃ b, b = valW bh bl := ⟨_, rfl⟩
  rw [← hA, ← hbv]
  rw [← hbv] at hb
  have b128 : b < 170141183460469231731687303715884105728 := by rw [hbv]; unfold valW; omega
  have HA := Lib.hid hA
  have HB := Lib.hid hbv
  clear hA hbv
  go_enter Try.func74, Try.ntmps74
  go_wp2_with fail
  go_loopw [8] (fun s8 wr => ∃ (i : Int) (q r : Int), s8 = .int .i64 i ∧ -1 ≤ i ∧ i ≤ 127 ∧ Hid (q = A / 2 ^ (i + 1).toNat / b) ∧ Hid (r = A / 2 ^ (i + 1).toNat % b) ∧ Hid (LD w wr ah al bh bl q r)) (fun s8 _ => (intOf s8 + 1).toNat)
  case atStart =>
    have z0 : A / 2 ^ ((127 : Int) + 1).toNat = 0 := by
      apply Int.ediv_eq_zero_of_lt
      · rw [HA.out]; exact valW_0 h1 h2
      · rw [HA.out]; exact valW_1 h1' h2'
    have y0 : Hid ((0 : Int) = A / 2 ^ ((127 : Int) + 1).toNat / b) := Lib.hid (by rw [z0]; simp)
    have y1 : Hid ((0 : Int) = A / 2 ^ ((127 : Int) + 1).toNat % b) := Lib.hid (by rw [z0]; simp)
    refine ⟨127, 0, 0, rfl, by omega, by omega, y0, y1, Lib.hid ?_⟩
    exact ⟨by simp [go_sem], by simp [go_sem], by simp [go_sem], by simp [go_sem], by simp [go_sem], by simp [go_sem], by simp [go_sem], by simp [go_sem], by simp [go_sem]; rfl, by simp [go_sem]; rfl, by simp [go_sem]; rfl, by simp [go_sem]; rfl, by simp [go_sem], by simp [go_sem], by simp [go_sem], by simp [go_sem], by simp [go_sem], by simp [go_sem], by simp [go_sem], by simp [go_sem], by simp, (by repeat (first | with_reducible exact Below.refl _ _ | (with_reducible refine Below.setCell ?_ (by first | exact Nat.le_refl _ | omega | (simp; done) | (simp; omega)) _) | (with_reducible refine Below.alloc ?_ (by first | exact Nat.le_refl _ | omega | (simp; done) | (simp; omega)) _) | with_reducible refine Below.drew ?_ | with_reducible refine bel_drewN ?_ _ | (with_reducible refine bel_by (by with_reducible assumption) (by first | exact Nat.le_refl _ | omega | (simp; done) | (simp; omega)) ?_)))⟩
  case round =>
    obtain ⟨i, q, r, rfl, i0, i1, HQ, HR, HL⟩ := hrel
    by_cases hi : i = -1
    · subst hi
      have L := HL.out
      have ca0 := L.ca0
      have ca1 := L.ca1
      have cb0 := L.cb0
      have cb1 := L.cb1
      have cx0 := L.cx0
      have cx1 := L.cx1
      have cy0 := L.cy0
      have cy1 := L.cy1
      have cq0 := L.cq0
      have cq1 := L.cq1
      have cr0 := L.cr0
      have cr1 := L.cr1
      have f20 := L.f20
      have f21 := L.f21
      have f30 := L.f30
      have f31 := L.f31
      have f40 := L.f40
      have f41 := L.f41
      have f50 := L.f50
      have f51 := L.f51
      have hW := L.hw
      have hzw := L.hz
      clear L
      have e0 : q = A / b := by rw [HQ.out]; simp
      have e1 : r = A % b := by rw [HR.out]; simp
      have E0 := Lib.hid e0
      have E1 := Lib.hid e1
      clear e0 e1
      go_wp2_with fail
      go_region
      all_goals
        go_wp2
        refine bodyPost_ret (v := .tuple #[.agg #[.int .u64 (hiW q), .int .u64 (loW q)], .agg #[.int .u64 (hiW r), .int .u64 (loW r)]]) (by simp [results, Try.results74, go_sem, ca0, ca1, cb0, cb1, cx0, cx1, cy0, cy1, cq0, cq1, cr0, cr1, f20, f21, f30, f31, f40, f41, f50, f51]) rfl ⟨by rw [← E0.out, ← E1.out], (by repeat (first | with_reducible exact Below.refl _ _ | (with_reducible refine Below.setCell ?_ (by first | exact Nat.le_refl _ | omega | (simp; done) | (simp; omega)) _) | (with_reducible refine Below.alloc ?_ (by first | exact Nat.le_refl _ | omega | (simp; done) | (simp; omega)) _) | with_reducible refine Below.drew ?_ | with_reducible refine bel_drewN ?_ _ | (with_reducible refine bel_by (by with_reducible assumption) (by first | exact Nat.le_refl _ | omega | (simp; done) | (simp; omega)) ?_)))⟩
    · have r0 : 0 ≤ r := by rw [HR.out]; exact Int.emod_nonneg _ (by omega)
      have r1 : r < b := by rw [HR.out]; exact Int.emod_lt_of_pos _ hb
      have i2 : 0 ≤ i := by omega
      clear i0 hi
      obtain ⟨n, rfl⟩ := Int.eq_ofNat_of_zero_le i2
      have A0 : 0 ≤ A := by rw [HA.out]; exact valW_0 h1 h2
      have A1 : A < B128 := by rw [HA.out]; exact valW_1 h1' h2'
      have q0 : 0 ≤ q := by rw [HQ.out]; exact Int.ediv_nonneg (Int.ediv_nonneg A0 (Int.le_of_lt (Int.pow_pos (by decide)))) (by omega)
      have q1 : q < 170141183460469231731687303715884105728 := by
        rw [HQ.out]
        refine Int.lt_of_le_of_lt (Int.ediv_le_self _ (Int.ediv_nonneg A0 (Int.le_of_lt (Int.pow_pos (by decide))))) ?_
        rw [show ((n : Int) + 1).toNat = n + 1 from by omega, Int.pow_succ, ← Int.ediv_ediv_of_nonneg (Int.le_of_lt (Int.pow_pos (by decide)))]
        have : A / 2 ^ n ≤ A := Int.ediv_le_self _ A0
        unfold B128 at A1
        omega
      have ways : ∃ B : Int, Hid (A / 2 ^ n = A / 2 ^ (n + 1) * 2 + B) ∧ 0 ≤ B ∧ B ≤ 1 ∧ ((n : Int) < 64 ∧ bits .and .u64 (al / 2 ^ (n % 64)) 1 = B ∨ 64 ≤ (n : Int) ∧ bits .and .u64 (ah / 2 ^ (n % 64)) 1 = B) := by
        by_cases t : n < 64
        · refine ⟨al / 2 ^ n % 2, Lib.hid ?_, by omega, by omega, .inl ⟨by omega, ?_⟩⟩
          · rw [HA.out]; exact Ld.bit_lo ah al n t
          · rw [Nat.mod_eq_of_lt t]; exact and_one _ (Int.ediv_nonneg h2 (Int.le_of_lt (Int.pow_pos (by decide)))) (Int.le_trans (Int.ediv_le_self _ h2) h2')
        · refine ⟨ah / 2 ^ (n - 64) % 2, Lib.hid ?_, by omega, by omega, .inr ⟨by omega, ?_⟩⟩
          · rw [HA.out]; exact Ld.bit_hi ah al n h2 h2' (by omega)
          · rw [show n % 64 = n - 64 from by omega]; exact and_one _ (Int.ediv_nonneg h1 (Int.le_of_lt (Int.pow_pos (by decide)))) (Int.le_trans (Int.ediv_le_self _ h1) h1')
      obtain ⟨Bt, HBit, B0, B1, ways⟩ := ways
      obtain ⟨R1, R2, -⟩ := shl_or r0 (show r < 170141183460469231731687303715884105728 by omega) B0 B1
      obtain ⟨R3, -, R4⟩ := shl_or q0 q1 (Int.le_refl 0) (show (0 : Int) ≤ 1 by decide)
      rw [Int.add_zero] at R3
      obtain ⟨st1, st2⟩ := Ld.step (A / 2 ^ (n + 1)) Bt b hb B0 B1
      have en : ((n : Int) + 1).toNat = n + 1 := by omega
      have en2 : ((n : Int) - 1 + 1).toNat = n := by omega
      rw [← HBit.out, show A / 2 ^ (n + 1) % b = r from by rw [HR.out, en], show A / 2 ^ (n + 1) / b = q from by rw [HQ.out, en]] at st1 st2
      have HL2 := Lib.hid (HL.out.shift (q * 2) (r * 2 + Bt))
      have rr0 : 0 ≤ r * 2 + Bt := by omega
      have rr1 : r * 2 + Bt < B128 := by unfold B128; omega
      have rr2 : r * 2 + Bt < b * 2 := by omega
      have qq1 : hiW (q * 2) = hiW (q * 2 + 1) ∧ bits .or .u64 (loW (q * 2)) 1 = loW (q * 2 + 1) := by
        have o := or_one (q % 9223372036854775808) 1 (by omega) (by omega) (by decide) (by decide)
        rw [show q % 9223372036854775808 * 2 = loW (q * 2) from by unfold loW; omega] at o
        rw [o]
        unfold hiW loW
        omega
      generalize r * 2 + Bt = rr at *
      generalize q * 2 = qq at *
      have ST1 := Lib.hid st1
      have ST2 := Lib.hid st2
      obtain ⟨qq1, R5⟩ := qq1
      have QQ1 := Lib.hid qq1
      have bh0 : hiW b = bh := by rw [HB.out]; exact hiW_valW h4 h4'
      have bl0 : loW b = bl := by rw [HB.out]; exact loW_valW h4 h4'
      have LS := Lib.hid (fun W => rless_any (hiW rr) (loW rr) bh bl (hiW_0 rr0) (hiW_1 rr1) (loW_0 _) (loW_1 _) h3 (by omega) h4 h4' W)
      have MN := Lib.hid (fun (h : b ≤ rr) W => rminus_any (hiW rr) (loW rr) bh bl (hiW_0 rr0) (hiW_1 rr1) (loW_0 _) (loW_1 _) h3 (by omega) h4 h4' (by rw [valW_words, ← HB.out]; exact h) W)
      rw [valW_words, ← HB.out] at LS MN
      clear st1 st2 en en2 qq1 bh0 bl0 rr0 rr1 rr2 q0 q1 r0 r1 A0 A1 b128 B0 B1
      have L := HL.out
      have ca0 := L.ca0
      have ca1 := L.ca1
      have cb0 := L.cb0
      have cb1 := L.cb1
      have cx0 := L.cx0
      have cx1 := L.cx1
      have cy0 := L.cy0
      have cy1 := L.cy1
      have cq0 := L.cq0
      have cq1 := L.cq1
      have cr0 := L.cr0
      have cr1 := L.cr1
      have f20 := L.f20
      have f21 := L.f21
      have f30 := L.f30
      have f31 := L.f31
      have f40 := L.f40
      have f41 := L.f41
      have f50 := L.f50
      have f51 := L.f51
      clear L
      by_cases hlt : rr < b
      · rw [show decide (rr < b) = true from by simpa using hlt] at LS
        have HST := Lib.hid (ST1.out hlt)
        clear MN R5
        have HLT := Lib.hid hlt
        clear hlt
        rcases ways with ⟨t, E⟩ | ⟨t, E⟩
        all_goals
          go_upto_region 10 with fail
          clear ca0 ca1 cb0 cb1 cx0 cx1 cy0 cy1 cq0 cq1 cr0 cr1 f20 f21 f30 f31 f40 f41 f50 f51
          have L := HL2.out
          have ca0 := L.ca0
          have ca1 := L.ca1
          have cb0 := L.cb0
          have cb1 := L.cb1
          have cx0 := L.cx0
          have cx1 := L.cx1
          have cy0 := L.cy0
          have cy1 := L.cy1
          have cq0 := L.cq0
          have cq1 := L.cq1
          have cr0 := L.cr0
          have cr1 := L.cr1
          have f20 := L.f20
          have f21 := L.f21
          have f30 := L.f30
          have f31 := L.f31
          have f40 := L.f40
          have f41 := L.f41
          have f50 := L.f50
          have f51 := L.f51
          have hzr := L.hz
          generalize ((((wr.setCell ⟨w.heap.size + 1 + 1 + 1 + 1 + 1, 0, none⟩ (.int .u64 (hiW rr))).setCell ⟨w.heap.size + 1 + 1 + 1 + 1 + 1, 1, none⟩ (.int .u64 (loW rr))).setCell ⟨w.heap.size + 1 + 1 + 1 + 1, 0, none⟩ (.int .u64 (hiW qq))).setCell ⟨w.heap.size + 1 + 1 + 1 + 1, 1, none⟩ (.int .u64 (loW qq))) = wD at L ca0 ca1 cb0 cb1 cx0 cx1 cy0 cy1 cq0 cq1 cr0 cr1 f20 f21 f30 f31 f40 f41 f50 f51 hzr ⊢
          have HL3 := Lib.hid L
          clear L
          go_wp2_with fail
          refine (LS.out _).mono ?_
          rintro e w7 ⟨rfl, hb7⟩
          have L7 := Lib.hid (HL3.out.below hb7)
          clear HL3 ca0 ca1 cb0 cb1 cx0 cx1 cy0 cy1 cq0 cq1 cr0 cr1 f20 f21 f30 f31 f40 f41 f50 f51 hzr hb7
          go_wp2
          go_roundw
          case rel => exact ⟨(n : Int) - 1, qq, rr, rfl, by omega, by omega, Lib.hid (by rw [show ((n : Int) - 1 + 1).toNat = n from by omega, HST.out.1]), Lib.hid (by rw [show ((n : Int) - 1 + 1).toNat = n from by omega, HST.out.2]), L7⟩
          case measure => first | (simp [intOf]; done) | (simp [intOf]; omega)
      · rw [show decide (rr < b) = false from by simpa using hlt] at LS
        have HST := Lib.hid (ST2.out hlt)
        have MN2 := Lib.hid (MN.out (by omega))
        clear MN
        have HLT := Lib.hid hlt
        clear hlt
        rcases ways with ⟨t, E⟩ | ⟨t, E⟩
        all_goals
          go_upto_region 10 with fail
          clear ca0 ca1 cb0 cb1 cx0 cx1 cy0 cy1 cq0 cq1 cr0 cr1 f20 f21 f30 f31 f40 f41 f50 f51
          have L := HL2.out
          have ca0 := L.ca0
          have ca1 := L.ca1
          have cb0 := L.cb0
          have cb1 := L.cb1
          have cx0 := L.cx0
          have cx1 := L.cx1
          have cy0 := L.cy0
          have cy1 := L.cy1
          have cq0 := L.cq0
          have cq1 := L.cq1
          have cr0 := L.cr0
          have cr1 := L.cr1
          have f20 := L.f20
          have f21 := L.f21
          have f30 := L.f30
          have f31 := L.f31
          have f40 := L.f40
          have f41 := L.f41
          have f50 := L.f50
          have f51 := L.f51
          have hzr := L.hz
          generalize ((((wr.setCell ⟨w.heap.size + 1 + 1 + 1 + 1 + 1, 0, none⟩ (.int .u64 (hiW rr))).setCell ⟨w.heap.size + 1 + 1 + 1 + 1 + 1, 1, none⟩ (.int .u64 (loW rr))).setCell ⟨w.heap.size + 1 + 1 + 1 + 1, 0, none⟩ (.int .u64 (hiW qq))).setCell ⟨w.heap.size + 1 + 1 + 1 + 1, 1, none⟩ (.int .u64 (loW qq))) = wD at L ca0 ca1 cb0 cb1 cx0 cx1 cy0 cy1 cq0 cq1 cr0 cr1 f20 f21 f30 f31 f40 f41 f50 f51 hzr ⊢
          have HL3 := Lib.hid L
          clear L
          go_wp2_with fail
          refine (LS.out _).mono ?_
          rintro e w7 ⟨rfl, hb7⟩
          have L7 := HL3.out.below hb7
          clear HL3 ca0 ca1 cb0 cb1 cx0 cx1 cy0 cy1 cq0 cq1 cr0 cr1 f20 f21 f30 f31 f40 f41 f50 f51 hzr hb7
          have L := L7
          have ca0 := L.ca0
          have ca1 := L.ca1
          have cb0 := L.cb0
          have cb1 := L.cb1
          have cx0 := L.cx0
          have cx1 := L.cx1
          have cy0 := L.cy0
          have cy1 := L.cy1
          have cq0 := L.cq0
          have cq1 := L.cq1
          have cr0 := L.cr0
          have cr1 := L.cr1
          have f20 := L.f20
          have f21 := L.f21
          have f30 := L.f30
          have f31 := L.f31
          have f40 := L.f40
          have f41 := L.f41
          have f50 := L.f50
          have f51 := L.f51
          have hzr := L.hz
          have HL7 := Lib.hid L7
          clear L L7
          go_wp2_with fail
          refine (MN2.out _).mono ?_
          rintro e w8 ⟨rfl, hb8⟩
          have L8 := HL7.out.below hb8
          clear HL7 ca0 ca1 cb0 cb1 cx0 cx1 cy0 cy1 cq0 cq1 cr0 cr1 f20 f21 f30 f31 f40 f41 f50 f51 hzr hb8
          have L := L8
          have ca0 := L.ca0
          have ca1 := L.ca1
          have cb0 := L.cb0
          have cb1 := L.cb1
          have cx0 := L.cx0
          have cx1 := L.cx1
          have cy0 := L.cy0
          have cy1 := L.cy1
          have cq0 := L.cq0
          have cq1 := L.cq1
          have cr0 := L.cr0
          have cr1 := L.cr1
          have f20 := L.f20
          have f21 := L.f21
          have f30 := L.f30
          have f31 := L.f31
          have f40 := L.f40
          have f41 := L.f41
          have f50 := L.f50
          have f51 := L.f51
          have hzr := L.hz
          have HL8 := Lib.hid L8
          clear L L8
          go_wp2
          go_roundw
          case rel => exact ⟨(n : Int) - 1, qq + 1, rr - b, rfl, by omega, by omega, Lib.hid (by rw [show ((n : Int) - 1 + 1).toNat = n from by omega, HST.out.1]), Lib.hid (by rw [show ((n : Int) - 1 + 1).toNat = n from by omega, HST.out.2]), Lib.hid (HL8.out.minus (qq + 1) (rr - b) QQ1.out)⟩
          case measure => first | (simp [intOf]; done) | (simp [intOf]; omega)
end Go.Proofs.Ytbjmibaepccbeaa
