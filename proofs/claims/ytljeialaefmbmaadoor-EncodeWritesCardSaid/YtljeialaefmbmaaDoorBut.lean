/- What a step of one leaves of the other: a Reader and a Writer side by side. -/
import Derived.Test.YtljeialaefmbmaaDoorEgs
set_option linter.unusedSimpArgs false
set_option linter.unusedVariables false
namespace Go.Proofs.YtljeialaefmbmaaDoor
open Go.RowKit

theorem RAt.but {w w' : World} {b c : Nat} {r : RSt} (h : RAt w b r) (hb : But c w w') (hne : b ≠ c) : RAt w' b r := by
  obtain ⟨c0, c1, c2, c3, ff, lt⟩ := h
  have hblk := hb.block b lt hne
  exact ⟨(World.cell?_of_block hblk).trans c0, (World.cell?_of_block hblk).trans c1, (World.cell?_of_block hblk).trans c2, (World.cell?_of_block hblk).trans c3, fun o => (World.frozen?_of_block (a := ⟨b, o, none⟩) hblk).trans (ff o), Nat.lt_of_lt_of_le lt hb.size⟩
theorem WAt.far {w w' : World} {b r : Nat} {l : List ByteArray} {o : Nat} (h : WAt w b l o) (hb : But r w w') (hr : r < b) : WAt w' b l o := by
  obtain ⟨⟨v, c0, hc⟩, c1, c2, ff, lt⟩ := h
  have hblk := hb.block b lt (by omega)
  exact ⟨⟨v, (World.cell?_of_block hblk).trans c0, hc.far hb (by omega)⟩, (World.cell?_of_block hblk).trans c1, (World.cell?_of_block hblk).trans c2, fun o => (World.frozen?_of_block (a := ⟨b, o, none⟩) hblk).trans (ff o), Nat.lt_of_lt_of_le lt hb.size⟩
end Go.Proofs.YtljeialaefmbmaaDoor
