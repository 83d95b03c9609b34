/- Slices of integers and of steps that are known. -/
import Derived.Test.YtljeialaefmbmaaDoorListN
set_option linter.unusedSimpArgs false
set_option linter.unusedVariables false
namespace Go.Proofs.YtljeialaefmbmaaDoor
open Go.RowKit

structure SlN (w : World) (a : Option Addr) (b off len cap : Nat) (L : List Int) : Prop where
  hl : L.length = len
  ha : 0 < len → a = some ⟨b, off, none⟩
  hb : 0 < len → b < w.heap.size
  hcap : len ≤ cap
  hmax : cap ≤ maxLen
  cell : ∀ (k : Nat) (h : k < L.length), w.cell? ⟨b, off + k, none⟩ = some (.int .i64 L[k])
theorem SlN.keep {w w' : World} {a : Option Addr} {b off len cap : Nat} {L : List Int} (h : SlN w a b off len cap L) (hB : Below w.heap.size w w') : SlN w' a b off len cap L := by
  obtain ⟨h1, h2, h3, h4, h5, h6⟩ := h
  refine ⟨h1, h2, fun h => Nat.lt_of_lt_of_le (h3 h) hB.size, h4, h5, fun k hk => ?_⟩
  exact (hB.cell (p := ⟨b, off + k, none⟩) (h3 (by omega))).trans (h6 k hk)
/-- a step of a Writer -/
structure Stp where
  k : Int
  n : Int
  s : ByteArray
instance : Inhabited Stp := ⟨⟨0, 0, ⟨#[]⟩⟩⟩
structure StpOk (x : Stp) : Prop where
  n0 : -9223372036854775808 ≤ x.n
  n1 : x.n ≤ 9223372036854775807
  sz : x.s.size ≤ maxLen
structure SlT (w : World) (a : Option Addr) (b off len cap : Nat) (L : List Stp) : Prop where
  hl : L.length = len
  ha : 0 < len → a = some ⟨b, off, none⟩
  hb : 0 < len → b < w.heap.size
  hcap : len ≤ cap
  hmax : cap ≤ maxLen
  cell : ∀ (k : Nat) (h : k < L.length), w.cell? ⟨b, off + k * 3, none⟩ = some (.int .i64 L[k].k) ∧ w.cell? ⟨b, off + k * 3 + 1, none⟩ = some (.int .i64 L[k].n) ∧ w.cell? ⟨b, off + k * 3 + 2, none⟩ = some (.string L[k].s)
  ok : ∀ x ∈ L, StpOk x
theorem SlT.keep {w w' : World} {a : Option Addr} {b off len cap : Nat} {L : List Stp} (h : SlT w a b off len cap L) (hB : Below w.heap.size w w') : SlT w' a b off len cap L := by
  obtain ⟨h1, h2, h3, h4, h5, h6, h7⟩ := h
  refine ⟨h1, h2, fun h => Nat.lt_of_lt_of_le (h3 h) hB.size, h4, h5, fun k hk => ?_, h7⟩
  have := h6 k hk
  exact ⟨(hB.cell (p := ⟨b, off + k * 3, none⟩) (h3 (by omega))).trans this.1, (hB.cell (p := ⟨b, off + k * 3 + 1, none⟩) (h3 (by omega))).trans this.2.1, (hB.cell (p := ⟨b, off + k * 3 + 2, none⟩) (h3 (by omega))).trans this.2.2⟩
end Go.Proofs.YtljeialaefmbmaaDoor
