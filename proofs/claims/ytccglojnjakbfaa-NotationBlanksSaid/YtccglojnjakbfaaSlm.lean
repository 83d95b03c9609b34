/- Slices whose elements are one cell each; slices of slices of items. -/
import Derived.Test.YtccglojnjakbfaaItm
set_option linter.unusedSimpArgs false
set_option linter.unusedVariables false
namespace Go.Proofs.Ytccglojnjakbfaa
open Go.RowKit

structure SlG {α : Type} (enc : α → Value) (w : World) (a : Option Addr) (b off len cap : Nat) (L : List α) : Prop where
  hl : L.length = len
  ha : 0 < len → a = some ⟨b, off, none⟩
  hb : 0 < len → b < w.heap.size
  hcap : len ≤ cap
  hmax : cap ≤ maxLen
  cell : ∀ (k : Nat) (h : k < L.length), w.cell? ⟨b, off + k, none⟩ = some (enc L[k])
theorem SlG.low {α : Type} {enc : α → Value} {w w' : World} {B : Nat} {a : Option Addr} {b off len cap : Nat} {L : List α} (h : SlG enc w a b off len cap L) (hb : 0 < len → b < B) (hB : Below B w w') : SlG enc w' a b off len cap L := by
  obtain ⟨h1, h2, h3, h4, h5, h6⟩ := h
  refine ⟨h1, h2, fun h => Nat.lt_of_lt_of_le (h3 h) hB.size, h4, h5, fun k hk => ?_⟩
  exact (hB.cell (p := ⟨b, off + k, none⟩) (hb (by omega))).trans (h6 k hk)
theorem SlG.keep {α : Type} {enc : α → Value} {w w' : World} {a : Option Addr} {b off len cap : Nat} {L : List α} (h : SlG enc w a b off len cap L) (hB : Below w.heap.size w w') : SlG enc w' a b off len cap L := h.low h.hb hB
theorem slg_nil {α : Type} (enc : α → Value) (w : World) : SlG enc w none 0 0 0 0 [] :=
  ⟨rfl, fun h => absurd h (Nat.lt_irrefl 0), fun h => absurd h (Nat.lt_irrefl 0), Nat.le_refl _, Nat.zero_le _, fun k hk => absurd hk (Nat.not_lt_zero k)⟩
/-- a slice of items as an element -/
structure Lx where
  a : Option Addr
  b : Nat
  o : Nat
  cap : Nat
  L : List It
def Lx.val (r : Lx) : Value := .slice r.a r.L.length r.cap
def Lx.ok (r : Lx) (w : World) : Prop := SlX w r.a r.b r.o r.L.length r.cap r.L
/-- a slice of slices of items -/
structure SlM (w : World) (a : Option Addr) (b off len cap : Nat) (M : List Lx) : Prop where
  s : SlG Lx.val w a b off len cap M
  each : ∀ r ∈ M, r.ok w
theorem SlM.keep {w w' : World} {a : Option Addr} {b off len cap : Nat} {M : List Lx} (h : SlM w a b off len cap M) (hB : Below w.heap.size w w') : SlM w' a b off len cap M :=
  ⟨h.s.keep hB, fun r hr => SlX.keep (h.each r hr) hB⟩
end Go.Proofs.Ytccglojnjakbfaa
