/- Slices of integers and of pairs: what they read as. -/
import Derived.Test.YtpcdbnlljdfogaaBase
import Derived.Test.YtpcdbnlljdfogaaGrf
set_option linter.unusedSimpArgs false
set_option linter.unusedVariables false
namespace Go.Proofs.Ytpcdbnlljdfogaa
open Go.RowKit

theorem undrew {W w1 : World} (h : Below W.drew.heap.size W.drew w1) : Below W.heap.size W w1 := ⟨h.os, h.tape, h.output, h.size, h.block⟩
/-- a slice of integers -/
structure SlI (w : World) (a : Option Addr) (b off len cap : Nat) (L : List Int) : Prop where
  hl : L.length = len
  ha : 0 < len → a = some ⟨b, off, none⟩
  hb : 0 < len → b < w.heap.size
  hcap : len ≤ cap
  hmax : cap ≤ maxLen
  hn : a = none → len = 0 ∧ cap = 0
  cell : ∀ (k : Nat) (h : k < L.length), w.cell? ⟨b, off + k, none⟩ = some (.int .i64 (L[k]'h))
theorem SlI.low {w w' : World} {B : Nat} {a : Option Addr} {b off len cap : Nat} {L : List Int} (h : SlI w a b off len cap L) (hb : 0 < len → b < B) (hB : Below B w w') : SlI w' a b off len cap L := by
  obtain ⟨h1, h2, h3, h4, h5, h7, h6⟩ := h
  exact ⟨h1, h2, fun h => Nat.lt_of_lt_of_le (h3 h) hB.size, h4, h5, h7, fun k hk => (hB.cell (p := ⟨b, off + k, none⟩) (hb (by omega))).trans (h6 k hk)⟩
theorem SlI.keep {w w' : World} {a : Option Addr} {b off len cap : Nat} {L : List Int} (h : SlI w a b off len cap L) (hB : Below w.heap.size w w') : SlI w' a b off len cap L := h.low h.hb hB
theorem sli_nil (w : World) : SlI w none 0 0 0 0 [] := ⟨rfl, fun h => absurd h (Nat.lt_irrefl 0), fun h => absurd h (Nat.lt_irrefl 0), Nat.le_refl _, Nat.zero_le _, fun _ => ⟨rfl, rfl⟩, fun k hk => absurd hk (Nat.not_lt_zero k)⟩
/-- a slice of pairs -/
structure SlP (w : World) (a : Option Addr) (b off len cap : Nat) (L : List (Int × Int)) : Prop where
  hl : L.length = len
  ha : 0 < len → a = some ⟨b, off, none⟩
  hb : 0 < len → b < w.heap.size
  hcap : len ≤ cap
  hmax : cap ≤ maxLen
  c0 : ∀ (k : Nat) (h : k < L.length), w.cell? ⟨b, off + k * 2, none⟩ = some (.int .i64 (L[k]'h).1)
  c1 : ∀ (k : Nat) (h : k < L.length), w.cell? ⟨b, off + k * 2 + 1, none⟩ = some (.int .i64 (L[k]'h).2)
theorem SlP.low {w w' : World} {B : Nat} {a : Option Addr} {b off len cap : Nat} {L : List (Int × Int)} (h : SlP w a b off len cap L) (hb : 0 < len → b < B) (hB : Below B w w') : SlP w' a b off len cap L := by
  obtain ⟨h1, h2, h3, h4, h5, h6, h7⟩ := h
  exact ⟨h1, h2, fun h => Nat.lt_of_lt_of_le (h3 h) hB.size, h4, h5, fun k hk => (hB.cell (p := ⟨b, off + k * 2, none⟩) (hb (by omega))).trans (h6 k hk), fun k hk => (hB.cell (p := ⟨b, off + k * 2 + 1, none⟩) (hb (by omega))).trans (h7 k hk)⟩
theorem SlP.keep {w w' : World} {a : Option Addr} {b off len cap : Nat} {L : List (Int × Int)} (h : SlP w a b off len cap L) (hB : Below w.heap.size w w') : SlP w' a b off len cap L := h.low h.hb hB
/-- a graph as an argument: where its three lists lie -/
structure Gph where
  L : List Int
  R : List Int
  E : List (Int × Int)
  aL : Option Addr
  bL : Nat
  oL : Nat
  cL : Nat
  aR : Option Addr
  bR : Nat
  oR : Nat
  cR : Nat
  aE : Option Addr
  bE : Nat
  oE : Nat
  cE : Nat
def Gph.val (g : Gph) : Value := .agg #[.slice g.aL g.L.length g.cL, .slice g.aR g.R.length g.cR, .slice g.aE g.E.length g.cE]
structure GpAt (w : World) (g : Gph) : Prop where
  l : SlI w g.aL g.bL g.oL g.L.length g.cL g.L
  r : SlI w g.aR g.bR g.oR g.R.length g.cR g.R
  e : SlP w g.aE g.bE g.oE g.E.length g.cE g.E
theorem GpAt.keep {w w' : World} {g : Gph} (h : GpAt w g) (hB : Below w.heap.size w w') : GpAt w' g := ⟨h.l.keep hB, h.r.keep hB, h.e.keep hB⟩
def chk (g : Gph) : Int := chkG g.L g.R g.E
end Go.Proofs.Ytpcdbnlljdfogaa
