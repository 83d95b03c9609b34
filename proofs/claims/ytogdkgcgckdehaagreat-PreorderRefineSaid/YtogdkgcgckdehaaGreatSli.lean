/- Slices of integers, of fractions, of slices: what they read as. -/
import Derived.Test.YtogdkgcgckdehaaGreatFra
import Derived.Test.YtogdkgcgckdehaaGreatCmp
import Derived.Sort.Walk0
import Derived.Sort.OwnSorted
import Derived.Deep.RegionHeld3
import Derived.StillTailTactics
set_option linter.unusedSimpArgs false
set_option linter.unusedVariables false
namespace Go.Proofs.YtogdkgcgckdehaaGreat
open Go.RowKit Go.Sort

/-- a slice of values of one cell each that reads as a list -/
structure SlG {α : Type} (enc : α → Value) (w : World) (a : Option Addr) (b off len cap : Nat) (L : List α) : Prop where
  hl : L.length = len
  ha : 0 < len → a = some ⟨b, off, none⟩
  hb : 0 < len → b < w.heap.size
  hcap : len ≤ cap
  hmax : cap ≤ maxLen
  cell : ∀ (k : Nat) (h : k < L.length), w.cell? ⟨b, off + k, none⟩ = some (enc L[k])
theorem SlG.low {α : Type} {enc : α → Value} {w w' : World} {B : Nat} {a : Option Addr} {b off len cap : Nat} {L : List α} (h : SlG enc w a b off len cap L) (hb : 0 < len → b < B) (hB : Below B w w') : SlG enc w' a b off len cap L := by
  obtain ⟨h1, h2, h3, h4, h5, h6⟩ := h
  refine ⟨h1, h2, fun h => Nat.lt_of_lt_of_le (h3 h) hB.size, h4, h5, fun k hk => ?_⟩
  exact (hB.cell (p := ⟨b, off + k, none⟩) (hb (by omega))).trans (h6 k hk)
theorem SlG.keep {α : Type} {enc : α → Value} {w w' : World} {a : Option Addr} {b off len cap : Nat} {L : List α} (h : SlG enc w a b off len cap L) (hB : Below w.heap.size w w') : SlG enc w' a b off len cap L := h.low h.hb hB
theorem SlG.drewN {α : Type} {enc : α → Value} {w : World} {a : Option Addr} {b off len cap : Nat} {L : List α} (h : SlG enc w a b off len cap L) (n : Nat) : SlG enc (w.drewN n) a b off len cap L :=
  ⟨h.hl, h.ha, h.hb, h.hcap, h.hmax, h.cell⟩
theorem SlG.grw {α : Type} {enc : α → Value} {w w' : World} {a : Option Addr} {b off len cap : Nat} {L : List α} (h : SlG enc w a b off len cap L) (hB : Grw w w') : SlG enc w' a b off len cap L := h.keep hB.below
theorem slg_nil {α : Type} (enc : α → Value) (w : World) : SlG enc w none 0 0 0 0 [] :=
  ⟨rfl, fun h => absurd h (Nat.lt_irrefl 0), fun h => absurd h (Nat.lt_irrefl 0), Nat.le_refl _, Nat.zero_le _, fun k hk => absurd hk (Nat.not_lt_zero k)⟩
theorem SlG.map {α β : Type} {enc : β → Value} {g : α → β} {w : World} {a : Option Addr} {b off len cap : Nat} {L : List α} (h : SlG (fun x => enc (g x)) w a b off len cap L) : SlG enc w a b off len cap (L.map g) :=
  ⟨by rw [List.length_map]; exact h.hl, h.ha, h.hb, h.hcap, h.hmax, fun k hk => by rw [List.getElem_map]; exact h.cell k (by simpa using hk)⟩
theorem SlG.unmap {α β : Type} {enc : β → Value} {g : α → β} {w : World} {a : Option Addr} {b off len cap : Nat} {L : List α} (h : SlG enc w a b off len cap (L.map g)) : SlG (fun x => enc (g x)) w a b off len cap L :=
  ⟨by have := h.hl; rwa [List.length_map] at this, h.ha, h.hb, h.hcap, h.hmax, fun k hk => by have := h.cell k (by simpa using hk); rwa [List.getElem_map] at this⟩
/-- a slice of integers -/
abbrev SlI (w : World) (a : Option Addr) (b off len cap : Nat) (L : List Int) : Prop := SlG (Value.int .i64) w a b off len cap L
/-- a slice of fractions -/
structure SlF (w : World) (a : Option Addr) (b off len cap : Nat) (L : List (Int × Int)) : Prop where
  hl : L.length = len
  ha : 0 < len → a = some ⟨b, off, none⟩
  hb : 0 < len → b < w.heap.size
  hcap : len ≤ cap
  hmax : cap ≤ maxLen
  cell : ∀ (k : Nat) (h : k < L.length), w.cell? ⟨b, off + k * 2, none⟩ = some (.int .i64 L[k].1) ∧ w.cell? ⟨b, off + k * 2 + 1, none⟩ = some (.int .i64 L[k].2)
  wf : ∀ x ∈ L, Wf64 x
theorem SlF.low {w w' : World} {B : Nat} {a : Option Addr} {b off len cap : Nat} {L : List (Int × Int)} (h : SlF w a b off len cap L) (hb : 0 < len → b < B) (hB : Below B w w') : SlF w' a b off len cap L := by
  obtain ⟨h1, h2, h3, h4, h5, h6, h7⟩ := h
  refine ⟨h1, h2, fun h => Nat.lt_of_lt_of_le (h3 h) hB.size, h4, h5, fun k hk => ?_, h7⟩
  exact ⟨(hB.cell (p := ⟨b, off + k * 2, none⟩) (hb (by omega))).trans (h6 k hk).1, (hB.cell (p := ⟨b, off + k * 2 + 1, none⟩) (hb (by omega))).trans (h6 k hk).2⟩
theorem SlF.keep {w w' : World} {a : Option Addr} {b off len cap : Nat} {L : List (Int × Int)} (h : SlF w a b off len cap L) (hB : Below w.heap.size w w') : SlF w' a b off len cap L := h.low h.hb hB
theorem SlF.grw {w w' : World} {a : Option Addr} {b off len cap : Nat} {L : List (Int × Int)} (h : SlF w a b off len cap L) (hB : Grw w w') : SlF w' a b off len cap L := h.keep hB.below
theorem slf_nil (w : World) : SlF w none 0 0 0 0 [] :=
  ⟨rfl, fun h => absurd h (Nat.lt_irrefl 0), fun h => absurd h (Nat.lt_irrefl 0), Nat.le_refl _, Nat.zero_le _, fun k hk => absurd hk (Nat.not_lt_zero k), fun _ h => absurd h (by simp)⟩
/-- a row, as it lies -/
structure Rw where
  a : Option Addr
  b : Nat
  off : Nat
  cap : Nat
  L : List (Int × Int)
  deriving Inhabited
def Rw.len (r : Rw) : Nat := r.L.length
def Rw.val (r : Rw) : Value := .slice r.a r.L.length r.cap
def Rw.ok (w : World) (r : Rw) : Prop := SlF w r.a r.b r.off r.L.length r.cap r.L ∧ (r.a = none → r.cap = 0)
theorem Rw.ok.keep {w w' : World} {r : Rw} (h : r.ok w) (hB : Below w.heap.size w w') : r.ok w' := ⟨h.1.keep hB, h.2⟩
theorem Rw.ok.low {w w' : World} {B : Nat} {r : Rw} (h : r.ok w) (hb : 0 < r.L.length → r.b < B) (hB : Below B w w') : r.ok w' := ⟨h.1.low hb hB, h.2⟩
/-- a slice of rows -/
structure SlR (w : World) (a : Option Addr) (b off len cap : Nat) (M : List Rw) : Prop where
  sl : SlG Rw.val w a b off len cap M
  rows : ∀ r ∈ M, r.ok w
theorem SlR.keep {w w' : World} {a : Option Addr} {b off len cap : Nat} {M : List Rw} (h : SlR w a b off len cap M) (hB : Below w.heap.size w w') : SlR w' a b off len cap M := ⟨h.sl.keep hB, fun r hr => (h.rows r hr).keep hB⟩
theorem SlR.grw {w w' : World} {a : Option Addr} {b off len cap : Nat} {M : List Rw} (h : SlR w a b off len cap M) (hB : Grw w w') : SlR w' a b off len cap M := h.keep hB.below
/-- rows that lie so in a world -/
abbrev RowIn (w : World) : Type := { r : Rw // r.ok w }
instance (w : World) : Inhabited (RowIn w) := ⟨⟨⟨none, 0, 0, 0, []⟩, slf_nil w, fun _ => rfl⟩⟩
def RowIn.val {w : World} (r : RowIn w) : Value := r.1.val
/-- the rows with what is known of them -/
def SlR.ins {w : World} {a : Option Addr} {b off len cap : Nat} {M : List Rw} (h : SlR w a b off len cap M) : List (RowIn w) := M.attach.map fun r => ⟨r.1, h.rows r.1 r.2⟩
theorem SlR.ins_map {w : World} {a : Option Addr} {b off len cap : Nat} {M : List Rw} (h : SlR w a b off len cap M) : h.ins.map Subtype.val = M := by
  unfold SlR.ins
  rw [List.map_map]
  exact List.attach_map_subtype_val M
theorem SlR.ins_sl {w : World} {a : Option Addr} {b off len cap : Nat} {M : List Rw} (h : SlR w a b off len cap M) : SlG (RowIn.val (w := w)) w a b off len cap h.ins := by
  have := h.sl
  rw [← h.ins_map] at this
  exact this.unmap
/-- the criteria of the rows -/
def crit (M : List Rw) : List (List (Int × Int)) := M.map Rw.L
end Go.Proofs.YtogdkgcgckdehaaGreat
