/- A builder that the call has made: WriteString, WriteByte, String; Repeat. -/
import Derived.Test.YtccglojnjakbfaaItm
import Derived.Test.YtccglojnjakbfaaShelf
import Derived.Shelf.Strings.BuilderK
set_option linter.unusedSimpArgs false
set_option linter.unusedVariables false
namespace Go.Proofs.Ytccglojnjakbfaa
open Go.RowKit

theorem ownF_below {w w' : World} {base e z n : Nat} {v : Value} {xs : List Value} (h : w.ownsRowF base e z v n xs) (hB : Below w.heap.size w w') : w'.ownsRowF base e z v n xs := by
  obtain ⟨hl, h⟩ := h
  rcases h with h | ⟨g, cap, cur, fz, h', hg, hb, hr⟩
  · exact ⟨hl, Or.inl h⟩
  · exact ⟨hl, Or.inr ⟨g, cap, cur, fz, h', hg, by rw [hB.block g (Array.getElem?_eq_some_iff.1 hb).1]; exact hb, hr⟩⟩
/-- a builder of the call's own, and what it holds -/
def Bld (B b : Nat) (l : List UInt8) (w : World) : Prop := Lib.IsBuilderF 58 5 B b (Lib.byteCells l) w
theorem bldAt_keep {T e : TypeId} {B b : Nat} {p : Value} {xs : List Value} {w w' : World} (h : Lib.BuilderAtF T e B b p xs w) (hB : Below w.heap.size w w') : Lib.BuilderAtF T e B b p xs w' := by
  obtain ⟨h1, v, hb, hown, hne⟩ := h
  exact ⟨h1, v, by rw [hB.block b (Array.getElem?_eq_some_iff.1 hb).1]; exact hb, ownF_below hown hB, hne⟩
theorem Bld.keep {B b : Nat} {l : List UInt8} {w w' : World} (h : Bld B b l w) (hB : Below w.heap.size w w') : Bld B b l w' :=
  h.elim (fun h => Or.inl (bldAt_keep h hB)) (fun h => Or.inr (bldAt_keep h hB))
theorem Bld.lt {B b : Nat} {l : List UInt8} {w : World} (h : Bld B b l w) : b < w.heap.size := h.elim Lib.BuilderAtF.lt Lib.BuilderAtF.lt
theorem Bld.above {B b : Nat} {l : List UInt8} {w : World} (h : Bld B b l w) : B ≤ b := h.elim (·.1) (·.1)
theorem bld_new (w : World) : Bld w.heap.size w.heap.size [] (w.alloc (.cells #[.pointer none, .slice none 0 0] 58)) := Lib.IsBuilderF.of (Lib.fresh_isBuilder 58 5 w)
theorem bytes_len (l : List UInt8) : (Lib.byteCells l).length = l.length := Lib.byteCells_length l
/-- WriteString -/
theorem put_any {B b : Nat} {l : List UInt8} {w : World} (h : Bld B b l w) (s : ByteArray) (hl : l.length + s.size ≤ 70000000000000) (hB : B ≤ w.heap.size) :
    Calls Try.prog 28 #[.pointer (some ⟨b, 0, none⟩), .string s] w fun e w' => e = .returned (.tuple #[.int .i64 s.size, .nilIface]) ∧ Bld B b (l ++ s.data.toList) w' ∧ Below B w w' ∧ Lib.OthersKept 5 (some b) w w' := by
  refine (Any.Builder_WriteString_k (ρ := Try.lays105_ren) { Try.lays105 with } Try.Builder_Extra_105 B b (Lib.byteCells l) s w h (by rw [bytes_len]; omega) hB).mono ?_
  rintro e w' ⟨rfl, h1, h2, h3⟩
  refine ⟨rfl, Or.inr ?_, h2, h3⟩
  rw [Lib.byteCells_append, ← Lib.strCells_eq]
  exact h1
def wbRen : Go.Shelf.Ren := ⟨fun n => if n = 167 then 30 else Try.lays105_ren.f n, Try.lays105_ren.t, Try.lays105_ren.g⟩
theorem wbLays : Go.Proofs.Lays.n167 Try.prog wbRen := { Try.lays105 with
  f167 := Try.func30.trans (congrArg some (by kernel_rfl))
  f240 := Try.lays105.f240
  f276 := Try.lays105.f276 }
theorem wbExtra : Builder.Extra Try.prog wbRen := { Try.Builder_Extra_105 with }
/-- WriteByte -/
theorem putb_any {B b : Nat} {l : List UInt8} {w : World} (h : Bld B b l w) (c : UInt8) (hl : l.length + 1 ≤ 70000000000000) (hB : B ≤ w.heap.size) :
    Calls Try.prog 30 #[.pointer (some ⟨b, 0, none⟩), .int .u8 (c.toNat : Int)] w fun e w' => e = .returned .nilIface ∧ Bld B b (l ++ [c]) w' ∧ Below B w w' ∧ Lib.OthersKept 5 (some b) w w' := by
  refine (Any.Builder_WriteByte_k (ρ := wbRen) wbLays wbExtra B b (Lib.byteCells l) (c.toNat : Int) w h (by rw [bytes_len]; omega) hB).mono ?_
  rintro e w' ⟨rfl, h1, h2, h3⟩
  refine ⟨rfl, Or.inr ?_, h2, h3⟩
  rw [Lib.byteCells_append]
  exact h1
/-- String -/
theorem text_any {B b : Nat} {l : List UInt8} {w : World} (h : Bld B b l w) (hB : B ≤ w.heap.size) :
    Calls Try.prog 31 #[.pointer (some ⟨b, 0, none⟩)] w fun e w' => e = .returned (.string (bs l)) ∧ Bld B b l w' ∧ Below B w w' := by
  refine (Try.Builder_String_any_f B b l w h hB).mono ?_
  rintro e w' ⟨rfl, h1, h2⟩
  exact ⟨rfl, h1, h2⟩
/-- an item's block behind a write -/
theorem it_others {e : TypeId} {b : Nat} {k : Nat} {w w' : World} {x : It} {T : TypeId} (h : w.heap[k]? = some (.cells #[.string x.c, .int .i64 x.d, .bool x.r, .bool x.v, .bool x.j] T (0, 0))) (hT : T ≠ e) (hk : k ≠ b) (ho : Lib.OthersKept e (some b) w w') :
    w'.heap[k]? = some (.cells #[.string x.c, .int .i64 x.d, .bool x.r, .bool x.v, .bool x.j] T (0, 0)) :=
  ho _ _ h (by simpa using hk) (by intro c fz hh; injection hh with _ h2 _; exact hT h2)
end Go.Proofs.Ytccglojnjakbfaa
