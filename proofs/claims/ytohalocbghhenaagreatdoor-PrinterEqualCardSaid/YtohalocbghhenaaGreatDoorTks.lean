/- Slices of tokens: what they read as. -/
import Derived.Test.YtohalocbghhenaaGreatDoorVal
import Derived.Test.YtohalocbghhenaaGreatDoorApp
set_option linter.unusedSimpArgs false
set_option linter.unusedVariables false
namespace Go.Proofs.YtohalocbghhenaaGreatDoor
open Go.RowKit

def encT (t : Tk) : List Value := [.int .i64 t.k, .string t.t, .int .i64 t.n, .int .i64 t.a]
def flatT (L : List Tk) : List Value := L.flatMap encT
theorem flatT_snoc (L : List Tk) (t : Tk) : flatT (L ++ [t]) = flatT L ++ encT t := by
  unfold flatT; rw [List.flatMap_append]; simp
theorem flatT_len : ∀ (L : List Tk), (flatT L).length = L.length * 4
  | [] => rfl
  | p :: t => by
    have := flatT_len t
    unfold flatT at this ⊢
    rw [List.flatMap_cons, List.length_append, this]
    simp [encT]
    omega
theorem flatT_get : ∀ (L : List Tk) (k : Nat) (h : k < L.length), (flatT L)[k * 4]? = some (.int .i64 (L[k]'h).k) ∧ (flatT L)[k * 4 + 1]? = some (.string (L[k]'h).t) ∧ (flatT L)[k * 4 + 2]? = some (.int .i64 (L[k]'h).n) ∧ (flatT L)[k * 4 + 3]? = some (.int .i64 (L[k]'h).a)
  | [], k, h => by simp at h
  | p :: t, 0, _ => ⟨rfl, rfl, rfl, rfl⟩
  | p :: t, k + 1, h => by
    have ih := flatT_get t k (by simpa using h)
    rw [show (k + 1) * 4 = k * 4 + 4 by omega]
    exact ih
/-- a slice of tokens that reads as a list -/
structure SlT (w : World) (a : Option Addr) (b off len cap : Nat) (L : List Tk) : Prop where
  hl : L.length = len
  ha : 0 < len → a = some ⟨b, off, none⟩
  hb : 0 < len → b < w.heap.size
  hcap : len ≤ cap
  hmax : cap ≤ maxLen
  c0 : ∀ (k : Nat) (h : k < L.length), w.cell? ⟨b, off + k * 4, none⟩ = some (.int .i64 (L[k]'h).k)
  c1 : ∀ (k : Nat) (h : k < L.length), w.cell? ⟨b, off + k * 4 + 1, none⟩ = some (.string (L[k]'h).t)
  c2 : ∀ (k : Nat) (h : k < L.length), w.cell? ⟨b, off + k * 4 + 2, none⟩ = some (.int .i64 (L[k]'h).n)
  c3 : ∀ (k : Nat) (h : k < L.length), w.cell? ⟨b, off + k * 4 + 3, none⟩ = some (.int .i64 (L[k]'h).a)
theorem SlT.low {w w' : World} {B : Nat} {a : Option Addr} {b off len cap : Nat} {L : List Tk} (h : SlT w a b off len cap L) (hb : 0 < len → b < B) (hB : Below B w w') : SlT w' a b off len cap L := by
  obtain ⟨h1, h2, h3, h4, h5, h6, h7, h8, h9⟩ := h
  refine ⟨h1, h2, fun h => Nat.lt_of_lt_of_le (h3 h) hB.size, h4, h5, fun k hk => ?_, fun k hk => ?_, fun k hk => ?_, fun k hk => ?_⟩
  · exact (hB.cell (p := ⟨b, _, none⟩) (hb (by omega))).trans (h6 k hk)
  · exact (hB.cell (p := ⟨b, _, none⟩) (hb (by omega))).trans (h7 k hk)
  · exact (hB.cell (p := ⟨b, _, none⟩) (hb (by omega))).trans (h8 k hk)
  · exact (hB.cell (p := ⟨b, _, none⟩) (hb (by omega))).trans (h9 k hk)
theorem SlT.keep {w w' : World} {a : Option Addr} {b off len cap : Nat} {L : List Tk} (h : SlT w a b off len cap L) (hB : Below w.heap.size w w') : SlT w' a b off len cap L := h.low h.hb hB
theorem slt_nil (w : World) : SlT w none 0 0 0 0 [] :=
  ⟨rfl, fun h => absurd h (Nat.lt_irrefl 0), fun h => absurd h (Nat.lt_irrefl 0), Nat.le_refl _, Nat.zero_le _, fun k hk => absurd hk (Nat.not_lt_zero k), fun k hk => absurd hk (Nat.not_lt_zero k), fun k hk => absurd hk (Nat.not_lt_zero k), fun k hk => absurd hk (Nat.not_lt_zero k)⟩
/-- a slice of the call's own, read -/
theorem slt_own {w : World} {base e : Nat} {v : Value} {L : List Tk} (h : w.ownsRow base e 4 v L.length (flatT L)) :
    ∃ a b cap, v = .slice a L.length cap ∧ SlT w a b 0 L.length cap L := by
  have hcell := h
  rcases h.2 with ⟨rfl, h0⟩ | ⟨g, cap, cur, rfl, hg, hb, h1, h2, h3, h4⟩
  · have : L = [] := List.eq_nil_of_length_eq_zero h0
    subst this
    exact ⟨none, 0, 0, rfl, slt_nil w⟩
  · have hgs : g < w.heap.size := (Array.getElem?_eq_some_iff.1 hb).1
    refine ⟨_, g, cap, rfl, ⟨rfl, fun _ => rfl, fun _ => hgs, h1, h2, fun k hk => ?_, fun k hk => ?_, fun k hk => ?_, fun k hk => ?_⟩⟩
    all_goals obtain ⟨e0, e1, e2, e3⟩ := flatT_get L k hk
    · rw [Nat.zero_add, hcell.cellAt (k * 4) (by omega), e0]
    · rw [Nat.zero_add, hcell.cellAt (k * 4 + 1) (by omega), e1]
    · rw [Nat.zero_add, hcell.cellAt (k * 4 + 2) (by omega), e2]
    · rw [Nat.zero_add, hcell.cellAt (k * 4 + 3) (by omega), e3]
theorem infoT : (Tryz.prog.info? 51).map (fun i => (i.zero, i.size, i.bytes)) = some (some (.agg #[.int .i64 0, .string ⟨#[]⟩, .int .i64 0, .int .i64 0]), 4, 40) := by kernel_rfl
end Go.Proofs.YtohalocbghhenaaGreatDoor
