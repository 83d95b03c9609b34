/- Slices of pairs of numbers; the chains of items, plain. -/
import Derived.Test.YtccglojnjakbfaaItm
set_option linter.unusedSimpArgs false
set_option linter.unusedVariables false
namespace Go.Proofs.Ytccglojnjakbfaa
open Go.RowKit

def encQ (t : Nat × Nat) : List Value := [.int .i64 (t.1 : Int), .int .i64 (t.2 : Int)]
def flatQ (L : List (Nat × Nat)) : List Value := L.flatMap encQ
theorem flatQ_snoc (L : List (Nat × Nat)) (t : Nat × Nat) : flatQ (L ++ [t]) = flatQ L ++ encQ t := by
  unfold flatQ; rw [List.flatMap_append]; simp
theorem flatQ_len : ∀ (L : List (Nat × Nat)), (flatQ L).length = L.length * 2
  | [] => rfl
  | p :: t => by
    have := flatQ_len t
    unfold flatQ at this ⊢
    rw [List.flatMap_cons, List.length_append, this]
    simp [encQ]
    omega
theorem flatQ_get : ∀ (L : List (Nat × Nat)) (k : Nat) (h : k < L.length), (flatQ L)[k * 2]? = some (.int .i64 ((L[k]'h).1 : Int)) ∧ (flatQ L)[k * 2 + 1]? = some (.int .i64 ((L[k]'h).2 : Int))
  | [], k, h => by simp at h
  | p :: t, 0, _ => ⟨rfl, rfl⟩
  | p :: t, k + 1, h => by
    have ih := flatQ_get t k (by simpa using h)
    rw [show (k + 1) * 2 = k * 2 + 2 by omega]
    exact ih
theorem encQ_one (x : Nat × Nat) : ∀ u ∈ encQ x, u.oneCell' = true := by
  intro u hu
  simp only [encQ, List.mem_cons, List.not_mem_nil, or_false] at hu
  rcases hu with rfl | rfl <;> rfl
/-- a slice of pairs that reads as a list -/
structure SlQ (w : World) (a : Option Addr) (b off len cap : Nat) (L : List (Nat × Nat)) : Prop where
  hl : L.length = len
  ha : 0 < len → a = some ⟨b, off, none⟩
  hb : 0 < len → b < w.heap.size
  hcap : len ≤ cap
  hmax : cap ≤ maxLen
  c0 : ∀ (k : Nat) (h : k < L.length), w.cell? ⟨b, off + k * 2, none⟩ = some (.int .i64 ((L[k]'h).1 : Int))
  c1 : ∀ (k : Nat) (h : k < L.length), w.cell? ⟨b, off + k * 2 + 1, none⟩ = some (.int .i64 ((L[k]'h).2 : Int))
theorem SlQ.low {w w' : World} {B : Nat} {a : Option Addr} {b off len cap : Nat} {L : List (Nat × Nat)} (h : SlQ w a b off len cap L) (hb : 0 < len → b < B) (hB : Below B w w') : SlQ w' a b off len cap L := by
  obtain ⟨h1, h2, h3, h4, h5, h6, h7⟩ := h
  refine ⟨h1, h2, fun h => Nat.lt_of_lt_of_le (h3 h) hB.size, h4, h5, fun k hk => ?_, fun k hk => ?_⟩
  · exact (hB.cell (p := ⟨b, _, none⟩) (hb (by omega))).trans (h6 k hk)
  · exact (hB.cell (p := ⟨b, _, none⟩) (hb (by omega))).trans (h7 k hk)
theorem SlQ.keep {w w' : World} {a : Option Addr} {b off len cap : Nat} {L : List (Nat × Nat)} (h : SlQ w a b off len cap L) (hB : Below w.heap.size w w') : SlQ w' a b off len cap L := h.low h.hb hB
theorem slq_own {w : World} {base e : Nat} {v : Value} {L : List (Nat × Nat)} (h : w.ownsRow base e 2 v L.length (flatQ L)) :
    ∃ a b cap, v = .slice a L.length cap ∧ SlQ w a b 0 L.length cap L := by
  have hcell := h
  rcases h.2 with ⟨rfl, h0⟩ | ⟨g, cap, cur, rfl, hg, hb, h1, h2, h3, h4⟩
  · have : L = [] := List.eq_nil_of_length_eq_zero h0
    subst this
    exact ⟨none, 0, 0, rfl, rfl, fun h => absurd h (Nat.lt_irrefl 0), fun h => absurd h (Nat.lt_irrefl 0), Nat.le_refl _, Nat.zero_le _, fun k hk => absurd hk (Nat.not_lt_zero k), fun k hk => absurd hk (Nat.not_lt_zero k)⟩
  · have hgs : g < w.heap.size := (Array.getElem?_eq_some_iff.1 hb).1
    refine ⟨_, g, cap, rfl, rfl, fun _ => rfl, fun _ => hgs, h1, h2, fun k hk => ?_, fun k hk => ?_⟩
    all_goals obtain ⟨e0, e1⟩ := flatQ_get L k hk
    · rw [Nat.zero_add, hcell.cellAt (k * 2) (by omega), e0]
    · rw [Nat.zero_add, hcell.cellAt (k * 2 + 1) (by omega), e1]
theorem infoQ : (Try.prog.info? 42).map (fun i => (i.zero, i.size, i.bytes)) = some (some (.agg #[.int .i64 0, .int .i64 0]), 2, 16) := by kernel_rfl
theorem q_cells (w : World) (t : Nat × Nat) : ∀ j u, (encQ t)[j]? = some u → (w.alloc (.cells #[.int .i64 (t.1 : Int), .int .i64 (t.2 : Int)] 42)).cell? ((⟨w.heap.size, 0, none⟩ : Addr).add j) = some u := by
  intro j u hu
  unfold encQ at hu
  match j, hu with
  | 0, hu => simp at hu; subst hu; simp [go_sem, Addr.add]
  | 1, hu => simp at hu; subst hu; simp [go_sem, Addr.add]
  | j + 2, hu => simp at hu
/-- the chains of items: the first index, the index, the items from there -/
def chnL : Nat → Nat → List It → List (Nat × Nat)
  | _, _, [] => []
  | f, i, x :: t => if x.j = false ∨ t = [] then (f, i + 1) :: chnL (i + 1) (i + 1) t else chnL f (i + 1) t
theorem chnL_cut {L : List It} {f i : Nat} (h : i < L.length) : chnL f i (L.drop i) = if (L[i]'h).j = false ∨ i + 1 = L.length then (f, i + 1) :: chnL (i + 1) (i + 1) (L.drop (i + 1)) else chnL f (i + 1) (L.drop (i + 1)) := by
  rw [List.drop_eq_getElem_cons h, chnL]
  have : (L.drop (i + 1) = []) = (i + 1 = L.length) := by
    rw [List.drop_eq_nil_iff]
    exact propext ⟨fun h1 => by omega, fun h1 => by omega⟩
  simp only [this]
theorem chnL_in : ∀ (l : List It) (f i : Nat), f ≤ i → ∀ c ∈ chnL f i l, f ≤ c.1 ∧ c.1 < c.2 ∧ c.2 ≤ i + l.length
  | [], f, i, _, c, hc => by simp [chnL] at hc
  | x :: t, f, i, hf, c, hc => by
    rw [chnL] at hc
    split at hc
    · rcases List.mem_cons.1 hc with rfl | hc
      · simp; omega
      · have := chnL_in t (i + 1) (i + 1) (Nat.le_refl _) c hc
        simp only [List.length_cons]
        omega
    · have := chnL_in t f (i + 1) (by omega) c hc
      simp only [List.length_cons]
      omega
end Go.Proofs.Ytccglojnjakbfaa
