/- Items of lines: what they are, how they lie in memory, slices of items. -/
import Derived.Test.YtlleebgkglbelaaApp
set_option linter.unusedSimpArgs false
set_option linter.unusedVariables false
namespace Go.Proofs.Ytlleebgkglbelaa
open Go.RowKit

/-- an item -/
structure It where
  c : ByteArray
  d : Int
  r : Bool
  v : Bool
  j : Bool
deriving DecidableEq
def It.val (x : It) : Value := .agg #[.string x.c, .int .i64 x.d, .bool x.r, .bool x.v, .bool x.j]
def It.zero : It := ⟨⟨#[]⟩, 0, false, false, false⟩
/-- an item in a block -/
structure ItAt (w : World) (b : Nat) (x : It) : Prop where
  c0 : w.cell? ⟨b, 0, none⟩ = some (.string x.c)
  c1 : w.cell? ⟨b, 1, none⟩ = some (.int .i64 x.d)
  c2 : w.cell? ⟨b, 2, none⟩ = some (.bool x.r)
  c3 : w.cell? ⟨b, 3, none⟩ = some (.bool x.v)
  c4 : w.cell? ⟨b, 4, none⟩ = some (.bool x.j)
  f : ∀ k, w.frozen? ⟨b, k, none⟩ = false
  lt : b < w.heap.size
theorem ItAt.low {B : Nat} {W w1 : World} {b : Nat} {x : It} (h : ItAt W b x) (hb : Below B W w1) (hB : b < B) : ItAt w1 b x :=
  ⟨(hb.cell (p := ⟨b, 0, none⟩) hB).trans h.c0, (hb.cell (p := ⟨b, 1, none⟩) hB).trans h.c1, (hb.cell (p := ⟨b, 2, none⟩) hB).trans h.c2, (hb.cell (p := ⟨b, 3, none⟩) hB).trans h.c3, (hb.cell (p := ⟨b, 4, none⟩) hB).trans h.c4, fun k => (hb.frozen (p := ⟨b, k, none⟩) hB).trans (h.f k), Nat.lt_of_lt_of_le h.lt hb.size⟩
theorem ItAt.keep {W w1 : World} {b : Nat} {x : It} (h : ItAt W b x) (hb : Below W.heap.size W w1) : ItAt w1 b x := h.low hb h.lt
theorem ItAt.other {w : World} {b : Nat} {x : It} (h : ItAt w b x) (a : Addr) (ha : a.block ≠ b) (v : Value) : ItAt (w.setCell a v) b x := by
  have o : ∀ k, (w.setCell a v).cell? ⟨b, k, none⟩ = w.cell? ⟨b, k, none⟩ := fun k => World.cell?_setCell_other w a ⟨b, k, none⟩ v (by intro e; apply ha; rw [e])
  exact ⟨(o 0).trans h.c0, (o 1).trans h.c1, (o 2).trans h.c2, (o 3).trans h.c3, (o 4).trans h.c4, fun k => by rw [World.frozen?_setCell]; exact h.f k, by simp; exact h.lt⟩
theorem ItAt.grown {w w' : World} {row : Option Nat} {b : Nat} {x : It} (h : ItAt w b x) (hg : w.grownBy w' row) (hne : some b ≠ row) : ItAt w' b x :=
  ⟨(World.cell?_of_block (a := ⟨b, 0, none⟩) (hg.block b h.lt hne)).trans h.c0, (World.cell?_of_block (a := ⟨b, 1, none⟩) (hg.block b h.lt hne)).trans h.c1, (World.cell?_of_block (a := ⟨b, 2, none⟩) (hg.block b h.lt hne)).trans h.c2, (World.cell?_of_block (a := ⟨b, 3, none⟩) (hg.block b h.lt hne)).trans h.c3, (World.cell?_of_block (a := ⟨b, 4, none⟩) (hg.block b h.lt hne)).trans h.c4, fun k => (World.frozen?_of_block (a := ⟨b, k, none⟩) (hg.block b h.lt hne)).trans (h.f k), Nat.lt_of_lt_of_le h.lt hg.size⟩
theorem it_new (w : World) (x : It) (T : TypeId) : ItAt (w.alloc (.cells #[.string x.c, .int .i64 x.d, .bool x.r, .bool x.v, .bool x.j] T)) w.heap.size x := by
  refine ⟨?_, ?_, ?_, ?_, ?_, fun k => ?_, ?_⟩
  all_goals simp [go_sem]
/-- a fault in a block -/
structure FtAt (w : World) (b : Nat) (c a : Int) : Prop where
  c0 : w.cell? ⟨b, 0, none⟩ = some (.int .i64 c)
  c1 : w.cell? ⟨b, 1, none⟩ = some (.int .i64 a)
  f : ∀ k, w.frozen? ⟨b, k, none⟩ = false
  lt : b < w.heap.size
theorem FtAt.low {B : Nat} {W w1 : World} {b : Nat} {c a : Int} (h : FtAt W b c a) (hb : Below B W w1) (hB : b < B) : FtAt w1 b c a :=
  ⟨(hb.cell (p := ⟨b, 0, none⟩) hB).trans h.c0, (hb.cell (p := ⟨b, 1, none⟩) hB).trans h.c1, fun k => (hb.frozen (p := ⟨b, k, none⟩) hB).trans (h.f k), Nat.lt_of_lt_of_le h.lt hb.size⟩
theorem FtAt.keep {W w1 : World} {b : Nat} {c a : Int} (h : FtAt W b c a) (hb : Below W.heap.size W w1) : FtAt w1 b c a := h.low hb h.lt
theorem FtAt.other {w : World} {b : Nat} {c a : Int} (h : FtAt w b c a) (p : Addr) (ha : p.block ≠ b) (v : Value) : FtAt (w.setCell p v) b c a := by
  have o : ∀ k, (w.setCell p v).cell? ⟨b, k, none⟩ = w.cell? ⟨b, k, none⟩ := fun k => World.cell?_setCell_other w p ⟨b, k, none⟩ v (by intro e; apply ha; rw [e])
  exact ⟨(o 0).trans h.c0, (o 1).trans h.c1, fun k => by rw [World.frozen?_setCell]; exact h.f k, by simp; exact h.lt⟩
theorem FtAt.grown {w w' : World} {row : Option Nat} {b : Nat} {c a : Int} (h : FtAt w b c a) (hg : w.grownBy w' row) (hne : some b ≠ row) : FtAt w' b c a :=
  ⟨(World.cell?_of_block (a := ⟨b, 0, none⟩) (hg.block b h.lt hne)).trans h.c0, (World.cell?_of_block (a := ⟨b, 1, none⟩) (hg.block b h.lt hne)).trans h.c1, fun k => (World.frozen?_of_block (a := ⟨b, k, none⟩) (hg.block b h.lt hne)).trans (h.f k), Nat.lt_of_lt_of_le h.lt hg.size⟩
theorem ft_new (w : World) (c a : Int) (T : TypeId) : FtAt (w.alloc (.cells #[.int .i64 c, .int .i64 a] T)) w.heap.size c a := by
  refine ⟨?_, ?_, fun k => ?_, ?_⟩
  all_goals simp [go_sem]
def fV (c a : Int) : Value := .agg #[.int .i64 c, .int .i64 a]
/-- cells of items -/
def encX (t : It) : List Value := [.string t.c, .int .i64 t.d, .bool t.r, .bool t.v, .bool t.j]
def flatX (L : List It) : List Value := L.flatMap encX
theorem flatX_snoc (L : List It) (t : It) : flatX (L ++ [t]) = flatX L ++ encX t := by
  unfold flatX; rw [List.flatMap_append]; simp
theorem flatX_len : ∀ (L : List It), (flatX L).length = L.length * 5
  | [] => rfl
  | p :: t => by
    have := flatX_len t
    unfold flatX at this ⊢
    rw [List.flatMap_cons, List.length_append, this]
    simp [encX]
    omega
theorem flatX_get : ∀ (L : List It) (k : Nat) (h : k < L.length), (flatX L)[k * 5]? = some (.string (L[k]'h).c) ∧ (flatX L)[k * 5 + 1]? = some (.int .i64 (L[k]'h).d) ∧ (flatX L)[k * 5 + 2]? = some (.bool (L[k]'h).r) ∧ (flatX L)[k * 5 + 3]? = some (.bool (L[k]'h).v) ∧ (flatX L)[k * 5 + 4]? = some (.bool (L[k]'h).j)
  | [], k, h => by simp at h
  | p :: t, 0, _ => ⟨rfl, rfl, rfl, rfl, rfl⟩
  | p :: t, k + 1, h => by
    have ih := flatX_get t k (by simpa using h)
    rw [show (k + 1) * 5 = k * 5 + 5 by omega]
    exact ih
theorem flatX_one : ∀ (L : List It), ∀ u ∈ flatX L, u.oneCell' = true
  | [], u, h => by simp [flatX] at h
  | t :: l, u, h => by
    unfold flatX at h
    rw [List.flatMap_cons, List.mem_append] at h
    rcases h with h | h
    · simp only [encX, List.mem_cons, List.not_mem_nil, or_false] at h
      rcases h with rfl | rfl | rfl | rfl | rfl <;> rfl
    · exact flatX_one l u h
/-- a slice of items that reads as a list -/
structure SlX (w : World) (a : Option Addr) (b off len cap : Nat) (L : List It) : Prop where
  hl : L.length = len
  ha : 0 < len → a = some ⟨b, off, none⟩
  hb : 0 < len → b < w.heap.size
  hcap : len ≤ cap
  hmax : cap ≤ maxLen
  c0 : ∀ (k : Nat) (h : k < L.length), w.cell? ⟨b, off + k * 5, none⟩ = some (.string (L[k]'h).c)
  c1 : ∀ (k : Nat) (h : k < L.length), w.cell? ⟨b, off + k * 5 + 1, none⟩ = some (.int .i64 (L[k]'h).d)
  c2 : ∀ (k : Nat) (h : k < L.length), w.cell? ⟨b, off + k * 5 + 2, none⟩ = some (.bool (L[k]'h).r)
  c3 : ∀ (k : Nat) (h : k < L.length), w.cell? ⟨b, off + k * 5 + 3, none⟩ = some (.bool (L[k]'h).v)
  c4 : ∀ (k : Nat) (h : k < L.length), w.cell? ⟨b, off + k * 5 + 4, none⟩ = some (.bool (L[k]'h).j)
theorem SlX.low {w w' : World} {B : Nat} {a : Option Addr} {b off len cap : Nat} {L : List It} (h : SlX w a b off len cap L) (hb : 0 < len → b < B) (hB : Below B w w') : SlX w' a b off len cap L := by
  obtain ⟨h1, h2, h3, h4, h5, h6, h7, h8, h9, h10⟩ := h
  refine ⟨h1, h2, fun h => Nat.lt_of_lt_of_le (h3 h) hB.size, h4, h5, fun k hk => ?_, fun k hk => ?_, fun k hk => ?_, fun k hk => ?_, fun k hk => ?_⟩
  · exact (hB.cell (p := ⟨b, _, none⟩) (hb (by omega))).trans (h6 k hk)
  · exact (hB.cell (p := ⟨b, _, none⟩) (hb (by omega))).trans (h7 k hk)
  · exact (hB.cell (p := ⟨b, _, none⟩) (hb (by omega))).trans (h8 k hk)
  · exact (hB.cell (p := ⟨b, _, none⟩) (hb (by omega))).trans (h9 k hk)
  · exact (hB.cell (p := ⟨b, _, none⟩) (hb (by omega))).trans (h10 k hk)
theorem SlX.keep {w w' : World} {a : Option Addr} {b off len cap : Nat} {L : List It} (h : SlX w a b off len cap L) (hB : Below w.heap.size w w') : SlX w' a b off len cap L := h.low h.hb hB
theorem slx_nil (w : World) (a : Option Addr) (b off cap : Nat) (h : cap ≤ maxLen) : SlX w a b off 0 cap [] :=
  ⟨rfl, fun h => absurd h (Nat.lt_irrefl 0), fun h => absurd h (Nat.lt_irrefl 0), Nat.zero_le _, h, fun k hk => absurd hk (Nat.not_lt_zero k), fun k hk => absurd hk (Nat.not_lt_zero k), fun k hk => absurd hk (Nat.not_lt_zero k), fun k hk => absurd hk (Nat.not_lt_zero k), fun k hk => absurd hk (Nat.not_lt_zero k)⟩
theorem SlX.grown {w w' : World} {row : Option Nat} {a : Option Addr} {b off len cap : Nat} {L : List It} (h : SlX w a b off len cap L) (hg : w.grownBy w' row) (hne : 0 < len → some b ≠ row) : SlX w' a b off len cap L := by
  obtain ⟨h1, h2, h3, h4, h5, h6, h7, h8, h9, h10⟩ := h
  refine ⟨h1, h2, fun h => Nat.lt_of_lt_of_le (h3 h) hg.size, h4, h5, fun k hk => ?_, fun k hk => ?_, fun k hk => ?_, fun k hk => ?_, fun k hk => ?_⟩
  · exact (World.cell?_of_block (a := ⟨b, _, none⟩) (hg.block b (h3 (by omega)) (hne (by omega)))).trans (h6 k hk)
  · exact (World.cell?_of_block (a := ⟨b, _, none⟩) (hg.block b (h3 (by omega)) (hne (by omega)))).trans (h7 k hk)
  · exact (World.cell?_of_block (a := ⟨b, _, none⟩) (hg.block b (h3 (by omega)) (hne (by omega)))).trans (h8 k hk)
  · exact (World.cell?_of_block (a := ⟨b, _, none⟩) (hg.block b (h3 (by omega)) (hne (by omega)))).trans (h9 k hk)
  · exact (World.cell?_of_block (a := ⟨b, _, none⟩) (hg.block b (h3 (by omega)) (hne (by omega)))).trans (h10 k hk)
theorem SlX.other {w : World} {a : Option Addr} {b off len cap : Nat} {L : List It} (h : SlX w a b off len cap L) (p : Addr) (ha : 0 < len → p.block ≠ b) (v : Value) : SlX (w.setCell p v) a b off len cap L := by
  obtain ⟨h1, h2, h3, h4, h5, h6, h7, h8, h9, h10⟩ := h
  have o : 0 < len → ∀ k, (w.setCell p v).cell? ⟨b, k, none⟩ = w.cell? ⟨b, k, none⟩ := fun h0 k => World.cell?_setCell_other w p ⟨b, k, none⟩ v (by intro e; apply ha h0; rw [e])
  refine ⟨h1, h2, fun h => by simp; exact h3 h, h4, h5, fun k hk => ?_, fun k hk => ?_, fun k hk => ?_, fun k hk => ?_, fun k hk => ?_⟩
  · exact (o (by omega) _).trans (h6 k hk)
  · exact (o (by omega) _).trans (h7 k hk)
  · exact (o (by omega) _).trans (h8 k hk)
  · exact (o (by omega) _).trans (h9 k hk)
  · exact (o (by omega) _).trans (h10 k hk)
/-- a slice of the call's own, read -/
theorem slx_own {w : World} {base e : Nat} {v : Value} {L : List It} (h : w.ownsRow base e 5 v L.length (flatX L)) :
    ∃ a b cap, v = .slice a L.length cap ∧ SlX w a b 0 L.length cap L ∧ (0 < L.length → base ≤ b) := by
  have hcell := h
  rcases h.2 with ⟨rfl, h0⟩ | ⟨g, cap, cur, rfl, hg, hb, h1, h2, h3, h4⟩
  · have : L = [] := List.eq_nil_of_length_eq_zero h0
    subst this
    exact ⟨none, 0, 0, rfl, slx_nil w _ _ _ _ (Nat.zero_le _), fun h => absurd h (Nat.lt_irrefl 0)⟩
  · have hgs : g < w.heap.size := (Array.getElem?_eq_some_iff.1 hb).1
    refine ⟨_, g, cap, rfl, ⟨rfl, fun _ => rfl, fun _ => hgs, h1, h2, fun k hk => ?_, fun k hk => ?_, fun k hk => ?_, fun k hk => ?_, fun k hk => ?_⟩, fun _ => hg⟩
    all_goals obtain ⟨e0, e1, e2, e3, e4⟩ := flatX_get L k hk
    · rw [Nat.zero_add, hcell.cellAt (k * 5) (by omega), e0]
    · rw [Nat.zero_add, hcell.cellAt (k * 5 + 1) (by omega), e1]
    · rw [Nat.zero_add, hcell.cellAt (k * 5 + 2) (by omega), e2]
    · rw [Nat.zero_add, hcell.cellAt (k * 5 + 3) (by omega), e3]
    · rw [Nat.zero_add, hcell.cellAt (k * 5 + 4) (by omega), e4]
theorem infoX : (Try.prog.info? 29).map (fun i => (i.zero, i.size, i.bytes)) = some (some (.agg #[.string ⟨#[]⟩, .int .i64 0, .bool false, .bool false, .bool false]), 5, 32) := by kernel_rfl
theorem own_below {w w' : World} {base e z n : Nat} {v : Value} {xs : List Value} (h : w.ownsRow base e z v n xs) (hB : Below w.heap.size w w') : w'.ownsRow base e z v n xs := by
  obtain ⟨hl, h⟩ := h
  rcases h with h | ⟨g, cap, cur, h', hg, hb, hr⟩
  · exact ⟨hl, Or.inl h⟩
  · exact ⟨hl, Or.inr ⟨g, cap, cur, h', hg, by rw [hB.block g (Array.getElem?_eq_some_iff.1 hb).1]; exact hb, hr⟩⟩
theorem own_low {w : World} {base base' e z n : Nat} {v : Value} {xs : List Value} (h : w.ownsRow base e z v n xs) (hb : base' ≤ base) : w.ownsRow base' e z v n xs := by
  obtain ⟨hl, h⟩ := h
  rcases h with h | ⟨g, cap, cur, h', hg, h''⟩
  · exact ⟨hl, Or.inl h⟩
  · exact ⟨hl, Or.inr ⟨g, cap, cur, h', Nat.le_trans hb hg, h''⟩⟩
theorem it_cells (w : World) (t : It) : ∀ j u, (encX t)[j]? = some u → (w.alloc (.cells #[.string t.c, .int .i64 t.d, .bool t.r, .bool t.v, .bool t.j] 29)).cell? ((⟨w.heap.size, 0, none⟩ : Addr).add j) = some u := by
  intro j u hu
  obtain ⟨z0, z1, z2, z3, z4, _, _⟩ := it_new w t 29
  unfold encX at hu
  match j, hu with
  | 0, hu => simp at hu; subst hu; exact z0
  | 1, hu => simp at hu; subst hu; exact z1
  | 2, hu => simp at hu; subst hu; exact z2
  | 3, hu => simp at hu; subst hu; exact z3
  | 4, hu => simp at hu; subst hu; exact z4
  | j + 5, hu => simp at hu
end Go.Proofs.Ytlleebgkglbelaa
