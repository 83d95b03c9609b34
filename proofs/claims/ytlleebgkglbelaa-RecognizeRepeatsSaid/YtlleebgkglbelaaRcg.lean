/- Recognized items: how they lie in memory, slices of them. -/
import Derived.Test.YtlleebgkglbelaaCso
set_option linter.unusedSimpArgs false
set_option linter.unusedVariables false
namespace Go.Proofs.Ytlleebgkglbelaa
open Go.RowKit

structure Rg where
  k : Bool
  c : ByteArray
  g : ByteArray
  s : ByteArray
  n : Int
  r : Bool
  j : Bool
deriving DecidableEq
def Rg.val (x : Rg) : Value := .agg #[.bool x.k, .string x.c, .string x.g, .string x.s, .int .i64 x.n, .bool x.r, .bool x.j]
def Rg.zero : Rg := ⟨false, ⟨#[]⟩, ⟨#[]⟩, ⟨#[]⟩, 0, false, false⟩
theorem Rg.inj {x y : Rg} (h : x.val = y.val) : x = y := by
  cases x; cases y; simp [Rg.val] at h; simp [h]
/-- in a block -/
structure RgAt (w : World) (b : Nat) (x : Rg) : Prop where
  c0 : w.cell? ⟨b, 0, none⟩ = some (.bool x.k)
  c1 : w.cell? ⟨b, 1, none⟩ = some (.string x.c)
  c2 : w.cell? ⟨b, 2, none⟩ = some (.string x.g)
  c3 : w.cell? ⟨b, 3, none⟩ = some (.string x.s)
  c4 : w.cell? ⟨b, 4, none⟩ = some (.int .i64 x.n)
  c5 : w.cell? ⟨b, 5, none⟩ = some (.bool x.r)
  c6 : w.cell? ⟨b, 6, none⟩ = some (.bool x.j)
  f : ∀ k, w.frozen? ⟨b, k, none⟩ = false
  lt : b < w.heap.size
theorem RgAt.low {B : Nat} {W w1 : World} {b : Nat} {x : Rg} (h : RgAt W b x) (hb : Below B W w1) (hB : b < B) : RgAt w1 b x :=
  ⟨(hb.cell (p := ⟨b, 0, none⟩) hB).trans h.c0, (hb.cell (p := ⟨b, 1, none⟩) hB).trans h.c1, (hb.cell (p := ⟨b, 2, none⟩) hB).trans h.c2, (hb.cell (p := ⟨b, 3, none⟩) hB).trans h.c3, (hb.cell (p := ⟨b, 4, none⟩) hB).trans h.c4, (hb.cell (p := ⟨b, 5, none⟩) hB).trans h.c5, (hb.cell (p := ⟨b, 6, none⟩) hB).trans h.c6, fun k => (hb.frozen (p := ⟨b, k, none⟩) hB).trans (h.f k), Nat.lt_of_lt_of_le h.lt hb.size⟩
theorem RgAt.keep {W w1 : World} {b : Nat} {x : Rg} (h : RgAt W b x) (hb : Below W.heap.size W w1) : RgAt w1 b x := h.low hb h.lt
theorem RgAt.grown {w w' : World} {row : Option Nat} {b : Nat} {x : Rg} (h : RgAt w b x) (hg : w.grownBy w' row) (hne : some b ≠ row) : RgAt w' b x :=
  ⟨(World.cell?_of_block (a := ⟨b, 0, none⟩) (hg.block b h.lt hne)).trans h.c0, (World.cell?_of_block (a := ⟨b, 1, none⟩) (hg.block b h.lt hne)).trans h.c1, (World.cell?_of_block (a := ⟨b, 2, none⟩) (hg.block b h.lt hne)).trans h.c2, (World.cell?_of_block (a := ⟨b, 3, none⟩) (hg.block b h.lt hne)).trans h.c3, (World.cell?_of_block (a := ⟨b, 4, none⟩) (hg.block b h.lt hne)).trans h.c4, (World.cell?_of_block (a := ⟨b, 5, none⟩) (hg.block b h.lt hne)).trans h.c5, (World.cell?_of_block (a := ⟨b, 6, none⟩) (hg.block b h.lt hne)).trans h.c6, fun k => (World.frozen?_of_block (a := ⟨b, k, none⟩) (hg.block b h.lt hne)).trans (h.f k), Nat.lt_of_lt_of_le h.lt hg.size⟩
theorem rg_new (w : World) (x : Rg) (T : TypeId) : RgAt (w.alloc (.cells #[.bool x.k, .string x.c, .string x.g, .string x.s, .int .i64 x.n, .bool x.r, .bool x.j] T)) w.heap.size x := by
  refine ⟨?_, ?_, ?_, ?_, ?_, ?_, ?_, fun k => ?_, ?_⟩
  all_goals simp [go_sem]
/-- all its cells stored anew -/
theorem rg_set {W : World} {b : Nat} {x : Rg} (h : RgAt W b x) (y : Rg) : RgAt (((((((W.setCell ⟨b, 0, none⟩ (.bool y.k)).setCell ⟨b, 1, none⟩ (.string y.c)).setCell ⟨b, 2, none⟩ (.string y.g)).setCell ⟨b, 3, none⟩ (.string y.s)).setCell ⟨b, 4, none⟩ (.int .i64 y.n)).setCell ⟨b, 5, none⟩ (.bool y.r)).setCell ⟨b, 6, none⟩ (.bool y.j)) b y := by
  refine ⟨?_, ?_, ?_, ?_, ?_, ?_, ?_, fun k => ?_, ?_⟩
  · rw [cso _ b 6 0 _ (by decide), cso _ b 5 0 _ (by decide), cso _ b 4 0 _ (by decide), cso _ b 3 0 _ (by decide), cso _ b 2 0 _ (by decide), cso _ b 1 0 _ (by decide)]; exact World.cell?_setCell_same' _ _ _ (by rw [h.c0]; rfl)
  · rw [cso _ b 6 1 _ (by decide), cso _ b 5 1 _ (by decide), cso _ b 4 1 _ (by decide), cso _ b 3 1 _ (by decide), cso _ b 2 1 _ (by decide)]; exact World.cell?_setCell_same' _ _ _ (by rw [cso _ b 0 1 _ (by decide), h.c1]; rfl)
  · rw [cso _ b 6 2 _ (by decide), cso _ b 5 2 _ (by decide), cso _ b 4 2 _ (by decide), cso _ b 3 2 _ (by decide)]; exact World.cell?_setCell_same' _ _ _ (by rw [cso _ b 1 2 _ (by decide), cso _ b 0 2 _ (by decide), h.c2]; rfl)
  · rw [cso _ b 6 3 _ (by decide), cso _ b 5 3 _ (by decide), cso _ b 4 3 _ (by decide)]; exact World.cell?_setCell_same' _ _ _ (by rw [cso _ b 2 3 _ (by decide), cso _ b 1 3 _ (by decide), cso _ b 0 3 _ (by decide), h.c3]; rfl)
  · rw [cso _ b 6 4 _ (by decide), cso _ b 5 4 _ (by decide)]; exact World.cell?_setCell_same' _ _ _ (by rw [cso _ b 3 4 _ (by decide), cso _ b 2 4 _ (by decide), cso _ b 1 4 _ (by decide), cso _ b 0 4 _ (by decide), h.c4]; rfl)
  · rw [cso _ b 6 5 _ (by decide)]; exact World.cell?_setCell_same' _ _ _ (by rw [cso _ b 4 5 _ (by decide), cso _ b 3 5 _ (by decide), cso _ b 2 5 _ (by decide), cso _ b 1 5 _ (by decide), cso _ b 0 5 _ (by decide), h.c5]; rfl)
  · exact World.cell?_setCell_same' _ _ _ (by rw [cso _ b 5 6 _ (by decide), cso _ b 4 6 _ (by decide), cso _ b 3 6 _ (by decide), cso _ b 2 6 _ (by decide), cso _ b 1 6 _ (by decide), cso _ b 0 6 _ (by decide), h.c6]; rfl)
  · simp only [World.frozen?_setCell]; exact h.f k
  · simp; exact h.lt
def encR (t : Rg) : List Value := [.bool t.k, .string t.c, .string t.g, .string t.s, .int .i64 t.n, .bool t.r, .bool t.j]
def flatR (L : List Rg) : List Value := L.flatMap encR
theorem flatR_snoc (L : List Rg) (t : Rg) : flatR (L ++ [t]) = flatR L ++ encR t := by
  unfold flatR; rw [List.flatMap_append]; simp
theorem flatR_len : ∀ (L : List Rg), (flatR L).length = L.length * 7
  | [] => rfl
  | p :: t => by
    have := flatR_len t
    unfold flatR at this ⊢
    rw [List.flatMap_cons, List.length_append, this]
    simp [encR]
    omega
theorem flatR_get : ∀ (L : List Rg) (k : Nat) (h : k < L.length), (flatR L)[k * 7]? = some (.bool (L[k]'h).k) ∧ (flatR L)[k * 7 + 1]? = some (.string (L[k]'h).c) ∧ (flatR L)[k * 7 + 2]? = some (.string (L[k]'h).g) ∧ (flatR L)[k * 7 + 3]? = some (.string (L[k]'h).s) ∧ (flatR L)[k * 7 + 4]? = some (.int .i64 (L[k]'h).n) ∧ (flatR L)[k * 7 + 5]? = some (.bool (L[k]'h).r) ∧ (flatR L)[k * 7 + 6]? = some (.bool (L[k]'h).j)
  | [], k, h => by simp at h
  | p :: t, 0, _ => ⟨rfl, rfl, rfl, rfl, rfl, rfl, rfl⟩
  | p :: t, k + 1, h => by
    have ih := flatR_get t k (by simpa using h)
    rw [show (k + 1) * 7 = k * 7 + 7 by omega]
    exact ih
theorem flatR_one : ∀ (L : List Rg), ∀ u ∈ flatR L, u.oneCell' = true
  | [], u, h => by simp [flatR] at h
  | t :: l, u, h => by
    unfold flatR at h
    rw [List.flatMap_cons, List.mem_append] at h
    rcases h with h | h
    · simp only [encR, List.mem_cons, List.not_mem_nil, or_false] at h
      rcases h with rfl | rfl | rfl | rfl | rfl | rfl | rfl <;> rfl
    · exact flatR_one l u h
/-- a slice that reads as a list -/
structure SlR (w : World) (a : Option Addr) (b off len cap : Nat) (L : List Rg) : Prop where
  hl : L.length = len
  ha : 0 < len → a = some ⟨b, off, none⟩
  hb : 0 < len → b < w.heap.size
  hcap : len ≤ cap
  hmax : cap ≤ maxLen
  c0 : ∀ (k : Nat) (h : k < L.length), w.cell? ⟨b, off + k * 7, none⟩ = some (.bool (L[k]'h).k)
  c1 : ∀ (k : Nat) (h : k < L.length), w.cell? ⟨b, off + k * 7 + 1, none⟩ = some (.string (L[k]'h).c)
  c2 : ∀ (k : Nat) (h : k < L.length), w.cell? ⟨b, off + k * 7 + 2, none⟩ = some (.string (L[k]'h).g)
  c3 : ∀ (k : Nat) (h : k < L.length), w.cell? ⟨b, off + k * 7 + 3, none⟩ = some (.string (L[k]'h).s)
  c4 : ∀ (k : Nat) (h : k < L.length), w.cell? ⟨b, off + k * 7 + 4, none⟩ = some (.int .i64 (L[k]'h).n)
  c5 : ∀ (k : Nat) (h : k < L.length), w.cell? ⟨b, off + k * 7 + 5, none⟩ = some (.bool (L[k]'h).r)
  c6 : ∀ (k : Nat) (h : k < L.length), w.cell? ⟨b, off + k * 7 + 6, none⟩ = some (.bool (L[k]'h).j)
theorem SlR.low {w w' : World} {B : Nat} {a : Option Addr} {b off len cap : Nat} {L : List Rg} (h : SlR w a b off len cap L) (hb : 0 < len → b < B) (hB : Below B w w') : SlR w' a b off len cap L := by
  obtain ⟨h1, h2, h3, h4, h5, h6, h7, h8, h9, h10, h11, h12⟩ := h
  refine ⟨h1, h2, fun h => Nat.lt_of_lt_of_le (h3 h) hB.size, h4, h5, fun k hk => ?_, fun k hk => ?_, fun k hk => ?_, fun k hk => ?_, fun k hk => ?_, fun k hk => ?_, fun k hk => ?_⟩
  · exact (hB.cell (p := ⟨b, _, none⟩) (hb (by omega))).trans (h6 k hk)
  · exact (hB.cell (p := ⟨b, _, none⟩) (hb (by omega))).trans (h7 k hk)
  · exact (hB.cell (p := ⟨b, _, none⟩) (hb (by omega))).trans (h8 k hk)
  · exact (hB.cell (p := ⟨b, _, none⟩) (hb (by omega))).trans (h9 k hk)
  · exact (hB.cell (p := ⟨b, _, none⟩) (hb (by omega))).trans (h10 k hk)
  · exact (hB.cell (p := ⟨b, _, none⟩) (hb (by omega))).trans (h11 k hk)
  · exact (hB.cell (p := ⟨b, _, none⟩) (hb (by omega))).trans (h12 k hk)
theorem SlR.keep {w w' : World} {a : Option Addr} {b off len cap : Nat} {L : List Rg} (h : SlR w a b off len cap L) (hB : Below w.heap.size w w') : SlR w' a b off len cap L := h.low h.hb hB
theorem SlR.drewN {w : World} {a : Option Addr} {b off len cap : Nat} {L : List Rg} (h : SlR w a b off len cap L) (n : Nat) : SlR (w.drewN n) a b off len cap L := ⟨h.hl, h.ha, h.hb, h.hcap, h.hmax, h.c0, h.c1, h.c2, h.c3, h.c4, h.c5, h.c6⟩
theorem slr_nil (w : World) (a : Option Addr) (b off cap : Nat) (h : cap ≤ maxLen) : SlR w a b off 0 cap [] :=
  ⟨rfl, fun h => absurd h (Nat.lt_irrefl 0), fun h => absurd h (Nat.lt_irrefl 0), Nat.zero_le _, h, fun k hk => absurd hk (Nat.not_lt_zero k), fun k hk => absurd hk (Nat.not_lt_zero k), fun k hk => absurd hk (Nat.not_lt_zero k), fun k hk => absurd hk (Nat.not_lt_zero k), fun k hk => absurd hk (Nat.not_lt_zero k), fun k hk => absurd hk (Nat.not_lt_zero k), fun k hk => absurd hk (Nat.not_lt_zero k)⟩
theorem SlR.grown {w w' : World} {row : Option Nat} {a : Option Addr} {b off len cap : Nat} {L : List Rg} (h : SlR w a b off len cap L) (hg : w.grownBy w' row) (hne : 0 < len → some b ≠ row) : SlR w' a b off len cap L := by
  obtain ⟨h1, h2, h3, h4, h5, h6, h7, h8, h9, h10, h11, h12⟩ := h
  refine ⟨h1, h2, fun h => Nat.lt_of_lt_of_le (h3 h) hg.size, h4, h5, fun k hk => ?_, fun k hk => ?_, fun k hk => ?_, fun k hk => ?_, fun k hk => ?_, fun k hk => ?_, fun k hk => ?_⟩
  · exact (World.cell?_of_block (a := ⟨b, _, none⟩) (hg.block b (h3 (by omega)) (hne (by omega)))).trans (h6 k hk)
  · exact (World.cell?_of_block (a := ⟨b, _, none⟩) (hg.block b (h3 (by omega)) (hne (by omega)))).trans (h7 k hk)
  · exact (World.cell?_of_block (a := ⟨b, _, none⟩) (hg.block b (h3 (by omega)) (hne (by omega)))).trans (h8 k hk)
  · exact (World.cell?_of_block (a := ⟨b, _, none⟩) (hg.block b (h3 (by omega)) (hne (by omega)))).trans (h9 k hk)
  · exact (World.cell?_of_block (a := ⟨b, _, none⟩) (hg.block b (h3 (by omega)) (hne (by omega)))).trans (h10 k hk)
  · exact (World.cell?_of_block (a := ⟨b, _, none⟩) (hg.block b (h3 (by omega)) (hne (by omega)))).trans (h11 k hk)
  · exact (World.cell?_of_block (a := ⟨b, _, none⟩) (hg.block b (h3 (by omega)) (hne (by omega)))).trans (h12 k hk)
/-- a slice of the call's own, read -/
theorem slr_own {w : World} {base e : Nat} {v : Value} {L : List Rg} (h : w.ownsRow base e 7 v L.length (flatR L)) :
    ∃ a b cap, v = .slice a L.length cap ∧ SlR w a b 0 L.length cap L ∧ (0 < L.length → base ≤ b) := by
  have hcell := h
  rcases h.2 with ⟨rfl, h0⟩ | ⟨g, cap, cur, rfl, hg, hb, h1, h2, h3, h4⟩
  · have : L = [] := List.eq_nil_of_length_eq_zero h0
    subst this
    exact ⟨none, 0, 0, rfl, slr_nil w _ _ _ _ (Nat.zero_le _), fun h => absurd h (Nat.lt_irrefl 0)⟩
  · have hgs : g < w.heap.size := (Array.getElem?_eq_some_iff.1 hb).1
    refine ⟨_, g, cap, rfl, ⟨rfl, fun _ => rfl, fun _ => hgs, h1, h2, fun k hk => ?_, fun k hk => ?_, fun k hk => ?_, fun k hk => ?_, fun k hk => ?_, fun k hk => ?_, fun k hk => ?_⟩, fun _ => hg⟩
    all_goals obtain ⟨e0, e1, e2, e3, e4, e5, e6⟩ := flatR_get L k hk
    · rw [Nat.zero_add, hcell.cellAt (k * 7) (by omega), e0]
    · rw [Nat.zero_add, hcell.cellAt (k * 7 + 1) (by omega), e1]
    · rw [Nat.zero_add, hcell.cellAt (k * 7 + 2) (by omega), e2]
    · rw [Nat.zero_add, hcell.cellAt (k * 7 + 3) (by omega), e3]
    · rw [Nat.zero_add, hcell.cellAt (k * 7 + 4) (by omega), e4]
    · rw [Nat.zero_add, hcell.cellAt (k * 7 + 5) (by omega), e5]
    · rw [Nat.zero_add, hcell.cellAt (k * 7 + 6) (by omega), e6]
theorem infoR : (Try.prog.info? 35).map (fun i => (i.zero, i.size, i.bytes)) = some (some (.agg #[.bool false, .string ⟨#[]⟩, .string ⟨#[]⟩, .string ⟨#[]⟩, .int .i64 0, .bool false, .bool false]), 7, 72) := by kernel_rfl
theorem rg_cells (w : World) (t : Rg) : ∀ j u, (encR t)[j]? = some u → (w.alloc (.cells #[.bool t.k, .string t.c, .string t.g, .string t.s, .int .i64 t.n, .bool t.r, .bool t.j] 35)).cell? ((⟨w.heap.size, 0, none⟩ : Addr).add j) = some u := by
  intro j u hu
  obtain ⟨z0, z1, z2, z3, z4, z5, z6, _, _⟩ := rg_new w t 35
  unfold encR at hu
  match j, hu with
  | 0, hu => simp at hu; subst hu; exact z0
  | 1, hu => simp at hu; subst hu; exact z1
  | 2, hu => simp at hu; subst hu; exact z2
  | 3, hu => simp at hu; subst hu; exact z3
  | 4, hu => simp at hu; subst hu; exact z4
  | 5, hu => simp at hu; subst hu; exact z5
  | 6, hu => simp at hu; subst hu; exact z6
  | j + 7, hu => simp at hu
end Go.Proofs.Ytlleebgkglbelaa
