/- Elements of catalogs: how they lie in memory, slices of them. -/
import Derived.Test.YtlleebgkglbelaaCso
set_option linter.unusedSimpArgs false
set_option linter.unusedVariables false
namespace Go.Proofs.Ytlleebgkglbelaa
open Go.RowKit

structure El where
  c : ByteArray
  g : ByteArray
  n : Int
  s : ByteArray
  l : ByteArray
deriving DecidableEq
def El.val (x : El) : Value := .agg #[.string x.c, .string x.g, .int .i64 x.n, .string x.s, .string x.l]
def El.zero : El := ⟨⟨#[]⟩, ⟨#[]⟩, 0, ⟨#[]⟩, ⟨#[]⟩⟩
theorem El.inj {x y : El} (h : x.val = y.val) : x = y := by
  cases x; cases y; simp [El.val] at h; simp [h]
/-- in a block -/
structure ElAt (w : World) (b : Nat) (x : El) : Prop where
  c0 : w.cell? ⟨b, 0, none⟩ = some (.string x.c)
  c1 : w.cell? ⟨b, 1, none⟩ = some (.string x.g)
  c2 : w.cell? ⟨b, 2, none⟩ = some (.int .i64 x.n)
  c3 : w.cell? ⟨b, 3, none⟩ = some (.string x.s)
  c4 : w.cell? ⟨b, 4, none⟩ = some (.string x.l)
  f : ∀ k, w.frozen? ⟨b, k, none⟩ = false
  lt : b < w.heap.size
theorem ElAt.low {B : Nat} {W w1 : World} {b : Nat} {x : El} (h : ElAt W b x) (hb : Below B W w1) (hB : b < B) : ElAt w1 b x :=
  ⟨(hb.cell (p := ⟨b, 0, none⟩) hB).trans h.c0, (hb.cell (p := ⟨b, 1, none⟩) hB).trans h.c1, (hb.cell (p := ⟨b, 2, none⟩) hB).trans h.c2, (hb.cell (p := ⟨b, 3, none⟩) hB).trans h.c3, (hb.cell (p := ⟨b, 4, none⟩) hB).trans h.c4, fun k => (hb.frozen (p := ⟨b, k, none⟩) hB).trans (h.f k), Nat.lt_of_lt_of_le h.lt hb.size⟩
theorem ElAt.keep {W w1 : World} {b : Nat} {x : El} (h : ElAt W b x) (hb : Below W.heap.size W w1) : ElAt w1 b x := h.low hb h.lt
theorem ElAt.grown {w w' : World} {row : Option Nat} {b : Nat} {x : El} (h : ElAt w b x) (hg : w.grownBy w' row) (hne : some b ≠ row) : ElAt w' b x :=
  ⟨(World.cell?_of_block (a := ⟨b, 0, none⟩) (hg.block b h.lt hne)).trans h.c0, (World.cell?_of_block (a := ⟨b, 1, none⟩) (hg.block b h.lt hne)).trans h.c1, (World.cell?_of_block (a := ⟨b, 2, none⟩) (hg.block b h.lt hne)).trans h.c2, (World.cell?_of_block (a := ⟨b, 3, none⟩) (hg.block b h.lt hne)).trans h.c3, (World.cell?_of_block (a := ⟨b, 4, none⟩) (hg.block b h.lt hne)).trans h.c4, fun k => (World.frozen?_of_block (a := ⟨b, k, none⟩) (hg.block b h.lt hne)).trans (h.f k), Nat.lt_of_lt_of_le h.lt hg.size⟩
theorem el_new (w : World) (x : El) (T : TypeId) : ElAt (w.alloc (.cells #[.string x.c, .string x.g, .int .i64 x.n, .string x.s, .string x.l] T)) w.heap.size x := by
  refine ⟨?_, ?_, ?_, ?_, ?_, fun k => ?_, ?_⟩
  all_goals simp [go_sem]
/-- all its cells stored anew -/
theorem el_set {W : World} {b : Nat} {x : El} (h : ElAt W b x) (y : El) : ElAt (((((W.setCell ⟨b, 0, none⟩ (.string y.c)).setCell ⟨b, 1, none⟩ (.string y.g)).setCell ⟨b, 2, none⟩ (.int .i64 y.n)).setCell ⟨b, 3, none⟩ (.string y.s)).setCell ⟨b, 4, none⟩ (.string y.l)) b y := by
  refine ⟨?_, ?_, ?_, ?_, ?_, fun k => ?_, ?_⟩
  · rw [cso _ b 4 0 _ (by decide), cso _ b 3 0 _ (by decide), cso _ b 2 0 _ (by decide), cso _ b 1 0 _ (by decide)]; exact World.cell?_setCell_same' _ _ _ (by rw [h.c0]; rfl)
  · rw [cso _ b 4 1 _ (by decide), cso _ b 3 1 _ (by decide), cso _ b 2 1 _ (by decide)]; exact World.cell?_setCell_same' _ _ _ (by rw [cso _ b 0 1 _ (by decide), h.c1]; rfl)
  · rw [cso _ b 4 2 _ (by decide), cso _ b 3 2 _ (by decide)]; exact World.cell?_setCell_same' _ _ _ (by rw [cso _ b 1 2 _ (by decide), cso _ b 0 2 _ (by decide), h.c2]; rfl)
  · rw [cso _ b 4 3 _ (by decide)]; exact World.cell?_setCell_same' _ _ _ (by rw [cso _ b 2 3 _ (by decide), cso _ b 1 3 _ (by decide), cso _ b 0 3 _ (by decide), h.c3]; rfl)
  · exact World.cell?_setCell_same' _ _ _ (by rw [cso _ b 3 4 _ (by decide), cso _ b 2 4 _ (by decide), cso _ b 1 4 _ (by decide), cso _ b 0 4 _ (by decide), h.c4]; rfl)
  · simp only [World.frozen?_setCell]; exact h.f k
  · simp; exact h.lt
def encE (t : El) : List Value := [.string t.c, .string t.g, .int .i64 t.n, .string t.s, .string t.l]
def flatE (L : List El) : List Value := L.flatMap encE
theorem flatE_snoc (L : List El) (t : El) : flatE (L ++ [t]) = flatE L ++ encE t := by
  unfold flatE; rw [List.flatMap_append]; simp
theorem flatE_len : ∀ (L : List El), (flatE L).length = L.length * 5
  | [] => rfl
  | p :: t => by
    have := flatE_len t
    unfold flatE at this ⊢
    rw [List.flatMap_cons, List.length_append, this]
    simp [encE]
    omega
theorem flatE_get : ∀ (L : List El) (k : Nat) (h : k < L.length), (flatE L)[k * 5]? = some (.string (L[k]'h).c) ∧ (flatE L)[k * 5 + 1]? = some (.string (L[k]'h).g) ∧ (flatE L)[k * 5 + 2]? = some (.int .i64 (L[k]'h).n) ∧ (flatE L)[k * 5 + 3]? = some (.string (L[k]'h).s) ∧ (flatE L)[k * 5 + 4]? = some (.string (L[k]'h).l)
  | [], k, h => by simp at h
  | p :: t, 0, _ => ⟨rfl, rfl, rfl, rfl, rfl⟩
  | p :: t, k + 1, h => by
    have ih := flatE_get t k (by simpa using h)
    rw [show (k + 1) * 5 = k * 5 + 5 by omega]
    exact ih
theorem flatE_one : ∀ (L : List El), ∀ u ∈ flatE L, u.oneCell' = true
  | [], u, h => by simp [flatE] at h
  | t :: l, u, h => by
    unfold flatE at h
    rw [List.flatMap_cons, List.mem_append] at h
    rcases h with h | h
    · simp only [encE, List.mem_cons, List.not_mem_nil, or_false] at h
      rcases h with rfl | rfl | rfl | rfl | rfl <;> rfl
    · exact flatE_one l u h
/-- a slice that reads as a list -/
structure SlE (w : World) (a : Option Addr) (b off len cap : Nat) (L : List El) : Prop where
  hl : L.length = len
  ha : 0 < len → a = some ⟨b, off, none⟩
  hb : 0 < len → b < w.heap.size
  hcap : len ≤ cap
  hmax : cap ≤ maxLen
  c0 : ∀ (k : Nat) (h : k < L.length), w.cell? ⟨b, off + k * 5, none⟩ = some (.string (L[k]'h).c)
  c1 : ∀ (k : Nat) (h : k < L.length), w.cell? ⟨b, off + k * 5 + 1, none⟩ = some (.string (L[k]'h).g)
  c2 : ∀ (k : Nat) (h : k < L.length), w.cell? ⟨b, off + k * 5 + 2, none⟩ = some (.int .i64 (L[k]'h).n)
  c3 : ∀ (k : Nat) (h : k < L.length), w.cell? ⟨b, off + k * 5 + 3, none⟩ = some (.string (L[k]'h).s)
  c4 : ∀ (k : Nat) (h : k < L.length), w.cell? ⟨b, off + k * 5 + 4, none⟩ = some (.string (L[k]'h).l)
theorem SlE.low {w w' : World} {B : Nat} {a : Option Addr} {b off len cap : Nat} {L : List El} (h : SlE w a b off len cap L) (hb : 0 < len → b < B) (hB : Below B w w') : SlE w' a b off len cap L := by
  obtain ⟨h1, h2, h3, h4, h5, h6, h7, h8, h9, h10⟩ := h
  refine ⟨h1, h2, fun h => Nat.lt_of_lt_of_le (h3 h) hB.size, h4, h5, fun k hk => ?_, fun k hk => ?_, fun k hk => ?_, fun k hk => ?_, fun k hk => ?_⟩
  · exact (hB.cell (p := ⟨b, _, none⟩) (hb (by omega))).trans (h6 k hk)
  · exact (hB.cell (p := ⟨b, _, none⟩) (hb (by omega))).trans (h7 k hk)
  · exact (hB.cell (p := ⟨b, _, none⟩) (hb (by omega))).trans (h8 k hk)
  · exact (hB.cell (p := ⟨b, _, none⟩) (hb (by omega))).trans (h9 k hk)
  · exact (hB.cell (p := ⟨b, _, none⟩) (hb (by omega))).trans (h10 k hk)
theorem SlE.keep {w w' : World} {a : Option Addr} {b off len cap : Nat} {L : List El} (h : SlE w a b off len cap L) (hB : Below w.heap.size w w') : SlE w' a b off len cap L := h.low h.hb hB
theorem SlE.drewN {w : World} {a : Option Addr} {b off len cap : Nat} {L : List El} (h : SlE w a b off len cap L) (n : Nat) : SlE (w.drewN n) a b off len cap L := ⟨h.hl, h.ha, h.hb, h.hcap, h.hmax, h.c0, h.c1, h.c2, h.c3, h.c4⟩
theorem sle_nil (w : World) (a : Option Addr) (b off cap : Nat) (h : cap ≤ maxLen) : SlE w a b off 0 cap [] :=
  ⟨rfl, fun h => absurd h (Nat.lt_irrefl 0), fun h => absurd h (Nat.lt_irrefl 0), Nat.zero_le _, h, fun k hk => absurd hk (Nat.not_lt_zero k), fun k hk => absurd hk (Nat.not_lt_zero k), fun k hk => absurd hk (Nat.not_lt_zero k), fun k hk => absurd hk (Nat.not_lt_zero k), fun k hk => absurd hk (Nat.not_lt_zero k)⟩
theorem SlE.grown {w w' : World} {row : Option Nat} {a : Option Addr} {b off len cap : Nat} {L : List El} (h : SlE w a b off len cap L) (hg : w.grownBy w' row) (hne : 0 < len → some b ≠ row) : SlE w' a b off len cap L := by
  obtain ⟨h1, h2, h3, h4, h5, h6, h7, h8, h9, h10⟩ := h
  refine ⟨h1, h2, fun h => Nat.lt_of_lt_of_le (h3 h) hg.size, h4, h5, fun k hk => ?_, fun k hk => ?_, fun k hk => ?_, fun k hk => ?_, fun k hk => ?_⟩
  · exact (World.cell?_of_block (a := ⟨b, _, none⟩) (hg.block b (h3 (by omega)) (hne (by omega)))).trans (h6 k hk)
  · exact (World.cell?_of_block (a := ⟨b, _, none⟩) (hg.block b (h3 (by omega)) (hne (by omega)))).trans (h7 k hk)
  · exact (World.cell?_of_block (a := ⟨b, _, none⟩) (hg.block b (h3 (by omega)) (hne (by omega)))).trans (h8 k hk)
  · exact (World.cell?_of_block (a := ⟨b, _, none⟩) (hg.block b (h3 (by omega)) (hne (by omega)))).trans (h9 k hk)
  · exact (World.cell?_of_block (a := ⟨b, _, none⟩) (hg.block b (h3 (by omega)) (hne (by omega)))).trans (h10 k hk)
/-- a slice of the call's own, read -/
theorem sle_own {w : World} {base e : Nat} {v : Value} {L : List El} (h : w.ownsRow base e 5 v L.length (flatE L)) :
    ∃ a b cap, v = .slice a L.length cap ∧ SlE w a b 0 L.length cap L ∧ (0 < L.length → base ≤ b) := by
  have hcell := h
  rcases h.2 with ⟨rfl, h0⟩ | ⟨g, cap, cur, rfl, hg, hb, h1, h2, h3, h4⟩
  · have : L = [] := List.eq_nil_of_length_eq_zero h0
    subst this
    exact ⟨none, 0, 0, rfl, sle_nil w _ _ _ _ (Nat.zero_le _), fun h => absurd h (Nat.lt_irrefl 0)⟩
  · have hgs : g < w.heap.size := (Array.getElem?_eq_some_iff.1 hb).1
    refine ⟨_, g, cap, rfl, ⟨rfl, fun _ => rfl, fun _ => hgs, h1, h2, fun k hk => ?_, fun k hk => ?_, fun k hk => ?_, fun k hk => ?_, fun k hk => ?_⟩, fun _ => hg⟩
    all_goals obtain ⟨e0, e1, e2, e3, e4⟩ := flatE_get L k hk
    · rw [Nat.zero_add, hcell.cellAt (k * 5) (by omega), e0]
    · rw [Nat.zero_add, hcell.cellAt (k * 5 + 1) (by omega), e1]
    · rw [Nat.zero_add, hcell.cellAt (k * 5 + 2) (by omega), e2]
    · rw [Nat.zero_add, hcell.cellAt (k * 5 + 3) (by omega), e3]
    · rw [Nat.zero_add, hcell.cellAt (k * 5 + 4) (by omega), e4]
theorem infoE : (Try.prog.info? 66).map (fun i => (i.zero, i.size, i.bytes)) = some (some (.agg #[.string ⟨#[]⟩, .string ⟨#[]⟩, .int .i64 0, .string ⟨#[]⟩, .string ⟨#[]⟩]), 5, 72) := by kernel_rfl
theorem el_cells (w : World) (t : El) : ∀ j u, (encE t)[j]? = some u → (w.alloc (.cells #[.string t.c, .string t.g, .int .i64 t.n, .string t.s, .string t.l] 66)).cell? ((⟨w.heap.size, 0, none⟩ : Addr).add j) = some u := by
  intro j u hu
  obtain ⟨z0, z1, z2, z3, z4, _, _⟩ := el_new w t 66
  unfold encE at hu
  match j, hu with
  | 0, hu => simp at hu; subst hu; exact z0
  | 1, hu => simp at hu; subst hu; exact z1
  | 2, hu => simp at hu; subst hu; exact z2
  | 3, hu => simp at hu; subst hu; exact z3
  | 4, hu => simp at hu; subst hu; exact z4
  | j + 5, hu => simp at hu
end Go.Proofs.Ytlleebgkglbelaa
