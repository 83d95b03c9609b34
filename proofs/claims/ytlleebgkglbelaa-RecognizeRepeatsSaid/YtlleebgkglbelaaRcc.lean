/- Connects of catalogs: how they lie in memory, slices of them. -/
import Derived.Test.YtlleebgkglbelaaCso
set_option linter.unusedSimpArgs false
set_option linter.unusedVariables false
namespace Go.Proofs.Ytlleebgkglbelaa
open Go.RowKit

structure Cn where
  f : ByteArray
  s : ByteArray
  n : Int
deriving DecidableEq
def Cn.val (x : Cn) : Value := .agg #[.string x.f, .string x.s, .int .i64 x.n]
def Cn.zero : Cn := ⟨⟨#[]⟩, ⟨#[]⟩, 0⟩
theorem Cn.inj {x y : Cn} (h : x.val = y.val) : x = y := by
  cases x; cases y; simp [Cn.val] at h; simp [h]
/-- in a block -/
structure CnAt (w : World) (b : Nat) (x : Cn) : Prop where
  c0 : w.cell? ⟨b, 0, none⟩ = some (.string x.f)
  c1 : w.cell? ⟨b, 1, none⟩ = some (.string x.s)
  c2 : w.cell? ⟨b, 2, none⟩ = some (.int .i64 x.n)
  f : ∀ k, w.frozen? ⟨b, k, none⟩ = false
  lt : b < w.heap.size
theorem CnAt.low {B : Nat} {W w1 : World} {b : Nat} {x : Cn} (h : CnAt W b x) (hb : Below B W w1) (hB : b < B) : CnAt w1 b x :=
  ⟨(hb.cell (p := ⟨b, 0, none⟩) hB).trans h.c0, (hb.cell (p := ⟨b, 1, none⟩) hB).trans h.c1, (hb.cell (p := ⟨b, 2, none⟩) hB).trans h.c2, fun k => (hb.frozen (p := ⟨b, k, none⟩) hB).trans (h.f k), Nat.lt_of_lt_of_le h.lt hb.size⟩
theorem CnAt.keep {W w1 : World} {b : Nat} {x : Cn} (h : CnAt W b x) (hb : Below W.heap.size W w1) : CnAt w1 b x := h.low hb h.lt
theorem CnAt.grown {w w' : World} {row : Option Nat} {b : Nat} {x : Cn} (h : CnAt w b x) (hg : w.grownBy w' row) (hne : some b ≠ row) : CnAt w' b x :=
  ⟨(World.cell?_of_block (a := ⟨b, 0, none⟩) (hg.block b h.lt hne)).trans h.c0, (World.cell?_of_block (a := ⟨b, 1, none⟩) (hg.block b h.lt hne)).trans h.c1, (World.cell?_of_block (a := ⟨b, 2, none⟩) (hg.block b h.lt hne)).trans h.c2, fun k => (World.frozen?_of_block (a := ⟨b, k, none⟩) (hg.block b h.lt hne)).trans (h.f k), Nat.lt_of_lt_of_le h.lt hg.size⟩
theorem cn_new (w : World) (x : Cn) (T : TypeId) : CnAt (w.alloc (.cells #[.string x.f, .string x.s, .int .i64 x.n] T)) w.heap.size x := by
  refine ⟨?_, ?_, ?_, fun k => ?_, ?_⟩
  all_goals simp [go_sem]
/-- all its cells stored anew -/
theorem cn_set {W : World} {b : Nat} {x : Cn} (h : CnAt W b x) (y : Cn) : CnAt (((W.setCell ⟨b, 0, none⟩ (.string y.f)).setCell ⟨b, 1, none⟩ (.string y.s)).setCell ⟨b, 2, none⟩ (.int .i64 y.n)) b y := by
  refine ⟨?_, ?_, ?_, fun k => ?_, ?_⟩
  · rw [cso _ b 2 0 _ (by decide), cso _ b 1 0 _ (by decide)]; exact World.cell?_setCell_same' _ _ _ (by rw [h.c0]; rfl)
  · rw [cso _ b 2 1 _ (by decide)]; exact World.cell?_setCell_same' _ _ _ (by rw [cso _ b 0 1 _ (by decide), h.c1]; rfl)
  · exact World.cell?_setCell_same' _ _ _ (by rw [cso _ b 1 2 _ (by decide), cso _ b 0 2 _ (by decide), h.c2]; rfl)
  · simp only [World.frozen?_setCell]; exact h.f k
  · simp; exact h.lt
def encC (t : Cn) : List Value := [.string t.f, .string t.s, .int .i64 t.n]
def flatC (L : List Cn) : List Value := L.flatMap encC
theorem flatC_snoc (L : List Cn) (t : Cn) : flatC (L ++ [t]) = flatC L ++ encC t := by
  unfold flatC; rw [List.flatMap_append]; simp
theorem flatC_len : ∀ (L : List Cn), (flatC L).length = L.length * 3
  | [] => rfl
  | p :: t => by
    have := flatC_len t
    unfold flatC at this ⊢
    rw [List.flatMap_cons, List.length_append, this]
    simp [encC]
    omega
theorem flatC_get : ∀ (L : List Cn) (k : Nat) (h : k < L.length), (flatC L)[k * 3]? = some (.string (L[k]'h).f) ∧ (flatC L)[k * 3 + 1]? = some (.string (L[k]'h).s) ∧ (flatC L)[k * 3 + 2]? = some (.int .i64 (L[k]'h).n)
  | [], k, h => by simp at h
  | p :: t, 0, _ => ⟨rfl, rfl, rfl⟩
  | p :: t, k + 1, h => by
    have ih := flatC_get t k (by simpa using h)
    rw [show (k + 1) * 3 = k * 3 + 3 by omega]
    exact ih
theorem flatC_one : ∀ (L : List Cn), ∀ u ∈ flatC L, u.oneCell' = true
  | [], u, h => by simp [flatC] at h
  | t :: l, u, h => by
    unfold flatC at h
    rw [List.flatMap_cons, List.mem_append] at h
    rcases h with h | h
    · simp only [encC, List.mem_cons, List.not_mem_nil, or_false] at h
      rcases h with rfl | rfl | rfl <;> rfl
    · exact flatC_one l u h
/-- a slice that reads as a list -/
structure SlC (w : World) (a : Option Addr) (b off len cap : Nat) (L : List Cn) : Prop where
  hl : L.length = len
  ha : 0 < len → a = some ⟨b, off, none⟩
  hb : 0 < len → b < w.heap.size
  hcap : len ≤ cap
  hmax : cap ≤ maxLen
  c0 : ∀ (k : Nat) (h : k < L.length), w.cell? ⟨b, off + k * 3, none⟩ = some (.string (L[k]'h).f)
  c1 : ∀ (k : Nat) (h : k < L.length), w.cell? ⟨b, off + k * 3 + 1, none⟩ = some (.string (L[k]'h).s)
  c2 : ∀ (k : Nat) (h : k < L.length), w.cell? ⟨b, off + k * 3 + 2, none⟩ = some (.int .i64 (L[k]'h).n)
theorem SlC.low {w w' : World} {B : Nat} {a : Option Addr} {b off len cap : Nat} {L : List Cn} (h : SlC w a b off len cap L) (hb : 0 < len → b < B) (hB : Below B w w') : SlC w' a b off len cap L := by
  obtain ⟨h1, h2, h3, h4, h5, h6, h7, h8⟩ := h
  refine ⟨h1, h2, fun h => Nat.lt_of_lt_of_le (h3 h) hB.size, h4, h5, fun k hk => ?_, fun k hk => ?_, fun k hk => ?_⟩
  · exact (hB.cell (p := ⟨b, _, none⟩) (hb (by omega))).trans (h6 k hk)
  · exact (hB.cell (p := ⟨b, _, none⟩) (hb (by omega))).trans (h7 k hk)
  · exact (hB.cell (p := ⟨b, _, none⟩) (hb (by omega))).trans (h8 k hk)
theorem SlC.keep {w w' : World} {a : Option Addr} {b off len cap : Nat} {L : List Cn} (h : SlC w a b off len cap L) (hB : Below w.heap.size w w') : SlC w' a b off len cap L := h.low h.hb hB
theorem SlC.drewN {w : World} {a : Option Addr} {b off len cap : Nat} {L : List Cn} (h : SlC w a b off len cap L) (n : Nat) : SlC (w.drewN n) a b off len cap L := ⟨h.hl, h.ha, h.hb, h.hcap, h.hmax, h.c0, h.c1, h.c2⟩
theorem slc_nil (w : World) (a : Option Addr) (b off cap : Nat) (h : cap ≤ maxLen) : SlC w a b off 0 cap [] :=
  ⟨rfl, fun h => absurd h (Nat.lt_irrefl 0), fun h => absurd h (Nat.lt_irrefl 0), Nat.zero_le _, h, fun k hk => absurd hk (Nat.not_lt_zero k), fun k hk => absurd hk (Nat.not_lt_zero k), fun k hk => absurd hk (Nat.not_lt_zero k)⟩
theorem SlC.grown {w w' : World} {row : Option Nat} {a : Option Addr} {b off len cap : Nat} {L : List Cn} (h : SlC w a b off len cap L) (hg : w.grownBy w' row) (hne : 0 < len → some b ≠ row) : SlC w' a b off len cap L := by
  obtain ⟨h1, h2, h3, h4, h5, h6, h7, h8⟩ := h
  refine ⟨h1, h2, fun h => Nat.lt_of_lt_of_le (h3 h) hg.size, h4, h5, fun k hk => ?_, fun k hk => ?_, fun k hk => ?_⟩
  · exact (World.cell?_of_block (a := ⟨b, _, none⟩) (hg.block b (h3 (by omega)) (hne (by omega)))).trans (h6 k hk)
  · exact (World.cell?_of_block (a := ⟨b, _, none⟩) (hg.block b (h3 (by omega)) (hne (by omega)))).trans (h7 k hk)
  · exact (World.cell?_of_block (a := ⟨b, _, none⟩) (hg.block b (h3 (by omega)) (hne (by omega)))).trans (h8 k hk)
/-- a slice of the call's own, read -/
theorem slc_own {w : World} {base e : Nat} {v : Value} {L : List Cn} (h : w.ownsRow base e 3 v L.length (flatC L)) :
    ∃ a b cap, v = .slice a L.length cap ∧ SlC w a b 0 L.length cap L ∧ (0 < L.length → base ≤ b) := by
  have hcell := h
  rcases h.2 with ⟨rfl, h0⟩ | ⟨g, cap, cur, rfl, hg, hb, h1, h2, h3, h4⟩
  · have : L = [] := List.eq_nil_of_length_eq_zero h0
    subst this
    exact ⟨none, 0, 0, rfl, slc_nil w _ _ _ _ (Nat.zero_le _), fun h => absurd h (Nat.lt_irrefl 0)⟩
  · have hgs : g < w.heap.size := (Array.getElem?_eq_some_iff.1 hb).1
    refine ⟨_, g, cap, rfl, ⟨rfl, fun _ => rfl, fun _ => hgs, h1, h2, fun k hk => ?_, fun k hk => ?_, fun k hk => ?_⟩, fun _ => hg⟩
    all_goals obtain ⟨e0, e1, e2⟩ := flatC_get L k hk
    · rw [Nat.zero_add, hcell.cellAt (k * 3) (by omega), e0]
    · rw [Nat.zero_add, hcell.cellAt (k * 3 + 1) (by omega), e1]
    · rw [Nat.zero_add, hcell.cellAt (k * 3 + 2) (by omega), e2]
theorem infoC : (Try.prog.info? 89).map (fun i => (i.zero, i.size, i.bytes)) = some (some (.agg #[.string ⟨#[]⟩, .string ⟨#[]⟩, .int .i64 0]), 3, 40) := by kernel_rfl
theorem cn_cells (w : World) (t : Cn) : ∀ j u, (encC t)[j]? = some u → (w.alloc (.cells #[.string t.f, .string t.s, .int .i64 t.n] 89)).cell? ((⟨w.heap.size, 0, none⟩ : Addr).add j) = some u := by
  intro j u hu
  obtain ⟨z0, z1, z2, _, _⟩ := cn_new w t 89
  unfold encC at hu
  match j, hu with
  | 0, hu => simp at hu; subst hu; exact z0
  | 1, hu => simp at hu; subst hu; exact z1
  | 2, hu => simp at hu; subst hu; exact z2
  | j + 3, hu => simp at hu
end Go.Proofs.Ytlleebgkglbelaa
