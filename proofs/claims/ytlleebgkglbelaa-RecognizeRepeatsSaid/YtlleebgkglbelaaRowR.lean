/- Slices of recognized items that are arguments, opened. -/
import Derived.Test.YtlleebgkglbelaaRowK
import Derived.Test.YtlleebgkglbelaaRcg
set_option linter.unusedSimpArgs false
set_option linter.unusedVariables false
namespace Go.Proofs.Ytlleebgkglbelaa
open Go.ChangeShapes Go.WideShapes Go.ChangeAt Go.RowKit Go.Joins Go.Deep

instance : Inhabited Rg := ⟨Rg.zero⟩
theorem cellsLR : Try.prog.cellsOf 2 = 1 := by kernel_rfl
theorem cells_rg : Try.prog.cellsOf 35 = 7 := by kernel_rfl
section
variable {H : Type} {enc : TypeId × Value → H} {P : Program} {w : World} {base : Nat} {spare : Nat → Bool} {held : Bool}
theorem trod_struct7 {t : TypeId} {f0 f1 f2 f3 f4 f5 f6 : Field} {fuel : Nat} {cs : List Value} {x : DataW H × List MemPlace} (ht : P.underlying t = some (.struct #[f0, f1, f2, f3, f4, f5, f6])) (h : DataW.trod enc P w base spare held fuel t cs = some x) :
    ∃ y0 y1 y2 y3 y4 y5 y6 n, fuel = n + 1 ∧ cs.length = P.cellsOf t ∧ DataW.trod enc P w base spare held n f0.type ((cs.drop f0.offset).take (P.cellsOf f0.type)) = some y0 ∧
      DataW.trod enc P w base spare held n f1.type ((cs.drop f1.offset).take (P.cellsOf f1.type)) = some y1 ∧ DataW.trod enc P w base spare held n f2.type ((cs.drop f2.offset).take (P.cellsOf f2.type)) = some y2 ∧
      DataW.trod enc P w base spare held n f3.type ((cs.drop f3.offset).take (P.cellsOf f3.type)) = some y3 ∧ DataW.trod enc P w base spare held n f4.type ((cs.drop f4.offset).take (P.cellsOf f4.type)) = some y4 ∧
      DataW.trod enc P w base spare held n f5.type ((cs.drop f5.offset).take (P.cellsOf f5.type)) = some y5 ∧ DataW.trod enc P w base spare held n f6.type ((cs.drop f6.offset).take (P.cellsOf f6.type)) = some y6 := by
  obtain ⟨xs, n, hn, rfl, hl, hlen, hf⟩ := DataW.trod_struct ht h
  match xs, hlen with
  | [y0, y1, y2, y3, y4, y5, y6], _ => exact ⟨y0, y1, y2, y3, y4, y5, y6, n, hn, hl, by simpa using hf 0 f0 rfl, by simpa using hf 1 f1 rfl, by simpa using hf 2 f2 rfl, by simpa using hf 3 f3 rfl, by simpa using hf 4 f4 rfl, by simpa using hf 5 f5 rfl, by simpa using hf 6 f6 rfl⟩
end
section
variable {H : Type} {enc : TypeId × Value → H} {W : World} {b0 : Nat} {hd : Bool}
set_option maxRecDepth 100000 in
theorem open_rg1 {fuel : Nat} {v : Value} {x : DataW H × List MemPlace} (hf : DataW.trod enc Try.prog W b0 (fun _ => true) hd fuel 38 [v] = some x) :
    ∃ (a : Option Addr) (b off len cap : Nat) (xs : List Rg), v = .slice a len cap ∧ SlR W a b off len cap xs ∧ ∀ q ∈ xs, True := by
  rcases open_slice Try.underlying38 hf with ⟨hc, _⟩ | ⟨a', len, cap, m, n, D, Pl, hc, _, hl, hm, hmm, _, hall⟩
  · have hc' : v = .slice none 0 0 := by simpa using hc
    refine ⟨none, 0, 0, 0, 0, [], hc', ⟨rfl, fun h => absurd h (Nat.lt_irrefl 0), fun h => absurd h (Nat.lt_irrefl 0), Nat.le_refl _, Nat.zero_le _, fun k hk => absurd hk (Nat.not_lt_zero k), fun k hk => absurd hk (Nat.not_lt_zero k), fun k hk => absurd hk (Nat.not_lt_zero k), fun k hk => absurd hk (Nat.not_lt_zero k), fun k hk => absurd hk (Nat.not_lt_zero k), fun k hk => absurd hk (Nat.not_lt_zero k), fun k hk => absurd hk (Nat.not_lt_zero k)⟩, fun q hq => absurd hq (by simp)⟩
  · have hc' : v = .slice (some a') len cap := by simpa using hc
    subst hc'
    have hlm : len ≤ m := by rw [hmm]; split <;> omega
    have each : ∀ i, i < len → ∃ q : Rg, (W.cell? (a'.add (i * 7)) = some (.bool q.k) ∧ W.cell? (a'.add (i * 7 + 1)) = some (.string q.c) ∧ W.cell? (a'.add (i * 7 + 2)) = some (.string q.g) ∧ W.cell? (a'.add (i * 7 + 3)) = some (.string q.s) ∧ W.cell? (a'.add (i * 7 + 4)) = some (.int .i64 q.n) ∧ W.cell? (a'.add (i * 7 + 5)) = some (.bool q.r) ∧ W.cell? (a'.add (i * 7 + 6)) = some (.bool q.j)) ∧ True := by
      intro i hi
      obtain ⟨cs', h1, h2⟩ := hall i (by omega)
      rw [cells_rg] at h1
      obtain ⟨_, hlen, hcell⟩ := World.cells?_some h1
      obtain ⟨y0, y1, y2, y3, y4, y5, y6, n', _, _, g0, g1, g2, g3, g4, g5, g6⟩ := trod_struct7 Try.underlying35 h2
      match cs', hlen with
      | [v0, v1, v2, v3, v4, v5, v6], _ =>
        have e0 := hcell 0 (by omega)
        have e1 := hcell 1 (by omega)
        have e2 := hcell 2 (by omega)
        have e3 := hcell 3 (by omega)
        have e4 := hcell 4 (by omega)
        have e5 := hcell 5 (by omega)
        have e6 := hcell 6 (by omega)
        rw [add_add] at e0 e1 e2 e3 e4 e5 e6
        simp [cellsI, cellsU, cellsB, cellsLR] at g0 g1 g2 g3 g4 g5 g6
        obtain ⟨z0, f0, _⟩ := DataW.trod_bool Try.underlying4 g0
        obtain ⟨z1, f1, _, b1⟩ := DataW.trod_string Try.underlying9 g1
        obtain ⟨z2, f2, _, b2⟩ := DataW.trod_string Try.underlying9 g2
        obtain ⟨z3, f3, _, b3⟩ := DataW.trod_string Try.underlying9 g3
        obtain ⟨z4, f4, _, b4⟩ := DataW.trod_int Try.underlying2 g4
        obtain ⟨z5, f5, _⟩ := DataW.trod_bool Try.underlying4 g5
        obtain ⟨z6, f6, _⟩ := DataW.trod_bool Try.underlying4 g6
        simp only [List.cons.injEq, and_true] at f0 f1 f2 f3 f4 f5 f6
        refine ⟨⟨z0, z1, z2, z3, z4, z5, z6⟩, ⟨?_, ?_, ?_, ?_, ?_, ?_, ?_⟩, trivial⟩
        · rw [← f0]; simpa using e0
        · rw [← f1]; simpa using e1
        · rw [← f2]; simpa using e2
        · rw [← f3]; simpa using e3
        · rw [← f4]; simpa using e4
        · rw [← f5]; simpa using e5
        · rw [← f6]; simpa using e6
    obtain ⟨q, hq⟩ := choose_lt each
    have hspot : 0 < len → a' = ⟨a'.block, a'.off, none⟩ := fun h0 => by
      have hs := World.cell?_spot (hq 0 h0).1.1
      obtain ⟨b, o, s⟩ := a'
      have hs : s = none := hs
      subst hs
      rfl
    refine ⟨some a', a'.block, a'.off, len, cap, (List.range len).map q, rfl, ⟨by simp, fun h0 => congrArg some (hspot h0), fun h0 => ?_, hl, hm, fun k hk => ?_, fun k hk => ?_, fun k hk => ?_, fun k hk => ?_, fun k hk => ?_, fun k hk => ?_, fun k hk => ?_⟩, fun x hx => ?_⟩
    · have h1 := World.block_lt_of_cell? W _ (hq 0 h0).1.1
      rw [hspot h0, addr_add] at h1
      exact h1
    · have hk' : k < len := by simpa using hk
      obtain ⟨h0, h1, h2, h3, h4, h5, h6⟩ := (hq k hk').1
      rw [hspot (by omega), addr_add] at h0
      simp only [List.getElem_map, List.getElem_range]
      exact h0
    · have hk' : k < len := by simpa using hk
      obtain ⟨h0, h1, h2, h3, h4, h5, h6⟩ := (hq k hk').1
      rw [hspot (by omega), addr_add] at h1
      simp only [List.getElem_map, List.getElem_range]
      rw [← Nat.add_assoc] at h1; exact h1
    · have hk' : k < len := by simpa using hk
      obtain ⟨h0, h1, h2, h3, h4, h5, h6⟩ := (hq k hk').1
      rw [hspot (by omega), addr_add] at h2
      simp only [List.getElem_map, List.getElem_range]
      rw [← Nat.add_assoc] at h2; exact h2
    · have hk' : k < len := by simpa using hk
      obtain ⟨h0, h1, h2, h3, h4, h5, h6⟩ := (hq k hk').1
      rw [hspot (by omega), addr_add] at h3
      simp only [List.getElem_map, List.getElem_range]
      rw [← Nat.add_assoc] at h3; exact h3
    · have hk' : k < len := by simpa using hk
      obtain ⟨h0, h1, h2, h3, h4, h5, h6⟩ := (hq k hk').1
      rw [hspot (by omega), addr_add] at h4
      simp only [List.getElem_map, List.getElem_range]
      rw [← Nat.add_assoc] at h4; exact h4
    · have hk' : k < len := by simpa using hk
      obtain ⟨h0, h1, h2, h3, h4, h5, h6⟩ := (hq k hk').1
      rw [hspot (by omega), addr_add] at h5
      simp only [List.getElem_map, List.getElem_range]
      rw [← Nat.add_assoc] at h5; exact h5
    · have hk' : k < len := by simpa using hk
      obtain ⟨h0, h1, h2, h3, h4, h5, h6⟩ := (hq k hk').1
      rw [hspot (by omega), addr_add] at h6
      simp only [List.getElem_map, List.getElem_range]
      rw [← Nat.add_assoc] at h6; exact h6
    · obtain ⟨k, hk, rfl⟩ := List.mem_map.1 hx
      exact (hq k (List.mem_range.1 hk)).2
set_option maxRecDepth 100000 in
theorem open_rgsA {base : Nat} {v : Value} {d : DataW H} {p : List MemPlace} (hk : Value.okWide Try.prog W .any base 38 v) (h : DataW.Trod enc Try.prog W b0 (fun _ => true) hd 38 v d p) :
    ∃ (a : Option Addr) (b off len cap : Nat) (xs : List Rg), v = .slice a len cap ∧ SlR W a b off len cap xs := by
  obtain ⟨a, len, cap, rfl⟩ := okWide_slice Try.underlying38 hk
  obtain ⟨fuel, hf⟩ := h
  obtain ⟨a, b, off, len, cap, xs, h1, h2, _⟩ := open_rg1 hf
  exact ⟨a, b, off, len, cap, xs, h1, h2⟩
end
end Go.Proofs.Ytlleebgkglbelaa
