/- A slice of steps that is an argument: opened. -/
import Derived.Test.YtljeialaefmbmaaDoorRowK
import Derived.Test.YtljeialaefmbmaaDoorSl
import Derived.Deep.Strs
set_option linter.unusedSimpArgs false
set_option linter.unusedVariables false
namespace Go.Proofs.YtljeialaefmbmaaDoor
open Go.ChangeShapes Go.WideShapes Go.ChangeAt Go.RowKit Go.Deep

theorem cellsI : Tryd.prog.cellsOf 3 = 1 := by kernel_rfl
theorem cellsT : Tryd.prog.cellsOf 31 = 3 := by kernel_rfl
theorem cellsJ : Tryd.prog.cellsOf 2 = 1 := by kernel_rfl
theorem cellsU : Tryd.prog.cellsOf 9 = 1 := by kernel_rfl
set_option maxRecDepth 100000 in
theorem open_stepsA {H : Type} {enc : TypeId × Value → H} {W : World} {base b0 : Nat} {sp : Nat → Bool} {hd : Bool} {v : Value} {d : DataW H} {p : List MemPlace}
    (hk : Value.okWide Tryd.prog W .any base 22 v) (h : DataW.Trod enc Tryd.prog W b0 sp hd 22 v d p) :
    ∃ (a : Option Addr) (b off len cap : Nat) (xs : List Stp), v = .slice a len cap ∧ SlT W a b off len cap xs := by
  obtain ⟨a, len, cap, rfl⟩ := okWide_slice Tryd.underlying22 hk
  obtain ⟨fuel, hf⟩ := h
  rcases open_slice Tryd.underlying22 hf with ⟨hc, _⟩ | ⟨a', len', cap', m, n, D, Pl, hc, _, hl, hm, hmm, _, hall⟩
  · have hc' : (Value.slice a len cap) = .slice none 0 0 := by simpa [Value.cells] using hc
    simp only [Value.slice.injEq] at hc'
    obtain ⟨rfl, rfl, rfl⟩ := hc'
    exact ⟨none, 0, 0, 0, 0, [], rfl, rfl, fun h => absurd h (by omega), fun h => absurd h (by omega), Nat.le_refl _, Nat.zero_le _, fun k hk => absurd hk (by simp), fun x hx => absurd hx (by simp)⟩
  · have hc' : (Value.slice a len cap) = .slice (some a') len' cap' := by simpa [Value.cells] using hc
    simp only [Value.slice.injEq] at hc'
    obtain ⟨rfl, rfl, rfl⟩ := hc'
    have hlm : len ≤ m := by rw [hmm]; split <;> omega
    have each : ∀ i, i < len → ∃ q : Stp, W.cell? (a'.add (i * 3)) = some (.int .i64 q.k) ∧ W.cell? (a'.add (i * 3 + 1)) = some (.int .i64 q.n) ∧ W.cell? (a'.add (i * 3 + 2)) = some (.string q.s) ∧ StpOk q := by
      intro i hi
      obtain ⟨cs', h1, h2⟩ := hall i (by omega)
      rw [cellsT] at h1
      obtain ⟨_, hlen, hcell⟩ := World.cells?_some h1
      obtain ⟨y0, y1, y2, n', _, _, g0, g1, g2⟩ := trod_struct3 Tryd.underlying31 h2
      match cs', hlen with
      | [v0, v1, v2], _ =>
        have e0 := hcell 0 (by omega)
        have e1 := hcell 1 (by omega)
        have e2 := hcell 2 (by omega)
        rw [add_add] at e0 e1 e2
        simp [cellsI, cellsJ, cellsU] at g0 g1 g2
        obtain ⟨z0, f0, _, b0⟩ := DataW.trod_int Tryd.underlying3 g0
        obtain ⟨z1, f1, _, b1⟩ := DataW.trod_int Tryd.underlying2 g1
        obtain ⟨z2, f2, _, b2⟩ := DataW.trod_string Tryd.underlying9 g2
        simp only [List.cons.injEq, and_true] at f0 f1 f2
        have w1 := bd64 b1
        refine ⟨⟨z0, z1, z2⟩, ?_, ?_, ?_, ⟨w1.1, w1.2, b2⟩⟩
        · rw [← f0]; simpa using e0
        · rw [← f1]; simpa using e1
        · rw [← f2]; simpa using e2
    obtain ⟨q, hq⟩ := choose_lt each
    have hspot : 0 < len → a' = ⟨a'.block, a'.off, none⟩ := fun h0 => by
      have hs := World.cell?_spot (hq 0 h0).1
      obtain ⟨b, o, s⟩ := a'
      have hs : s = none := hs
      subst hs
      rfl
    refine ⟨some a', a'.block, a'.off, len, cap, (List.range len).map q, rfl, by simp, fun h0 => congrArg some (hspot h0), fun h0 => ?_, hl, hm, fun k hk => ?_, fun x hx => ?_⟩
    · have h1 := World.block_lt_of_cell? W _ (hq 0 h0).1
      rw [hspot h0, addr_add] at h1
      exact h1
    · have hk' : k < len := by simpa using hk
      obtain ⟨h1, h2, h3, _⟩ := hq k hk'
      rw [hspot (by omega), addr_add] at h1 h2 h3
      simp only [List.getElem_map, List.getElem_range]
      exact ⟨h1, by rw [← Nat.add_assoc] at h2; exact h2, by rw [← Nat.add_assoc] at h3; exact h3⟩
    · obtain ⟨k, hk, rfl⟩ := List.mem_map.1 hx
      exact (hq k (List.mem_range.1 hk)).2.2.2
end Go.Proofs.YtljeialaefmbmaaDoor
