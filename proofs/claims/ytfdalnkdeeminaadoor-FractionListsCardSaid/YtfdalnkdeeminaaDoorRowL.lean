/- A slice of fractions that is an argument: opened; read again after the call. The row and the card of FractionLists: Sum and Mean of a list are what the reference says, and the order of the elements does not matter: for every slice of any values, nil included. No condition. -/
import Derived.Test.YtfdalnkdeeminaaDoorRowK
import Derived.Test.YtfdalnkdeeminaaDoorLists
import Derived.Test.YtfdalnkdeeminaaDoorCards
import Derived.Test.YtfdalnkdeeminaaDoorTie
import Derived.OpenShut
import Derived.SevenTiedAt
import Derived.Deep.SlicePairs
import Derived.Carry
set_option linter.unusedSimpArgs false
set_option linter.unusedVariables false
namespace Go.Proofs.YtfdalnkdeeminaaDoor
open Go.ChangeShapes Go.WideShapes Go.ChangeAt Go.RowKit Go.Deep

theorem cellsI : Tryd.prog.cellsOf 2 = 1 := by kernel_rfl
theorem addr_add {b o j : Nat} : (⟨b, o, none⟩ : Addr).add j = ⟨b, o + j, none⟩ := by unfold Addr.add; split <;> simp_all
theorem addr_spot {a : Addr} (h : (a.add (0 * 2)).spot = none) : a.spot = none := h
set_option maxRecDepth 100000 in
theorem open_fracs {H : Type} {enc : TypeId × Value → H} {W : World} {base b0 : Nat} {sp : Nat → Bool} {hd : Bool} {v : Value} {d : DataW H} {p : List MemPlace}
    (hk : Value.okWide Tryd.prog W .any base 37 v) (h : DataW.Trod enc Tryd.prog W b0 sp hd 37 v d p) :
    ∃ (a : Option Addr) (b off len cap : Nat) (xs : List (Int × Int)), v = .slice a len cap ∧ SlF W a b off len cap xs := by
  obtain ⟨a, len, cap, rfl⟩ := okWide_slice Tryd.underlying37 hk
  obtain ⟨fuel, hf⟩ := h
  rcases open_slice_pairs Tryd.underlying37 Tryd.underlying23 cellsF rfl rfl cellsI cellsI hf with ⟨hc, _⟩ | ⟨a', len', cap', m, n, V0, V1, D0, D1, P0, P1, hc, _, hl, hm, hmm, _, hall⟩
  · have hc' : (Value.slice a len cap) = .slice none 0 0 := by simpa [Value.cells] using hc
    simp only [Value.slice.injEq] at hc'
    obtain ⟨rfl, rfl, rfl⟩ := hc'
    exact ⟨none, 0, 0, 0, 0, [], rfl, rfl, fun h => absurd h (by omega), fun h => absurd h (by omega), Nat.le_refl _, by decide, fun k hk => absurd hk (by simp), fun x hx => absurd hx (by simp)⟩
  · have hc' : (Value.slice a len cap) = .slice (some a') len' cap' := by simpa [Value.cells] using hc
    simp only [Value.slice.injEq] at hc'
    obtain ⟨rfl, rfl, rfl⟩ := hc'
    have hlm : len ≤ m := by rw [hmm]; split <;> omega
    have each : ∀ i, i < len → ∃ q : Int × Int, V0 i = .int .i64 q.1 ∧ V1 i = .int .i64 q.2 ∧ Wf64 q := by
      intro i hi
      obtain ⟨_, _, t0, t1⟩ := hall i (by omega)
      obtain ⟨x, e0, _, w0⟩ := DataW.trod_int Tryd.underlying2 t0
      obtain ⟨y, e1, _, w1⟩ := DataW.trod_int Tryd.underlying2 t1
      simp only [List.cons.injEq, and_true] at e0 e1
      have b0 := bd64 w0
      have b1 := bd64 w1
      exact ⟨(x, y), e0, e1, b0.1, b0.2, b1.1, b1.2⟩
    obtain ⟨q, hq⟩ := choose_lt each
    have hget : ∀ (k : Nat) (h : k < ((List.range len).map q).length), ((List.range len).map q)[k]'h = q k := by intro k h; simp
    refine ⟨some a', a'.block, a'.off, len, cap, (List.range len).map q, rfl, by simp, fun h0 => ?_, fun h0 => ?_, hl, hm, fun k hk => ?_, fun x hx => ?_⟩
    · have hs := addr_spot (World.cell?_spot (hall 0 (by omega)).1)
      obtain ⟨b, o, s⟩ := a'
      simp only at hs
      subst hs
      rfl
    · have hs := addr_spot (World.cell?_spot (hall 0 (by omega)).1)
      have h1 := World.block_lt_of_cell? W _ (hall 0 (by omega)).1
      obtain ⟨b, o, s⟩ := a'
      simp only at hs
      subst hs
      rw [addr_add] at h1
      exact h1
    · have hk' : k < len := by simpa using hk
      obtain ⟨c0, c1, _, _⟩ := hall k (by omega)
      have hs := addr_spot (World.cell?_spot (hall 0 (by omega)).1)
      obtain ⟨b, o, s⟩ := a'
      simp only at hs
      subst hs
      rw [addr_add] at c0 c1
      obtain ⟨e0, e1, _⟩ := hq k hk'
      rw [hget]
      exact ⟨by rw [c0, e0], by rw [← Nat.add_assoc] at c1; rw [c1, e1]⟩
    · obtain ⟨k, hk, rfl⟩ := List.mem_map.1 hx
      exact (hq k (List.mem_range.1 hk)).2.2
end Go.Proofs.YtfdalnkdeeminaaDoor
