/- Slices of tokens that are arguments: opened. -/
import Derived.Test.YtmokeegebbmdhaaGreatDoorRowK
import Derived.Test.YtmokeegebbmdhaaGreatDoorTks
import Derived.Deep.Slices
import Derived.Deep.SlicePairs
import Derived.Lib.SmallJoins
set_option linter.unusedSimpArgs false
set_option linter.unusedVariables false
namespace Go.Proofs.YtmokeegebbmdhaaGreatDoor
open Go.ChangeShapes Go.WideShapes Go.ChangeAt Go.RowKit Go.Joins Go.Deep

theorem addr_add {b o j : Nat} : (⟨b, o, none⟩ : Addr).add j = ⟨b, o + j, none⟩ := by unfold Addr.add; split <;> simp_all
theorem cellsI : Tryz.prog.cellsOf 3 = 1 := by kernel_rfl
theorem cellsT : Tryz.prog.cellsOf 32 = 4 := by kernel_rfl
theorem cellsJ : Tryz.prog.cellsOf 2 = 1 := by kernel_rfl
theorem cellsU : Tryz.prog.cellsOf 9 = 1 := by kernel_rfl
set_option maxRecDepth 100000 in
theorem open_toksA {H : Type} {enc : TypeId × Value → H} {W : World} {base b0 : Nat} {hd : Bool} {v : Value} {d : DataW H} {p : List MemPlace}
    (hk : Value.okWide Tryz.prog W .any base 23 v) (h : DataW.Trod enc Tryz.prog W b0 (fun _ => true) hd 23 v d p) :
    ∃ (a : Option Addr) (b off len cap : Nat) (xs : List Tk), v = .slice a len cap ∧ SlT W a b off len cap xs := by
  obtain ⟨a, len, cap, rfl⟩ := okWide_slice Tryz.underlying23 hk
  obtain ⟨fuel, hf⟩ := h
  rcases open_slice Tryz.underlying23 hf with ⟨hc, _⟩ | ⟨a', len', cap', m, n, D, Pl, hc, _, hl, hm, hmm, _, hall⟩
  · have hc' : (Value.slice a len cap) = .slice none 0 0 := by simpa [Value.cells] using hc
    simp only [Value.slice.injEq] at hc'
    obtain ⟨rfl, rfl, rfl⟩ := hc'
    exact ⟨none, 0, 0, 0, 0, [], rfl, slt_nil W⟩
  · have hc' : (Value.slice a len cap) = .slice (some a') len' cap' := by simpa [Value.cells] using hc
    simp only [Value.slice.injEq] at hc'
    obtain ⟨rfl, rfl, rfl⟩ := hc'
    have hlm : len ≤ m := by rw [hmm]; split <;> omega
    have each : ∀ i, i < len → ∃ q : Tk, W.cell? (a'.add (i * 4)) = some (.int .i64 q.k) ∧ W.cell? (a'.add (i * 4 + 1)) = some (.string q.t) ∧ W.cell? (a'.add (i * 4 + 2)) = some (.int .i64 q.n) ∧ W.cell? (a'.add (i * 4 + 3)) = some (.int .i64 q.a) := by
      intro i hi
      obtain ⟨cs', h1, h2⟩ := hall i (by omega)
      rw [cellsT] at h1
      obtain ⟨_, hlen, hcell⟩ := World.cells?_some h1
      obtain ⟨y0, y1, y2, y3, n', _, _, g0, g1, g2, g3⟩ := trod_struct4 Tryz.underlying32 h2
      match cs', hlen with
      | [v0, v1, v2, v3], _ =>
        have e0 := hcell 0 (by omega)
        have e1 := hcell 1 (by omega)
        have e2 := hcell 2 (by omega)
        have e3 := hcell 3 (by omega)
        rw [add_add] at e0 e1 e2 e3
        simp [cellsI, cellsJ, cellsU] at g0 g1 g2 g3
        obtain ⟨z0, f0, _, b0⟩ := DataW.trod_int Tryz.underlying3 g0
        obtain ⟨z1, f1, _, b1⟩ := DataW.trod_string Tryz.underlying9 g1
        obtain ⟨z2, f2, _, b2⟩ := DataW.trod_int Tryz.underlying2 g2
        obtain ⟨z3, f3, _, b3⟩ := DataW.trod_int Tryz.underlying3 g3
        simp only [List.cons.injEq, and_true] at f0 f1 f2 f3
        refine ⟨⟨z0, z1, z2, z3⟩, ?_, ?_, ?_, ?_⟩
        · rw [← f0]; simpa using e0
        · rw [← f1]; simpa using e1
        · rw [← f2]; simpa using e2
        · rw [← f3]; simpa using e3
    obtain ⟨q, hq⟩ := choose_lt each
    have hspot : 0 < len → a' = ⟨a'.block, a'.off, none⟩ := fun h0 => by
      have hs := World.cell?_spot (hq 0 h0).1
      obtain ⟨b, o, s⟩ := a'
      have hs : s = none := hs
      subst hs
      rfl
    refine ⟨some a', a'.block, a'.off, len, cap, (List.range len).map q, rfl, by simp, fun h0 => congrArg some (hspot h0), fun h0 => ?_, hl, hm, fun k hk => ?_, fun k hk => ?_, fun k hk => ?_, fun k hk => ?_⟩
    · have h1 := World.block_lt_of_cell? W _ (hq 0 h0).1
      rw [hspot h0, addr_add] at h1
      exact h1
    all_goals
      have hk' : k < len := by simpa using hk
      obtain ⟨h1, h2, h3, h4⟩ := hq k hk'
      rw [hspot (by omega), addr_add] at h1 h2 h3 h4
      simp only [List.getElem_map, List.getElem_range]
      first | exact h1 | (rw [← Nat.add_assoc] at h2; exact h2) | (rw [← Nat.add_assoc] at h3; exact h3) | (rw [← Nat.add_assoc] at h4; exact h4)
set_option maxRecDepth 100000 in
theorem open_tokA {H : Type} {enc : TypeId × Value → H} {W : World} {base b0 : Nat} {hd : Bool} {v : Value} {d : DataW H} {p : List MemPlace}
    (hk : Value.okWide Tryz.prog W .any base 32 v) (h : DataW.Trod enc Tryz.prog W b0 (fun _ => true) hd 32 v d p) :
    ∃ t : Tk, v = t.val ∧ d = .agg [.lit (.int .i64 t.k), .lit (.string t.t.data.toList), .lit (.int .i64 t.n), .lit (.int .i64 t.a)] ∧ p = [] ∧ (Lit.int .i64 t.k).wf = true ∧ t.t.size ≤ maxLen ∧ (Lit.int .i64 t.n).wf = true ∧ (Lit.int .i64 t.a).wf = true := by
  obtain ⟨c0, c1, c2, c3, y0, y1, y2, y3, m, rfl, rfl, rfl, h0, h1, h2, h3⟩ := open_agg4 Tryz.underlying32 (by kernel_rfl) cellsT hk h
  obtain ⟨a, e0, rfl, wa⟩ := DataW.trod_int Tryz.underlying3 h0
  obtain ⟨b, e1, rfl, wb⟩ := DataW.trod_string Tryz.underlying9 h1
  obtain ⟨c, e2, rfl, wc⟩ := DataW.trod_int Tryz.underlying2 h2
  obtain ⟨e, e3, rfl, we⟩ := DataW.trod_int Tryz.underlying3 h3
  simp at e0 e1 e2 e3
  subst e0 e1 e2 e3
  exact ⟨⟨a, b, c, e⟩, rfl, rfl, rfl, wa, wb, wc, we⟩
set_option maxRecDepth 100000 in
theorem shut_tokA {H : Type} {enc : TypeId × Value → H} {W : World} {b0 : Nat} {sp : Nat → Bool} {hd : Bool} {t : Tk}
    (h0 : (Lit.int .i64 t.k).wf = true) (h1 : t.t.size ≤ maxLen) (h2 : (Lit.int .i64 t.n).wf = true) (h3 : (Lit.int .i64 t.a).wf = true) :
    DataW.Trod enc Tryz.prog W b0 sp hd 32 t.val (.agg [.lit (.int .i64 t.k), .lit (.string t.t.data.toList), .lit (.int .i64 t.n), .lit (.int .i64 t.a)]) [] :=
  shut_agg4 (y0 := (.lit (.int .i64 t.k), [])) (y1 := (.lit (.string t.t.data.toList), [])) (y2 := (.lit (.int .i64 t.n), [])) (y3 := (.lit (.int .i64 t.a), [])) Tryz.underlying32 (by kernel_rfl) cellsT
    ⟨1, by simp [DataW.trod, Tryz.underlying3, h0]⟩ ⟨1, by simp [DataW.trod, Tryz.underlying9, h1]⟩ ⟨1, by simp [DataW.trod, Tryz.underlying2, h2]⟩ ⟨1, by simp [DataW.trod, Tryz.underlying3, h3]⟩
end Go.Proofs.YtmokeegebbmdhaaGreatDoor
