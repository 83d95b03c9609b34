/- What the rows of layer 20 share: slices of items that are arguments, opened. -/
import Derived.Test.YtlleebgkglbelaaPost
import Derived.Test.YtlleebgkglbelaaRows
import Derived.Test.YtlleebgkglbelaaItm
import Derived.ProofKit
import Derived.ChangeMaps5
import Derived.OpenShut
import Derived.Lib.SmallJoins
import Derived.Deep.Slices
import Derived.Deep.SlicePairs
import Derived.Carry
set_option linter.unusedSimpArgs false
set_option linter.unusedVariables false
namespace Go.Proofs.Ytlleebgkglbelaa
open Go.ChangeShapes Go.WideShapes Go.ChangeAt Go.RowKit Go.Joins Go.Deep

structure Lz where
  a : Option Addr
  b : Nat
  o : Nat
  cap : Nat
  L : List It
def Lz.val (r : Lz) : Value := .slice r.a r.L.length r.cap
def Lz.ok (r : Lz) (w : World) : Prop := SlX w r.a r.b r.o r.L.length r.cap r.L
instance : Inhabited It := ⟨It.zero⟩
theorem Try.own : ownKnob Try.prog.godebug = none := by kernel_rfl
theorem addr_add {b o j : Nat} : (⟨b, o, none⟩ : Addr).add j = ⟨b, o + j, none⟩ := by unfold Addr.add; split <;> simp_all
theorem cellsI : Try.prog.cellsOf 3 = 1 := by kernel_rfl
theorem cellsU : Try.prog.cellsOf 9 = 1 := by kernel_rfl
theorem cellsB : Try.prog.cellsOf 4 = 1 := by kernel_rfl
theorem cellsX : Try.prog.cellsOf 29 = 5 := by kernel_rfl
section
variable {H : Type} {enc : TypeId × Value → H} {P : Program} {w : World} {base : Nat} {spare : Nat → Bool} {held : Bool}
theorem trod_struct5 {t : TypeId} {f0 f1 f2 f3 f4 : Field} {fuel : Nat} {cs : List Value} {x : DataW H × List MemPlace} (ht : P.underlying t = some (.struct #[f0, f1, f2, f3, f4])) (h : DataW.trod enc P w base spare held fuel t cs = some x) :
    ∃ y0 y1 y2 y3 y4 n, fuel = n + 1 ∧ cs.length = P.cellsOf t ∧ DataW.trod enc P w base spare held n f0.type ((cs.drop f0.offset).take (P.cellsOf f0.type)) = some y0 ∧
      DataW.trod enc P w base spare held n f1.type ((cs.drop f1.offset).take (P.cellsOf f1.type)) = some y1 ∧ DataW.trod enc P w base spare held n f2.type ((cs.drop f2.offset).take (P.cellsOf f2.type)) = some y2 ∧
      DataW.trod enc P w base spare held n f3.type ((cs.drop f3.offset).take (P.cellsOf f3.type)) = some y3 ∧ DataW.trod enc P w base spare held n f4.type ((cs.drop f4.offset).take (P.cellsOf f4.type)) = some y4 := by
  obtain ⟨xs, n, hn, rfl, hl, hlen, hf⟩ := DataW.trod_struct ht h
  match xs, hlen with
  | [y0, y1, y2, y3, y4], _ => exact ⟨y0, y1, y2, y3, y4, n, hn, hl, by simpa using hf 0 f0 rfl, by simpa using hf 1 f1 rfl, by simpa using hf 2 f2 rfl, by simpa using hf 3 f3 rfl, by simpa using hf 4 f4 rfl⟩
end
section
variable {H : Type} {enc : TypeId × Value → H} {W : World} {b0 : Nat} {hd : Bool}
set_option maxRecDepth 100000 in
theorem open_itms1 {fuel : Nat} {v : Value} {x : DataW H × List MemPlace} (hf : DataW.trod enc Try.prog W b0 (fun _ => true) hd fuel 32 [v] = some x) :
    ∃ r : Lz, v = r.val ∧ r.ok W := by
  rcases open_slice Try.underlying32 hf with ⟨hc, _⟩ | ⟨a', len, cap, m, n, D, Pl, hc, _, hl, hm, hmm, _, hall⟩
  · have hc' : v = .slice none 0 0 := by simpa using hc
    exact ⟨⟨none, 0, 0, 0, []⟩, hc', slx_nil W _ _ _ _ (Nat.zero_le _)⟩
  · have hc' : v = .slice (some a') len cap := by simpa using hc
    subst hc'
    have hlm : len ≤ m := by rw [hmm]; split <;> omega
    have each : ∀ i, i < len → ∃ q : It, W.cell? (a'.add (i * 5)) = some (.string q.c) ∧ W.cell? (a'.add (i * 5 + 1)) = some (.int .i64 q.d) ∧ W.cell? (a'.add (i * 5 + 2)) = some (.bool q.r) ∧ W.cell? (a'.add (i * 5 + 3)) = some (.bool q.v) ∧ W.cell? (a'.add (i * 5 + 4)) = some (.bool q.j) := by
      intro i hi
      obtain ⟨cs', h1, h2⟩ := hall i (by omega)
      rw [cellsX] at h1
      obtain ⟨_, hlen, hcell⟩ := World.cells?_some h1
      obtain ⟨y0, y1, y2, y3, y4, n', _, _, g0, g1, g2, g3, g4⟩ := trod_struct5 Try.underlying29 h2
      match cs', hlen with
      | [v0, v1, v2, v3, v4], _ =>
        have e0 := hcell 0 (by omega)
        have e1 := hcell 1 (by omega)
        have e2 := hcell 2 (by omega)
        have e3 := hcell 3 (by omega)
        have e4 := hcell 4 (by omega)
        rw [add_add] at e0 e1 e2 e3 e4
        simp [cellsI, cellsU, cellsB] at g0 g1 g2 g3 g4
        obtain ⟨z0, f0, _, b0⟩ := DataW.trod_string Try.underlying9 g0
        obtain ⟨z1, f1, _, b1⟩ := DataW.trod_int Try.underlying3 g1
        obtain ⟨z2, f2, _⟩ := DataW.trod_bool Try.underlying4 g2
        obtain ⟨z3, f3, _⟩ := DataW.trod_bool Try.underlying4 g3
        obtain ⟨z4, f4, _⟩ := DataW.trod_bool Try.underlying4 g4
        simp only [List.cons.injEq, and_true] at f0 f1 f2 f3 f4
        refine ⟨⟨z0, z1, z2, z3, z4⟩, ?_, ?_, ?_, ?_, ?_⟩
        · rw [← f0]; simpa using e0
        · rw [← f1]; simpa using e1
        · rw [← f2]; simpa using e2
        · rw [← f3]; simpa using e3
        · rw [← f4]; simpa using e4
    obtain ⟨q, hq⟩ := choose_lt each
    have hspot : 0 < len → a' = ⟨a'.block, a'.off, none⟩ := fun h0 => by
      have hs := World.cell?_spot (hq 0 h0).1
      obtain ⟨b, o, s⟩ := a'
      have hs : s = none := hs
      subst hs
      rfl
    refine ⟨⟨some a', a'.block, a'.off, cap, (List.range len).map q⟩, by unfold Lz.val; simp, ?_⟩
    show SlX W (some a') a'.block a'.off ((List.range len).map q).length cap ((List.range len).map q)
    rw [List.length_map, List.length_range]
    refine ⟨by simp, fun h0 => congrArg some (hspot h0), fun h0 => ?_, hl, hm, fun k hk => ?_, fun k hk => ?_, fun k hk => ?_, fun k hk => ?_, fun k hk => ?_⟩
    · have h1 := World.block_lt_of_cell? W _ (hq 0 h0).1
      rw [hspot h0, addr_add] at h1
      exact h1
    all_goals
      have hk' : k < len := by simpa using hk
      obtain ⟨h1, h2, h3, h4, h5⟩ := hq k hk'
      rw [hspot (by omega), addr_add] at h1 h2 h3 h4 h5
      simp only [List.getElem_map, List.getElem_range]
      first | exact h1 | (rw [← Nat.add_assoc] at h2; exact h2) | (rw [← Nat.add_assoc] at h3; exact h3) | (rw [← Nat.add_assoc] at h4; exact h4) | (rw [← Nat.add_assoc] at h5; exact h5)
set_option maxRecDepth 100000 in
theorem open_itmsA {base : Nat} {v : Value} {d : DataW H} {p : List MemPlace} (hk : Value.okWide Try.prog W .any base 32 v) (h : DataW.Trod enc Try.prog W b0 (fun _ => true) hd 32 v d p) :
    ∃ (a : Option Addr) (b off len cap : Nat) (xs : List It), v = .slice a len cap ∧ SlX W a b off len cap xs := by
  obtain ⟨a, len, cap, rfl⟩ := okWide_slice Try.underlying32 hk
  obtain ⟨fuel, hf⟩ := h
  obtain ⟨r, hr, hok⟩ := open_itms1 hf
  refine ⟨r.a, r.b, r.o, r.L.length, r.cap, r.L, hr, hok⟩
end
end Go.Proofs.Ytlleebgkglbelaa
