/- What the rows of layer 7 share: graphs, covers and lists of edges that are arguments, opened. -/
import Derived.Test.YtpcdbnlljdfogaaPost
import Derived.Test.YtpcdbnlljdfogaaRows
import Derived.Test.YtpcdbnlljdfogaaWgtP
import Derived.ProofKit
import Derived.ChangeMaps5
import Derived.OpenShut
import Derived.Lib.SmallJoins
import Derived.Deep.SlicePairs
import Derived.Carry
import Derived.Deep.Matrix
set_option linter.unusedSimpArgs false
set_option linter.unusedVariables false
namespace Go.Proofs.Ytpcdbnlljdfogaa
open Go.ChangeShapes Go.WideShapes Go.ChangeAt Go.RowKit Go.Joins Go.Deep

theorem Try.own : ownKnob Try.prog.godebug = none := by kernel_rfl
theorem addr_add {b o j : Nat} : (⟨b, o, none⟩ : Addr).add j = ⟨b, o + j, none⟩ := by unfold Addr.add; split <;> simp_all
theorem cellsI : Try.prog.cellsOf 3 = 1 := by kernel_rfl
theorem cellsIs : Try.prog.cellsOf 22 = 1 := by kernel_rfl
theorem cellsA : Try.prog.cellsOf 52 = 2 := by kernel_rfl
theorem cellsAs : Try.prog.cellsOf 23 = 1 := by kernel_rfl
theorem cellsG : Try.prog.cellsOf 25 = 3 := by kernel_rfl
theorem cellsC : Try.prog.cellsOf 36 = 2 := by kernel_rfl
section
variable {H : Type} {enc : TypeId × Value → H} {W : World} {b0 : Nat} {hd : Bool}
set_option maxRecDepth 100000 in
theorem open_ints1 {fuel : Nat} {v : Value} {x : DataW H × List MemPlace} (hf : DataW.trod enc Try.prog W b0 (fun _ => true) hd fuel 22 [v] = some x) :
    ∃ (a : Option Addr) (b off len cap : Nat) (xs : List Int), v = .slice a len cap ∧ SlI W a b off len cap xs := by
  rcases open_ints Try.underlying22 Try.underlying3 cellsI hf with ⟨hc, _⟩ | ⟨a', len', cap', zs, hc, _, hl, hm, hz, _, hall, hwf⟩
  · have hc' : v = .slice none 0 0 := by simpa using hc
    subst hc'
    exact ⟨none, 0, 0, 0, 0, [], rfl, sli_nil _⟩
  · have hc' : v = .slice (some a') len' cap' := by simpa using hc
    subst hc'
    simp only [if_true] at hz
    have hspot : 0 < len' → a' = ⟨a'.block, a'.off, none⟩ := fun h0 => by
      have hs := World.cell?_spot (hall 0 (by omega))
      obtain ⟨b, o, s⟩ := a'
      have hs : s = none := hs
      subst hs
      rfl
    refine ⟨some a', a'.block, a'.off, len', cap', zs.take len', rfl, ⟨by simp; omega, fun h0 => congrArg some (hspot h0), fun h0 => ?_, hl, hm, (fun h => by cases h), fun k hk => ?_⟩⟩
    · have h1 := World.block_lt_of_cell? W _ (hall 0 (by omega))
      rw [hspot h0, addr_add] at h1
      exact h1
    · have hk' : k < len' := by simp at hk; omega
      have h1 := hall k (by omega)
      rw [hspot (by omega), addr_add] at h1
      rw [h1]
      simp [List.getD, show k < zs.length by omega]
set_option maxRecDepth 100000 in
theorem open_prs1 {fuel : Nat} {v : Value} {x : DataW H × List MemPlace} (hf : DataW.trod enc Try.prog W b0 (fun _ => true) hd fuel 23 [v] = some x) :
    ∃ (a : Option Addr) (b off len cap : Nat) (xs : List (Int × Int)), v = .slice a len cap ∧ SlP W a b off len cap xs := by
  rcases open_slice Try.underlying23 hf with ⟨hc, _⟩ | ⟨a, len, cap, m, n, D, Pl, hc, hb, hl, hm, hmm, rfl, hx⟩
  · have hc' : v = .slice none 0 0 := by simpa using hc
    subst hc'
    exact ⟨none, 0, 0, 0, 0, [], rfl, ⟨rfl, fun h => absurd h (Nat.lt_irrefl 0), fun h => absurd h (Nat.lt_irrefl 0), Nat.le_refl _, Nat.zero_le _, fun k hk => absurd hk (Nat.not_lt_zero k), fun k hk => absurd hk (Nat.not_lt_zero k)⟩⟩
  · have hc' : v = .slice (some a) len cap := by simpa using hc
    subst hc'
    simp only [if_true] at hmm
    have each : ∀ i, i < len → ∃ q : Int × Int, W.cell? (a.add (i * 2)) = some (.int .i64 q.1) ∧ W.cell? (a.add (i * 2 + 1)) = some (.int .i64 q.2) := by
      intro i hi
      obtain ⟨cs', h1, h2⟩ := hx i (by omega)
      rw [cellsA] at h1
      obtain ⟨_, hlen, hcell⟩ := World.cells?_some h1
      obtain ⟨xs, k, hk, hxy, _, hxl, hfx⟩ := DataW.trod_array Try.underlying52 h2
      match cs', hlen with
      | [v0, v1], _ =>
        have f0 := hfx 0 (by omega)
        have f1 := hfx 1 (by omega)
        rw [cellsI] at f0 f1
        simp at f0 f1
        have hx0 : ∃ y, xs[0]? = some y := ⟨_, List.getElem?_eq_getElem (by omega)⟩
        have hx1 : ∃ y, xs[1]? = some y := ⟨_, List.getElem?_eq_getElem (by omega)⟩
        obtain ⟨y0, e0⟩ := hx0
        obtain ⟨y1, e1⟩ := hx1
        rw [e0] at f0
        rw [e1] at f1
        obtain ⟨z0, q0, _⟩ := DataW.trod_int Try.underlying3 f0
        obtain ⟨z1, q1, _⟩ := DataW.trod_int Try.underlying3 f1
        simp only [List.cons.injEq, and_true] at q0 q1
        subst q0
        subst q1
        have c0 := hcell 0 (by omega)
        have c1 := hcell 1 (by omega)
        rw [add_add] at c0 c1
        exact ⟨(z0, z1), by simpa using c0, by simpa using c1⟩
    obtain ⟨q, hq⟩ := choose_lt each
    have hspot : 0 < len → a = ⟨a.block, a.off, none⟩ := fun h0 => by
      have hs := World.cell?_spot (hq 0 h0).1
      obtain ⟨b, o, s⟩ := a
      have : (⟨b, o, s⟩ : Addr).add (0 * 2) = ⟨b, o, s⟩ := by unfold Addr.add; cases s <;> simp
      rw [this] at hs
      have hs : s = none := hs
      subst hs
      rfl
    refine ⟨some a, a.block, a.off, len, cap, (List.range len).map q, rfl, ⟨by simp, fun h0 => congrArg some (hspot h0), fun h0 => ?_, hl, hm, fun k hk => ?_, fun k hk => ?_⟩⟩
    · have h1 := World.block_lt_of_cell? W _ (hq 0 h0).1
      rw [hspot h0, addr_add] at h1
      exact h1
    · have hk' : k < len := by simpa using hk
      have h1 := (hq k hk').1
      rw [hspot (by omega), addr_add] at h1
      rw [h1]
      simp
    · have hk' : k < len := by simpa using hk
      have h1 := (hq k hk').2
      rw [hspot (by omega), addr_add] at h1
      rw [Nat.add_assoc, h1]
      simp
set_option maxRecDepth 100000 in
theorem open_intsA {base : Nat} {v : Value} {d : DataW H} {p : List MemPlace} (hk : Value.okWide Try.prog W .any base 22 v) (h : DataW.Trod enc Try.prog W b0 (fun _ => true) hd 22 v d p) :
    ∃ (a : Option Addr) (b off len cap : Nat) (xs : List Int), v = .slice a len cap ∧ SlI W a b off len cap xs := by
  obtain ⟨a, len, cap, rfl⟩ := okWide_slice Try.underlying22 hk
  obtain ⟨fuel, hf⟩ := h
  exact open_ints1 hf
set_option maxRecDepth 100000 in
theorem open_gphA {base : Nat} {v : Value} {d : DataW H} {p : List MemPlace} (hk : Value.okWide Try.prog W .any base 25 v) (h : DataW.Trod enc Try.prog W b0 (fun _ => true) hd 25 v d p) :
    ∃ g : Gph, v = g.val ∧ GpAt W g := by
  obtain ⟨cs, rfl, hn⟩ := okWide_struct Try.underlying25 hk
  rw [cellsG] at hn
  obtain ⟨fuel, hf⟩ := h
  obtain ⟨y0, y1, y2, m, _, _, g0, g1, g2⟩ := trod_struct3 Try.underlying25 hf
  obtain ⟨l⟩ := cs
  simp only [Value.cells] at g0 g1 g2
  match l, hn with
  | [v0, v1, v2], _ =>
    simp [cellsIs, cellsAs] at g0 g1 g2
    obtain ⟨a0, b0, o0, l0, c0, x0, rfl, s0⟩ := open_ints1 g0
    obtain ⟨a1, b1, o1, l1, c1, x1, rfl, s1⟩ := open_ints1 g1
    obtain ⟨a2, b2, o2, l2, c2, x2, rfl, s2⟩ := open_prs1 g2
    have e0 := s0.hl
    have e1 := s1.hl
    have e2 := s2.hl
    subst e0
    subst e1
    subst e2
    exact ⟨⟨x0, x1, x2, a0, b0, o0, c0, a1, b1, o1, c1, a2, b2, o2, c2⟩, rfl, ⟨s0, s1, s2⟩⟩
set_option maxRecDepth 100000 in
theorem open_cvrA {base : Nat} {v : Value} {d : DataW H} {p : List MemPlace} (hk : Value.okWide Try.prog W .any base 36 v) (h : DataW.Trod enc Try.prog W b0 (fun _ => true) hd 36 v d p) :
    ∃ c : Cvr, v = c.val ∧ CvAt W c := by
  obtain ⟨cs, rfl, hn⟩ := okWide_struct Try.underlying36 hk
  rw [cellsC] at hn
  obtain ⟨fuel, hf⟩ := h
  obtain ⟨y0, y1, m, _, _, g0, g1⟩ := trod_struct2 Try.underlying36 hf
  obtain ⟨l⟩ := cs
  simp only [Value.cells] at g0 g1
  match l, hn with
  | [v0, v1], _ =>
    simp [cellsIs] at g0 g1
    obtain ⟨a0, b0, o0, l0, c0, x0, rfl, s0⟩ := open_ints1 g0
    obtain ⟨a1, b1, o1, l1, c1, x1, rfl, s1⟩ := open_ints1 g1
    have e0 := s0.hl
    have e1 := s1.hl
    subst e0
    subst e1
    exact ⟨⟨x0, x1, a0, b0, o0, c0, a1, b1, o1, c1⟩, rfl, ⟨s0, s1⟩⟩
end
end Go.Proofs.Ytpcdbnlljdfogaa
