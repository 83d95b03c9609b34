/- Slices of entries that are arguments: opened, whatever their depth. -/
import Derived.Test.YtohalocbghhenaaGreatDoorRowK
import Derived.Test.YtohalocbghhenaaGreatDoorRoom
import Derived.Deep.Slices
import Derived.Deep.SlicePairs
import Derived.Lib.SmallJoins
set_option linter.unusedSimpArgs false
set_option linter.unusedVariables false
namespace Go.Proofs.YtohalocbghhenaaGreatDoor
open Go.ChangeShapes Go.WideShapes Go.ChangeAt Go.RowKit Go.Joins Go.Deep

theorem addr_add {b o j : Nat} : (⟨b, o, none⟩ : Addr).add j = ⟨b, o + j, none⟩ := by unfold Addr.add; split <;> simp_all
theorem cellsI : Tryz.prog.cellsOf 3 = 1 := by kernel_rfl
theorem cellsT : Tryz.prog.cellsOf 51 = 4 := by kernel_rfl
theorem cellsJ : Tryz.prog.cellsOf 2 = 1 := by kernel_rfl
theorem cellsU : Tryz.prog.cellsOf 9 = 1 := by kernel_rfl
theorem cellsB : Tryz.prog.cellsOf 4 = 1 := by kernel_rfl
theorem cellsTs : Tryz.prog.cellsOf 22 = 1 := by kernel_rfl
theorem cellsCs : Tryz.prog.cellsOf 23 = 1 := by kernel_rfl
theorem cellsC : Tryz.prog.cellsOf 25 = 5 := by kernel_rfl
section
variable {H : Type} {enc : TypeId × Value → H} {P : Program} {w : World} {base : Nat} {spare : Nat → Bool} {held : Bool}
theorem trod_struct5 {t : TypeId} {f0 f1 f2 f3 f4 : Field} {fuel : Nat} {cs : List Value} {x : DataW H × List MemPlace} (ht : P.underlying t = some (.struct #[f0, f1, f2, f3, f4])) (h : DataW.trod enc P w base spare held fuel t cs = some x) :
    ∃ y0 y1 y2 y3 y4 n, fuel = n + 1 ∧ cs.length = P.cellsOf t ∧ DataW.trod enc P w base spare held n f0.type ((cs.drop f0.offset).take (P.cellsOf f0.type)) = some y0 ∧
      DataW.trod enc P w base spare held n f1.type ((cs.drop f1.offset).take (P.cellsOf f1.type)) = some y1 ∧ DataW.trod enc P w base spare held n f2.type ((cs.drop f2.offset).take (P.cellsOf f2.type)) = some y2 ∧
      DataW.trod enc P w base spare held n f3.type ((cs.drop f3.offset).take (P.cellsOf f3.type)) = some y3 ∧ DataW.trod enc P w base spare held n f4.type ((cs.drop f4.offset).take (P.cellsOf f4.type)) = some y4 := by
  obtain ⟨xs, n, hn, rfl, hl, hlen, hf⟩ := DataW.trod_struct ht h
  match xs, hlen with
  | [y0, y1, y2, y3, y4], _ => exact ⟨y0, y1, y2, y3, y4, n, hn, hl, by simpa using hf 0 f0 rfl, by simpa using hf 1 f1 rfl, by simpa using hf 2 f2 rfl, by simpa using hf 3 f3 rfl, by simpa using hf 4 f4 rfl⟩
end
set_option maxRecDepth 100000 in
theorem open_toks1 {H : Type} {enc : TypeId × Value → H} {W : World} {b0 fuel : Nat} {hd : Bool} {v : Value} {x : DataW H × List MemPlace}
    (hf : DataW.trod enc Tryz.prog W b0 (fun _ => true) hd fuel 22 [v] = some x) :
    ∃ (a : Option Addr) (b off len cap : Nat) (xs : List Tk), v = .slice a len cap ∧ SlT W a b off len cap xs := by
  rcases open_slice Tryz.underlying22 hf with ⟨hc, _⟩ | ⟨a', len', cap', m, n, D, Pl, hc, _, hl, hm, hmm, _, hall⟩
  · have hc' : v = .slice none 0 0 := by simpa using hc
    exact ⟨none, 0, 0, 0, 0, [], hc', slt_nil W⟩
  · have hc' : v = .slice (some a') len' cap' := by simpa using hc
    subst hc'
    have hlm : len' ≤ m := by rw [hmm]; split <;> omega
    have each : ∀ i, i < len' → ∃ q : Tk, W.cell? (a'.add (i * 4)) = some (.int .i64 q.k) ∧ W.cell? (a'.add (i * 4 + 1)) = some (.string q.t) ∧ W.cell? (a'.add (i * 4 + 2)) = some (.int .i64 q.n) ∧ W.cell? (a'.add (i * 4 + 3)) = some (.int .i64 q.a) := by
      intro i hi
      obtain ⟨cs', h1, h2⟩ := hall i (by omega)
      rw [cellsT] at h1
      obtain ⟨_, hlen, hcell⟩ := World.cells?_some h1
      obtain ⟨y0, y1, y2, y3, n', _, _, g0, g1, g2, g3⟩ := trod_struct4 Tryz.underlying51 h2
      match cs', hlen with
      | [v0, v1, v2, v3], _ =>
        have e0 := hcell 0 (by omega)
        have e1 := hcell 1 (by omega)
        have e2 := hcell 2 (by omega)
        have e3 := hcell 3 (by omega)
        rw [add_add] at e0 e1 e2 e3
        simp [cellsI, cellsJ, cellsU] at g0 g1 g2 g3
        obtain ⟨z0, f0, _, b0⟩ := DataW.trod_int Tryz.underlying3 g0
        obtain ⟨z1, f1, _, b1⟩ := DataW.trod_string Tryz.underlying9 g1
        obtain ⟨z2, f2, _, b2⟩ := DataW.trod_int Tryz.underlying2 g2
        obtain ⟨z3, f3, _, b3⟩ := DataW.trod_int Tryz.underlying3 g3
        simp only [List.cons.injEq, and_true] at f0 f1 f2 f3
        refine ⟨⟨z0, z1, z2, z3⟩, ?_, ?_, ?_, ?_⟩
        · rw [← f0]; simpa using e0
        · rw [← f1]; simpa using e1
        · rw [← f2]; simpa using e2
        · rw [← f3]; simpa using e3
    obtain ⟨q, hq⟩ := choose_lt each
    have hspot : 0 < len' → a' = ⟨a'.block, a'.off, none⟩ := fun h0 => by
      have hs := World.cell?_spot (hq 0 h0).1
      obtain ⟨b, o, s⟩ := a'
      have hs : s = none := hs
      subst hs
      rfl
    refine ⟨some a', a'.block, a'.off, len', cap', (List.range len').map q, rfl, by simp, fun h0 => congrArg some (hspot h0), fun h0 => ?_, hl, hm, fun k hk => ?_, fun k hk => ?_, fun k hk => ?_, fun k hk => ?_⟩
    · have h1 := World.block_lt_of_cell? W _ (hq 0 h0).1
      rw [hspot h0, addr_add] at h1
      exact h1
    all_goals
      have hk' : k < len' := by simpa using hk
      obtain ⟨h1, h2, h3, h4⟩ := hq k hk'
      rw [hspot (by omega), addr_add] at h1 h2 h3 h4
      simp only [List.getElem_map, List.getElem_range]
      first | exact h1 | (rw [← Nat.add_assoc] at h2; exact h2) | (rw [← Nat.add_assoc] at h3; exact h3) | (rw [← Nat.add_assoc] at h4; exact h4)

set_option maxRecDepth 100000 in
theorem open_cls1 {H : Type} {enc : TypeId × Value → H} {W : World} {b0 : Nat} {hd : Bool} : ∀ (fuel : Nat) {v : Value} {x : DataW H × List MemPlace},
    DataW.trod enc Tryz.prog W b0 (fun _ => true) hd fuel 23 [v] = some x → ∃ (a : Option Addr) (b off cap : Nat) (c : Cls), v = .slice a c.len cap ∧ SlC W AllB a b off c.len cap c ∧ (a = none → cap = 0) := by
  intro fuel
  induction fuel using Nat.strongRecOn with
  | ind fuel ih =>
    intro v x hf
    rcases DataW.trod_slice Tryz.underlying23 hf with ⟨hc, _⟩ | ⟨a', len, cap, elems, rest, n, hfu, hc, _, _, hl, hm, hlen, hall, _, _⟩
    · have hc' : v = .slice none 0 0 := by simpa using hc
      exact ⟨none, 0, 0, 0, .nil, hc', slC_nil W _, fun _ => rfl⟩
    · have hc' : v = .slice (some a') len cap := by simpa using hc
      subst hc'
      rw [cellsC] at hall
      have hspot : 0 < len → a' = ⟨a'.block, a'.off, none⟩ := by
        intro h0
        have hb := hall 0 h0
        rw [List.getElem?_eq_getElem (by omega)] at hb
        obtain ⟨cs', h1, _⟩ := Option.bind_eq_some_iff.1 hb
        obtain ⟨_, hlen', hcell⟩ := World.cells?_some h1
        have hs := World.cell?_spot ((hcell 0 (by omega)).trans (List.getElem?_eq_getElem (by omega)))
        obtain ⟨b, o, s⟩ := a'
        have hs : s = none := hs
        subst hs
        rfl
      have each : ∀ i, i < len → a' = ⟨a'.block, a'.off, none⟩ ∧ ∃ wd aa ba oa la ca xs bl ak bk ok ck kids at', W.cell? ⟨a'.block, a'.off + i * 5, none⟩ = some (.string wd) ∧ W.cell? ⟨a'.block, a'.off + i * 5 + 1, none⟩ = some (.slice aa la ca) ∧ SlT W aa ba oa la ca xs ∧
          W.cell? ⟨a'.block, a'.off + i * 5 + 2, none⟩ = some (.bool bl) ∧ W.cell? ⟨a'.block, a'.off + i * 5 + 3, none⟩ = some (.slice ak kids.len ck) ∧ SlC W AllB ak bk ok kids.len ck kids ∧ W.cell? ⟨a'.block, a'.off + i * 5 + 4, none⟩ = some (.int .i64 at') := by
        intro i hi
        have hb := hall i hi
        rw [List.getElem?_eq_getElem (by omega)] at hb
        obtain ⟨cs', h1, h2⟩ := Option.bind_eq_some_iff.1 hb
        obtain ⟨_, hlen', hcell⟩ := World.cells?_some h1
        obtain ⟨y0, y1, y2, y3, y4, m, hnm, _, g0, g1, g2, g3, g4⟩ := trod_struct5 Tryz.underlying25 h2
        match cs', hlen' with
        | [v0, v1, v2, v3, v4], _ =>
          have e0 := hcell 0 (by omega)
          have e1 := hcell 1 (by omega)
          have e2 := hcell 2 (by omega)
          have e3 := hcell 3 (by omega)
          have e4 := hcell 4 (by omega)
          rw [add_add] at e0 e1 e2 e3 e4
          simp [cellsI, cellsB, cellsU, cellsTs, cellsCs] at g0 g1 g2 g3 g4
          obtain ⟨z0, f0, _, b0⟩ := DataW.trod_string Tryz.underlying9 g0
          obtain ⟨aa, ba, oa, la, ca, xs, f1, sl⟩ := open_toks1 g1
          obtain ⟨z2, f2, _⟩ := DataW.trod_bool Tryz.underlying4 g2
          obtain ⟨ak, bk, ok, ck, kids, f3, sk, _⟩ := ih m (by omega) g3
          obtain ⟨z4, f4, _, b4⟩ := DataW.trod_int Tryz.underlying3 g4
          simp only [List.cons.injEq, and_true] at f0 f2 f4
          have hsp := hspot (by omega)
          rw [hsp, addr_add] at e0 e1 e2 e3 e4
          rw [← Nat.add_assoc] at e0 e1 e2 e3 e4
          simp at e0 e1 e2 e3 e4
          subst f0 f1 f2 f3 f4
          exact ⟨hsp, z0, aa, ba, oa, la, ca, xs, z2, ak, bk, ok, ck, kids, z4, e0, e1, sl, e2, e3, sk, e4⟩
      have build : ∀ m j, j + m = len → ∃ c : Cls, c.len = m ∧ AtC W c AllB a'.block (a'.off + j * 5) := by
        intro m
        induction m with
        | zero => intro j _; exact ⟨.nil, rfl, trivial⟩
        | succ m ihm =>
          intro j hj
          obtain ⟨r, hr, hat⟩ := ihm (j + 1) (by omega)
          obtain ⟨_, wd, aa, ba, oa, la, ca, xs, bl, ak, bk, ok, ck, kids, at', c0, c1, sl, c2, c3, ⟨k1, k2, k3, k4, k5⟩, c4⟩ := each j (by omega)
          refine ⟨.cons wd xs bl kids at' r, by simp [Cls.len, hr], ⟨aa, ba, oa, la, ca, c1, sl, fun _ => trivial⟩, ⟨ak, bk, ok, ck, c3, k2, k3, k4, k5⟩, c0, c2, c4, ?_⟩
          rw [show a'.off + j * 5 + 5 = a'.off + (j + 1) * 5 by omega]
          exact hat
      obtain ⟨c, hcl, hat⟩ := build len 0 (by omega)
      rw [Nat.zero_mul, Nat.add_zero] at hat
      subst hcl
      refine ⟨some a', a'.block, a'.off, cap, c, rfl, ⟨rfl, hl, hm, fun h0 => ?_, hat⟩, fun h => by cases h⟩
      obtain ⟨hsp, _, _, _, _, _, _, _, _, _, _, _, _, _, _, c0, _⟩ := each 0 h0
      have h1 := World.block_lt_of_cell? W _ c0
      exact ⟨congrArg some hsp, h1, trivial⟩
set_option maxRecDepth 100000 in
theorem open_clsA {H : Type} {enc : TypeId × Value → H} {W : World} {base b0 : Nat} {hd : Bool} {v : Value} {d : DataW H} {p : List MemPlace}
    (hk : Value.okWide Tryz.prog W .any base 23 v) (h : DataW.Trod enc Tryz.prog W b0 (fun _ => true) hd 23 v d p) :
    ∃ (a : Option Addr) (b off cap : Nat) (c : Cls), v = .slice a c.len cap ∧ SlC W AllB a b off c.len cap c ∧ (a = none → cap = 0) := by
  obtain ⟨a, len, cap, rfl⟩ := okWide_slice Tryz.underlying23 hk
  obtain ⟨fuel, hf⟩ := h
  exact open_cls1 fuel (by simpa [Value.cells] using hf)
end Go.Proofs.YtohalocbghhenaaGreatDoor
