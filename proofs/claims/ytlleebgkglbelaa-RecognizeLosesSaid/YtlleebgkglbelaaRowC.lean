/- Catalogs and items that are arguments, opened. -/
import Derived.Test.YtlleebgkglbelaaRowK
import Derived.Test.YtlleebgkglbelaaCat
set_option linter.unusedSimpArgs false
set_option linter.unusedVariables false
namespace Go.Proofs.Ytlleebgkglbelaa
open Go.ChangeShapes Go.WideShapes Go.ChangeAt Go.RowKit Go.Joins Go.Deep

instance : Inhabited El := ⟨El.zero⟩
instance : Inhabited Gp := ⟨Gp.zero⟩
instance : Inhabited Cn := ⟨Cn.zero⟩
theorem cellsL : Try.prog.cellsOf 2 = 1 := by kernel_rfl
theorem cellsEs : Try.prog.cellsOf 24 = 1 := by kernel_rfl
theorem cellsPs : Try.prog.cellsOf 22 = 1 := by kernel_rfl
theorem cellsCs : Try.prog.cellsOf 25 = 1 := by kernel_rfl
theorem cellsSs : Try.prog.cellsOf 23 = 1 := by kernel_rfl
theorem cellsCt : Try.prog.cellsOf 27 = 4 := by kernel_rfl
theorem cells_el : Try.prog.cellsOf 66 = 5 := by kernel_rfl
theorem cells_gp : Try.prog.cellsOf 72 = 3 := by kernel_rfl
theorem cells_cn : Try.prog.cellsOf 89 = 3 := by kernel_rfl
section
variable {H : Type} {enc : TypeId × Value → H} {W : World} {b0 : Nat} {hd : Bool}
set_option maxRecDepth 100000 in
theorem open_el1 {fuel : Nat} {v : Value} {x : DataW H × List MemPlace} (hf : DataW.trod enc Try.prog W b0 (fun _ => true) hd fuel 24 [v] = some x) :
    ∃ (a : Option Addr) (b off len cap : Nat) (xs : List El), v = .slice a len cap ∧ SlE W a b off len cap xs ∧ ∀ q ∈ xs, q.c.size ≤ maxLen ∧ q.l.size ≤ maxLen := by
  rcases open_slice Try.underlying24 hf with ⟨hc, _⟩ | ⟨a', len, cap, m, n, D, Pl, hc, _, hl, hm, hmm, _, hall⟩
  · have hc' : v = .slice none 0 0 := by simpa using hc
    refine ⟨none, 0, 0, 0, 0, [], hc', ⟨rfl, fun h => absurd h (Nat.lt_irrefl 0), fun h => absurd h (Nat.lt_irrefl 0), Nat.le_refl _, Nat.zero_le _, fun k hk => absurd hk (Nat.not_lt_zero k), fun k hk => absurd hk (Nat.not_lt_zero k), fun k hk => absurd hk (Nat.not_lt_zero k), fun k hk => absurd hk (Nat.not_lt_zero k), fun k hk => absurd hk (Nat.not_lt_zero k)⟩, fun q hq => absurd hq (by simp)⟩
  · have hc' : v = .slice (some a') len cap := by simpa using hc
    subst hc'
    have hlm : len ≤ m := by rw [hmm]; split <;> omega
    have each : ∀ i, i < len → ∃ q : El, (W.cell? (a'.add (i * 5)) = some (.string q.c) ∧ W.cell? (a'.add (i * 5 + 1)) = some (.string q.g) ∧ W.cell? (a'.add (i * 5 + 2)) = some (.int .i64 q.n) ∧ W.cell? (a'.add (i * 5 + 3)) = some (.string q.s) ∧ W.cell? (a'.add (i * 5 + 4)) = some (.string q.l)) ∧ q.c.size ≤ maxLen ∧ q.l.size ≤ maxLen := by
      intro i hi
      obtain ⟨cs', h1, h2⟩ := hall i (by omega)
      rw [cells_el] at h1
      obtain ⟨_, hlen, hcell⟩ := World.cells?_some h1
      obtain ⟨y0, y1, y2, y3, y4, n', _, _, g0, g1, g2, g3, g4⟩ := trod_struct5 Try.underlying66 h2
      match cs', hlen with
      | [v0, v1, v2, v3, v4], _ =>
        have e0 := hcell 0 (by omega)
        have e1 := hcell 1 (by omega)
        have e2 := hcell 2 (by omega)
        have e3 := hcell 3 (by omega)
        have e4 := hcell 4 (by omega)
        rw [add_add] at e0 e1 e2 e3 e4
        simp [cellsI, cellsU, cellsB, cellsL] at g0 g1 g2 g3 g4
        obtain ⟨z0, f0, _, b0⟩ := DataW.trod_string Try.underlying9 g0
        obtain ⟨z1, f1, _, b1⟩ := DataW.trod_string Try.underlying9 g1
        obtain ⟨z2, f2, _, b2⟩ := DataW.trod_int Try.underlying2 g2
        obtain ⟨z3, f3, _, b3⟩ := DataW.trod_string Try.underlying9 g3
        obtain ⟨z4, f4, _, b4⟩ := DataW.trod_string Try.underlying9 g4
        simp only [List.cons.injEq, and_true] at f0 f1 f2 f3 f4
        refine ⟨⟨z0, z1, z2, z3, z4⟩, ⟨?_, ?_, ?_, ?_, ?_⟩, ⟨b0, b4⟩⟩
        · rw [← f0]; simpa using e0
        · rw [← f1]; simpa using e1
        · rw [← f2]; simpa using e2
        · rw [← f3]; simpa using e3
        · rw [← f4]; simpa using e4
    obtain ⟨q, hq⟩ := choose_lt each
    have hspot : 0 < len → a' = ⟨a'.block, a'.off, none⟩ := fun h0 => by
      have hs := World.cell?_spot (hq 0 h0).1.1
      obtain ⟨b, o, s⟩ := a'
      have hs : s = none := hs
      subst hs
      rfl
    refine ⟨some a', a'.block, a'.off, len, cap, (List.range len).map q, rfl, ⟨by simp, fun h0 => congrArg some (hspot h0), fun h0 => ?_, hl, hm, fun k hk => ?_, fun k hk => ?_, fun k hk => ?_, fun k hk => ?_, fun k hk => ?_⟩, fun x hx => ?_⟩
    · have h1 := World.block_lt_of_cell? W _ (hq 0 h0).1.1
      rw [hspot h0, addr_add] at h1
      exact h1
    · have hk' : k < len := by simpa using hk
      obtain ⟨h0, h1, h2, h3, h4⟩ := (hq k hk').1
      rw [hspot (by omega), addr_add] at h0
      simp only [List.getElem_map, List.getElem_range]
      exact h0
    · have hk' : k < len := by simpa using hk
      obtain ⟨h0, h1, h2, h3, h4⟩ := (hq k hk').1
      rw [hspot (by omega), addr_add] at h1
      simp only [List.getElem_map, List.getElem_range]
      rw [← Nat.add_assoc] at h1; exact h1
    · have hk' : k < len := by simpa using hk
      obtain ⟨h0, h1, h2, h3, h4⟩ := (hq k hk').1
      rw [hspot (by omega), addr_add] at h2
      simp only [List.getElem_map, List.getElem_range]
      rw [← Nat.add_assoc] at h2; exact h2
    · have hk' : k < len := by simpa using hk
      obtain ⟨h0, h1, h2, h3, h4⟩ := (hq k hk').1
      rw [hspot (by omega), addr_add] at h3
      simp only [List.getElem_map, List.getElem_range]
      rw [← Nat.add_assoc] at h3; exact h3
    · have hk' : k < len := by simpa using hk
      obtain ⟨h0, h1, h2, h3, h4⟩ := (hq k hk').1
      rw [hspot (by omega), addr_add] at h4
      simp only [List.getElem_map, List.getElem_range]
      rw [← Nat.add_assoc] at h4; exact h4
    · obtain ⟨k, hk, rfl⟩ := List.mem_map.1 hx
      exact (hq k (List.mem_range.1 hk)).2
set_option maxRecDepth 100000 in
theorem open_gp1 {fuel : Nat} {v : Value} {x : DataW H × List MemPlace} (hf : DataW.trod enc Try.prog W b0 (fun _ => true) hd fuel 22 [v] = some x) :
    ∃ (a : Option Addr) (b off len cap : Nat) (xs : List Gp), v = .slice a len cap ∧ SlP W a b off len cap xs ∧ ∀ q ∈ xs, q.c.size ≤ maxLen := by
  rcases open_slice Try.underlying22 hf with ⟨hc, _⟩ | ⟨a', len, cap, m, n, D, Pl, hc, _, hl, hm, hmm, _, hall⟩
  · have hc' : v = .slice none 0 0 := by simpa using hc
    refine ⟨none, 0, 0, 0, 0, [], hc', ⟨rfl, fun h => absurd h (Nat.lt_irrefl 0), fun h => absurd h (Nat.lt_irrefl 0), Nat.le_refl _, Nat.zero_le _, fun k hk => absurd hk (Nat.not_lt_zero k), fun k hk => absurd hk (Nat.not_lt_zero k), fun k hk => absurd hk (Nat.not_lt_zero k)⟩, fun q hq => absurd hq (by simp)⟩
  · have hc' : v = .slice (some a') len cap := by simpa using hc
    subst hc'
    have hlm : len ≤ m := by rw [hmm]; split <;> omega
    have each : ∀ i, i < len → ∃ q : Gp, (W.cell? (a'.add (i * 3)) = some (.string q.c) ∧ W.cell? (a'.add (i * 3 + 1)) = some (.int .i64 q.m) ∧ W.cell? (a'.add (i * 3 + 2)) = some (.int .i64 q.n)) ∧ q.c.size ≤ maxLen := by
      intro i hi
      obtain ⟨cs', h1, h2⟩ := hall i (by omega)
      rw [cells_gp] at h1
      obtain ⟨_, hlen, hcell⟩ := World.cells?_some h1
      obtain ⟨y0, y1, y2, n', _, _, g0, g1, g2⟩ := trod_struct3 Try.underlying72 h2
      match cs', hlen with
      | [v0, v1, v2], _ =>
        have e0 := hcell 0 (by omega)
        have e1 := hcell 1 (by omega)
        have e2 := hcell 2 (by omega)
        rw [add_add] at e0 e1 e2
        simp [cellsI, cellsU, cellsB, cellsL] at g0 g1 g2
        obtain ⟨z0, f0, _, b0⟩ := DataW.trod_string Try.underlying9 g0
        obtain ⟨z1, f1, _, b1⟩ := DataW.trod_int Try.underlying3 g1
        obtain ⟨z2, f2, _, b2⟩ := DataW.trod_int Try.underlying2 g2
        simp only [List.cons.injEq, and_true] at f0 f1 f2
        refine ⟨⟨z0, z1, z2⟩, ⟨?_, ?_, ?_⟩, b0⟩
        · rw [← f0]; simpa using e0
        · rw [← f1]; simpa using e1
        · rw [← f2]; simpa using e2
    obtain ⟨q, hq⟩ := choose_lt each
    have hspot : 0 < len → a' = ⟨a'.block, a'.off, none⟩ := fun h0 => by
      have hs := World.cell?_spot (hq 0 h0).1.1
      obtain ⟨b, o, s⟩ := a'
      have hs : s = none := hs
      subst hs
      rfl
    refine ⟨some a', a'.block, a'.off, len, cap, (List.range len).map q, rfl, ⟨by simp, fun h0 => congrArg some (hspot h0), fun h0 => ?_, hl, hm, fun k hk => ?_, fun k hk => ?_, fun k hk => ?_⟩, fun x hx => ?_⟩
    · have h1 := World.block_lt_of_cell? W _ (hq 0 h0).1.1
      rw [hspot h0, addr_add] at h1
      exact h1
    · have hk' : k < len := by simpa using hk
      obtain ⟨h0, h1, h2⟩ := (hq k hk').1
      rw [hspot (by omega), addr_add] at h0
      simp only [List.getElem_map, List.getElem_range]
      exact h0
    · have hk' : k < len := by simpa using hk
      obtain ⟨h0, h1, h2⟩ := (hq k hk').1
      rw [hspot (by omega), addr_add] at h1
      simp only [List.getElem_map, List.getElem_range]
      rw [← Nat.add_assoc] at h1; exact h1
    · have hk' : k < len := by simpa using hk
      obtain ⟨h0, h1, h2⟩ := (hq k hk').1
      rw [hspot (by omega), addr_add] at h2
      simp only [List.getElem_map, List.getElem_range]
      rw [← Nat.add_assoc] at h2; exact h2
    · obtain ⟨k, hk, rfl⟩ := List.mem_map.1 hx
      exact (hq k (List.mem_range.1 hk)).2
set_option maxRecDepth 100000 in
theorem open_cn1 {fuel : Nat} {v : Value} {x : DataW H × List MemPlace} (hf : DataW.trod enc Try.prog W b0 (fun _ => true) hd fuel 25 [v] = some x) :
    ∃ (a : Option Addr) (b off len cap : Nat) (xs : List Cn), v = .slice a len cap ∧ SlC W a b off len cap xs ∧ ∀ q ∈ xs, True := by
  rcases open_slice Try.underlying25 hf with ⟨hc, _⟩ | ⟨a', len, cap, m, n, D, Pl, hc, _, hl, hm, hmm, _, hall⟩
  · have hc' : v = .slice none 0 0 := by simpa using hc
    refine ⟨none, 0, 0, 0, 0, [], hc', ⟨rfl, fun h => absurd h (Nat.lt_irrefl 0), fun h => absurd h (Nat.lt_irrefl 0), Nat.le_refl _, Nat.zero_le _, fun k hk => absurd hk (Nat.not_lt_zero k), fun k hk => absurd hk (Nat.not_lt_zero k), fun k hk => absurd hk (Nat.not_lt_zero k)⟩, fun q hq => absurd hq (by simp)⟩
  · have hc' : v = .slice (some a') len cap := by simpa using hc
    subst hc'
    have hlm : len ≤ m := by rw [hmm]; split <;> omega
    have each : ∀ i, i < len → ∃ q : Cn, (W.cell? (a'.add (i * 3)) = some (.string q.f) ∧ W.cell? (a'.add (i * 3 + 1)) = some (.string q.s) ∧ W.cell? (a'.add (i * 3 + 2)) = some (.int .i64 q.n)) ∧ True := by
      intro i hi
      obtain ⟨cs', h1, h2⟩ := hall i (by omega)
      rw [cells_cn] at h1
      obtain ⟨_, hlen, hcell⟩ := World.cells?_some h1
      obtain ⟨y0, y1, y2, n', _, _, g0, g1, g2⟩ := trod_struct3 Try.underlying89 h2
      match cs', hlen with
      | [v0, v1, v2], _ =>
        have e0 := hcell 0 (by omega)
        have e1 := hcell 1 (by omega)
        have e2 := hcell 2 (by omega)
        rw [add_add] at e0 e1 e2
        simp [cellsI, cellsU, cellsB, cellsL] at g0 g1 g2
        obtain ⟨z0, f0, _, b0⟩ := DataW.trod_string Try.underlying9 g0
        obtain ⟨z1, f1, _, b1⟩ := DataW.trod_string Try.underlying9 g1
        obtain ⟨z2, f2, _, b2⟩ := DataW.trod_int Try.underlying2 g2
        simp only [List.cons.injEq, and_true] at f0 f1 f2
        refine ⟨⟨z0, z1, z2⟩, ⟨?_, ?_, ?_⟩, trivial⟩
        · rw [← f0]; simpa using e0
        · rw [← f1]; simpa using e1
        · rw [← f2]; simpa using e2
    obtain ⟨q, hq⟩ := choose_lt each
    have hspot : 0 < len → a' = ⟨a'.block, a'.off, none⟩ := fun h0 => by
      have hs := World.cell?_spot (hq 0 h0).1.1
      obtain ⟨b, o, s⟩ := a'
      have hs : s = none := hs
      subst hs
      rfl
    refine ⟨some a', a'.block, a'.off, len, cap, (List.range len).map q, rfl, ⟨by simp, fun h0 => congrArg some (hspot h0), fun h0 => ?_, hl, hm, fun k hk => ?_, fun k hk => ?_, fun k hk => ?_⟩, fun x hx => ?_⟩
    · have h1 := World.block_lt_of_cell? W _ (hq 0 h0).1.1
      rw [hspot h0, addr_add] at h1
      exact h1
    · have hk' : k < len := by simpa using hk
      obtain ⟨h0, h1, h2⟩ := (hq k hk').1
      rw [hspot (by omega), addr_add] at h0
      simp only [List.getElem_map, List.getElem_range]
      exact h0
    · have hk' : k < len := by simpa using hk
      obtain ⟨h0, h1, h2⟩ := (hq k hk').1
      rw [hspot (by omega), addr_add] at h1
      simp only [List.getElem_map, List.getElem_range]
      rw [← Nat.add_assoc] at h1; exact h1
    · have hk' : k < len := by simpa using hk
      obtain ⟨h0, h1, h2⟩ := (hq k hk').1
      rw [hspot (by omega), addr_add] at h2
      simp only [List.getElem_map, List.getElem_range]
      rw [← Nat.add_assoc] at h2; exact h2
    · obtain ⟨k, hk, rfl⟩ := List.mem_map.1 hx
      exact (hq k (List.mem_range.1 hk)).2
set_option maxRecDepth 100000 in
theorem open_strs1 {fuel : Nat} {v : Value} {x : DataW H × List MemPlace} (hf : DataW.trod enc Try.prog W b0 (fun _ => true) hd fuel 23 [v] = some x) :
    ∃ (a : Option Addr) (b off len cap : Nat) (xs : List ByteArray), v = .slice a len cap ∧ SlS W a b off len cap xs ∧ ∀ q ∈ xs, q.size ≤ maxLen := by
  rcases open_slice1 Try.underlying23 cellsU hf with ⟨hc, _⟩ | ⟨a', len, cap, m, n, V, D, Pl, hc, _, hl, hm, hmm, _, hall⟩
  · have hc' : v = .slice none 0 0 := by simpa using hc
    refine ⟨none, 0, 0, 0, 0, [], hc', ⟨rfl, fun h => absurd h (Nat.lt_irrefl 0), fun h => absurd h (Nat.lt_irrefl 0), Nat.le_refl _, Nat.zero_le _, fun k hk => absurd hk (Nat.not_lt_zero k)⟩, fun q hq => absurd hq (by simp)⟩
  · have hc' : v = .slice (some a') len cap := by simpa using hc
    subst hc'
    have hlm : len ≤ m := by rw [hmm]; split <;> omega
    have each : ∀ i, i < len → ∃ q : ByteArray, W.cell? (a'.add i) = some (.string q) ∧ q.size ≤ maxLen := by
      intro i hi
      obtain ⟨h1, h2⟩ := hall i (by omega)
      obtain ⟨z, f, _, b⟩ := DataW.trod_string Try.underlying9 h2
      simp only [List.cons.injEq, and_true] at f
      exact ⟨z, by rw [h1, f], b⟩
    obtain ⟨q, hq⟩ := choose_lt each
    have hspot : 0 < len → a' = ⟨a'.block, a'.off, none⟩ := fun h0 => by
      have hs := World.cell?_spot (hq 0 h0).1
      obtain ⟨b, o, s⟩ := a'
      have hs : s = none := hs
      subst hs
      rfl
    refine ⟨some a', a'.block, a'.off, len, cap, (List.range len).map q, rfl, ⟨by simp, fun h0 => congrArg some (hspot h0), fun h0 => ?_, hl, hm, fun k hk => ?_⟩, fun x hx => ?_⟩
    · have h1 := World.block_lt_of_cell? W _ (hq 0 h0).1
      rw [hspot h0, addr_add] at h1
      exact h1
    · have hk' : k < len := by simpa using hk
      have h1 := (hq k hk').1
      rw [hspot (by omega), addr_add] at h1
      simp only [List.getElem_map, List.getElem_range]
      exact h1
    · obtain ⟨k, hk, rfl⟩ := List.mem_map.1 hx
      exact (hq k (List.mem_range.1 hk)).2
set_option maxRecDepth 100000 in
theorem open_catA {base : Nat} {v : Value} {d : DataW H} {p : List MemPlace} (hk : Value.okWide Try.prog W .any base 27 v) (h : DataW.Trod enc Try.prog W b0 (fun _ => true) hd 27 v d p) :
    ∃ c : Ct, v = c.val ∧ CtOk W c := by
  obtain ⟨v0, v1, v2, v3, y0, y1, y2, y3, m, rfl, _, _, g0, g1, g2, g3⟩ := open_agg4 Try.underlying27 (by kernel_rfl) cellsCt hk h
  obtain ⟨a0, b0, o0, l0, c0, x0, rfl, s0, q0⟩ := open_gp1 g0
  obtain ⟨a1, b1, o1, l1, c1, x1, rfl, s1, q1⟩ := open_strs1 g1
  obtain ⟨a2, b2, o2, l2, c2, x2, rfl, s2, q2⟩ := open_el1 g2
  obtain ⟨a3, b3, o3, l3, c3, x3, rfl, s3, _⟩ := open_cn1 g3
  exact ⟨⟨a0, b0, o0, l0, c0, a1, b1, o1, l1, c1, a2, b2, o2, l2, c2, a3, b3, o3, l3, c3, x0, x1, x2, x3⟩, rfl, ⟨s0, s1, s2, s3, fun x hx => (q2 x hx).1, fun x hx => (q2 x hx).2, q0, q1⟩⟩
set_option maxRecDepth 100000 in
theorem open_itmA {base : Nat} {v : Value} {d : DataW H} {p : List MemPlace} (hk : Value.okWide Try.prog W .any base 29 v) (h : DataW.Trod enc Try.prog W b0 (fun _ => true) hd 29 v d p) :
    ∃ x : It, v = x.val ∧ x.c.size ≤ maxLen := by
  obtain ⟨cs, rfl, hn⟩ := okWide_struct Try.underlying29 hk
  rw [cellsX] at hn
  obtain ⟨fuel, hf⟩ := h
  obtain ⟨y0, y1, y2, y3, y4, n', _, _, g0, g1, g2, g3, g4⟩ := trod_struct5 Try.underlying29 hf
  obtain ⟨l⟩ := cs
  simp only [Value.cells] at g0 g1 g2 g3 g4
  match l, hn with
  | [v0, v1, v2, v3, v4], _ =>
    simp [cellsI, cellsU, cellsB] at g0 g1 g2 g3 g4
    obtain ⟨z0, f0, _, b0⟩ := DataW.trod_string Try.underlying9 g0
    obtain ⟨z1, f1, _, b1⟩ := DataW.trod_int Try.underlying3 g1
    obtain ⟨z2, f2, _⟩ := DataW.trod_bool Try.underlying4 g2
    obtain ⟨z3, f3, _⟩ := DataW.trod_bool Try.underlying4 g3
    obtain ⟨z4, f4, _⟩ := DataW.trod_bool Try.underlying4 g4
    simp only [List.cons.injEq, and_true] at f0 f1 f2 f3 f4
    exact ⟨⟨z0, z1, z2, z3, z4⟩, by unfold It.val; rw [f0, f1, f2, f3, f4], b0⟩
end
end Go.Proofs.Ytlleebgkglbelaa
