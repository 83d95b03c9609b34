/- Slices of fractions, of rows, of lists that are arguments: opened. -/
import Derived.Test.YtogdkgcgckdehaaGreatRowK
import Derived.Test.YtogdkgcgckdehaaGreatBox
set_option linter.unusedSimpArgs false
set_option linter.unusedVariables false
namespace Go.Proofs.YtogdkgcgckdehaaGreat
open Go.ChangeShapes Go.WideShapes Go.ChangeAt Go.RowKit Go.Joins Go.Deep

theorem cellsF : Tryz.prog.cellsOf 37 = 2 := by kernel_rfl
theorem cellsJ : Tryz.prog.cellsOf 2 = 1 := by kernel_rfl
theorem cellsFs : Tryz.prog.cellsOf 27 = 1 := by kernel_rfl
theorem addr_spot {a : Addr} (h : (a.add (0 * 2)).spot = none) : a.spot = none := h
set_option maxRecDepth 100000 in
theorem open_fracs1 {H : Type} {enc : TypeId × Value → H} {W : World} {b0 fuel : Nat} {hd : Bool} {v : Value} {x : DataW H × List MemPlace}
    (hf : DataW.trod enc Tryz.prog W b0 (fun _ => true) hd fuel 27 [v] = some x) :
    ∃ r : Rw, v = r.val ∧ r.ok W := by
  rcases open_slice_pairs Tryz.underlying27 Tryz.underlying37 cellsF rfl rfl cellsJ cellsJ hf with ⟨hc, _⟩ | ⟨a', len, cap, m, n, V0, V1, D0, D1, P0, P1, hc, _, hl, hm, hmm, _, hall⟩
  · have hc' : v = .slice none 0 0 := by simpa using hc
    exact ⟨⟨none, 0, 0, 0, []⟩, hc', slf_nil W, fun _ => rfl⟩
  · have hc' : v = .slice (some a') len cap := by simpa using hc
    subst hc'
    simp only [if_true] at hmm
    have each : ∀ i, i < len → ∃ q : Int × Int, V0 i = .int .i64 q.1 ∧ V1 i = .int .i64 q.2 ∧ Wf64 q := by
      intro i hi
      obtain ⟨_, _, t0, t1⟩ := hall i (by omega)
      obtain ⟨x, e0, _, w0⟩ := DataW.trod_int Tryz.underlying2 t0
      obtain ⟨y, e1, _, w1⟩ := DataW.trod_int Tryz.underlying2 t1
      simp only [List.cons.injEq, and_true] at e0 e1
      have b0 := bd64 w0
      have b1 := bd64 w1
      exact ⟨(x, y), e0, e1, b0.1, b0.2, b1.1, b1.2⟩
    obtain ⟨q, hq⟩ := choose_lt each
    have hget : ∀ (k : Nat) (h : k < ((List.range len).map q).length), ((List.range len).map q)[k]'h = q k := by intro k h; simp
    have hlen : ((List.range len).map q).length = len := by simp
    refine ⟨⟨some a', a'.block, a'.off, cap, (List.range len).map q⟩, by unfold Rw.val; simp, ⟨rfl, fun h0 => ?_, fun h0 => ?_, by rw [hlen]; exact hl, hm, fun k hk => ?_, fun x hx => ?_⟩, fun h => by cases h⟩
    · rw [hlen] at h0
      have hs := addr_spot (World.cell?_spot (hall 0 (by omega)).1)
      obtain ⟨b, o, s⟩ := a'
      simp only at hs
      subst hs
      rfl
    · rw [hlen] at h0
      have hs := addr_spot (World.cell?_spot (hall 0 (by omega)).1)
      have h1 := World.block_lt_of_cell? W _ (hall 0 (by omega)).1
      obtain ⟨b, o, s⟩ := a'
      simp only at hs
      subst hs
      rw [addr_add] at h1
      exact h1
    · have hk' : k < len := by rw [hlen] at hk; exact hk
      obtain ⟨c0, c1, _, _⟩ := hall k (by omega)
      have hs := addr_spot (World.cell?_spot (hall 0 (by omega)).1)
      obtain ⟨b, o, s⟩ := a'
      simp only at hs
      subst hs
      rw [addr_add] at c0 c1
      obtain ⟨e0, e1, _⟩ := hq k hk'
      simp only [hget]
      exact ⟨by rw [c0, e0], by rw [← Nat.add_assoc] at c1; rw [c1, e1]⟩
    · obtain ⟨k, hk, rfl⟩ := List.mem_map.1 hx
      exact (hq k (List.mem_range.1 hk)).2.2
set_option maxRecDepth 100000 in
theorem open_fracsA {H : Type} {enc : TypeId × Value → H} {W : World} {base b0 : Nat} {hd : Bool} {v : Value} {d : DataW H} {p : List MemPlace}
    (hk : Value.okWide Tryz.prog W .any base 27 v) (h : DataW.Trod enc Tryz.prog W b0 (fun _ => true) hd 27 v d p) :
    ∃ r : Rw, v = r.val ∧ r.ok W := by
  obtain ⟨a, len, cap, rfl⟩ := okWide_slice Tryz.underlying27 hk
  obtain ⟨fuel, hf⟩ := h
  exact open_fracs1 (by simpa [Value.cells] using hf)
set_option maxRecDepth 100000 in
/-- a slice of slices, each of which is read by a law of its own -/
theorem open_outer {H : Type} {enc : TypeId × Value → H} {W : World} {b0 : Nat} {hd : Bool} {α : Type} {val : α → Value} {ok : α → Prop} {t e : TypeId} (ht : Tryz.prog.underlying t = some (.slice e)) (hce : Tryz.prog.cellsOf e = 1)
    (hin : ∀ {fuel v x}, DataW.trod enc Tryz.prog W b0 (fun _ => true) hd fuel e [v] = some x → ∃ r : α, v = val r ∧ ok r)
    {a : Option Addr} {len cap : Nat} {d : DataW H} {p : List MemPlace} (h : DataW.Trod enc Tryz.prog W b0 (fun _ => true) hd t (.slice a len cap) d p) :
    ∃ (b off : Nat) (M : List α), SlG val W a b off len cap M ∧ ∀ r ∈ M, ok r := by
  obtain ⟨fuel, hf⟩ := h
  rcases open_slice1 ht hce hf with ⟨hc, _⟩ | ⟨a', len', cap', m, n, V, D, Pl, hc, _, hl, hm, hmm, _, hall⟩
  · have hc' : (Value.slice a len cap) = .slice none 0 0 := by simpa [Value.cells] using hc
    simp only [Value.slice.injEq] at hc'
    obtain ⟨rfl, rfl, rfl⟩ := hc'
    exact ⟨0, 0, [], slg_nil _ _, fun x hx => absurd hx (by simp)⟩
  · have hc' : (Value.slice a len cap) = .slice (some a') len' cap' := by simpa [Value.cells] using hc
    simp only [Value.slice.injEq] at hc'
    obtain ⟨rfl, rfl, rfl⟩ := hc'
    simp only [if_true] at hmm
    have hspot : 0 < len → a' = ⟨a'.block, a'.off, none⟩ := fun h0 => by
      have hs := World.cell?_spot (hall 0 (by omega)).1
      obtain ⟨b, o, s⟩ := a'
      have hs : s = none := hs
      subst hs
      rfl
    have each : ∀ i, i < len → ∃ q : α, V i = val q ∧ ok q := fun i hi => hin (hall i (by omega)).2
    by_cases h0 : len = 0
    · subst h0
      exact ⟨0, 0, [], ⟨rfl, fun h => absurd h (Nat.lt_irrefl 0), fun h => absurd h (Nat.lt_irrefl 0), hl, hm, fun k hk => absurd hk (Nat.not_lt_zero k)⟩, fun x hx => absurd hx (by simp)⟩
    · obtain ⟨q0, _⟩ := each 0 (by omega)
      have : Nonempty α := ⟨q0⟩
      have : ∃ q : Nat → α, ∀ i, i < len → V i = val (q i) ∧ ok (q i) := ⟨fun i => if h : i < len then Classical.choose (each i h) else q0, fun i h => by
        have := Classical.choose_spec (each i h)
        simp only [h, dif_pos]
        exact this⟩
      obtain ⟨q, hq⟩ := this
      refine ⟨a'.block, a'.off, (List.range len).map q, ⟨by simp, fun h0 => congrArg some (hspot h0), fun h0 => ?_, hl, hm, fun k hk => ?_⟩, fun x hx => ?_⟩
      · have h1 := World.block_lt_of_cell? W _ (hall 0 (by omega)).1
        rw [hspot h0, addr_add] at h1
        exact h1
      · have hk' : k < len := by simpa using hk
        have h1 := (hall k (by omega)).1
        rw [hspot (by omega), addr_add] at h1
        rw [h1, (hq k hk').1]
        simp
      · obtain ⟨k, hk, rfl⟩ := List.mem_map.1 hx
        exact (hq k (List.mem_range.1 hk)).2
set_option maxRecDepth 100000 in
theorem open_rowsA {H : Type} {enc : TypeId × Value → H} {W : World} {base b0 : Nat} {hd : Bool} {v : Value} {d : DataW H} {p : List MemPlace}
    (hk : Value.okWide Tryz.prog W .any base 22 v) (h : DataW.Trod enc Tryz.prog W b0 (fun _ => true) hd 22 v d p) :
    ∃ (a : Option Addr) (b off len cap : Nat) (M : List Rw), v = .slice a len cap ∧ SlR W a b off len cap M := by
  obtain ⟨a, len, cap, rfl⟩ := okWide_slice Tryz.underlying22 hk
  obtain ⟨b, off, M, h1, h2⟩ := open_outer (val := Rw.val) (ok := fun r => r.ok W) Tryz.underlying22 cellsFs (fun hf => open_fracs1 hf) h
  exact ⟨a, b, off, len, cap, M, rfl, h1, h2⟩
end Go.Proofs.YtogdkgcgckdehaaGreat
