/- Contract of layer 20: Repeats, the map of indices. -/
import Derived.Test.YtlleebgkglbelaaGrd
import Derived.Test.YtlleebgkglbelaaItr
import Derived.Test.YtlleebgkglbelaaRev
import Derived.Test.YtlleebgkglbelaaRim
import Derived.Deep.AppendLies
set_option linter.unusedSimpArgs false
set_option linter.unusedVariables false
namespace Go.Proofs.Ytlleebgkglbelaa
open Go.RowKit Go.ChangeShapes

theorem own_ne {W : World} {base e z n xb : Nat} {v : Value} {xs : List Value} {cs : Array Value} {T : TypeId} {fr : Nat × Nat} (h : W.ownsRow base e z v n xs) (hx : W.heap[xb]? = some (.cells cs T fr)) (hT : T ≠ e) : ∀ g, v.ownBlock = some g → g ≠ xb := by
  intro g hg e1
  rcases h.2 with ⟨rfl, _⟩ | ⟨g', cap, cur, rfl, _, hh, _⟩
  · cases hg
  · simp only [Value.ownBlock, Option.some.injEq] at hg
    subst e1
    subst hg
    rw [hx] at hh
    simp only [Option.some.injEq, Obj.cells.injEq] at hh
    exact hT hh.2.1
theorem zeroI (w : World) : (zeroValue 44).run Try.prog w = .ok (.slice none 0 0) w := by kernel_rfl
theorem grown_below {w w' : World} (hB : Below w.heap.size w w') : w.grownBy w' none := ⟨hB.os, hB.tape, hB.output, hB.size, fun k hk _ => hB.block k hk⟩
theorem groups_keep {H : Type} {P : Program} {k : TypeId} {base : Nat} {e : TypeId} {q : IntKind} {b n : Nat} {D : DataW H} {w w' : World} (h : w.ownsGroups P k base e q b n D) (hB : Below w.heap.size w w') : w'.ownsGroups P k base e q b n D := by
  obtain ⟨es, clock, h1, F, h3, h4, h5, h6, h7⟩ := h
  have hg := grown_below hB
  have hbl : b < w.heap.size := (Array.getElem?_eq_some_iff.1 h1).1
  have kp : ∀ (v : Value) (zs : List Int), w.ownsInts base e q v zs → w'.ownsInts base e q v zs := fun v zs ho => ho.kept hg (by cases v.ownBlock <;> simp)
  have hs : ∀ x ∈ es.toList, ∀ z, rowElem (H := H) w base e q x.val = some z → rowElem w' base e q x.val = some z := by
    intro x _ z hz
    obtain ⟨zs, ho, rfl⟩ := rowElem_inv hz
    exact rowElem_mk (kp _ _ ho)
  obtain ⟨F2, hmap2, _⟩ := F.stay hs
  refine ⟨es, clock, (hB.block b hbl).trans h1, F2, h3, by rw [hmap2, h4], h5, fun x hx zs ho => ?_, h7⟩
  obtain ⟨y, hy⟩ := F.reads x hx
  obtain ⟨z, hz, _⟩ := WideElems.rd_val hy
  obtain ⟨zs', ho', _⟩ := rowElem_inv hz
  rw [ho.unique (kp _ _ ho')]
  exact h6 x hx zs' ho'
theorem rep_step1 {R : List Rg} {k xb : Nat} {w V w7 : World} {xc : ByteArray} {av : Option Addr} {cvv : Nat} {zs : List Int} {g7 cap7 : Nat}
    (hback : V.drew.groupBack Try.prog 75 9 (w.heap.size + 1) 3 .i64 w.heap.size k (GD R k) (.string xc) (kS xc) (.slice av zs.length cvv)) (hoi : V.drew.ownsInts (w.heap.size + 1) 3 .i64 (.slice av zs.length cvv) zs) (hzl : zs.length ≤ k)
    (hzs : zs = (grpK R xc k).map (fun (k : Nat) => (k : Int))) (hdd : ∀ l : List Int, l = (grpK R xc k).map (fun (k : Nat) => (k : Int)) → (GD R k).put (kS xc) (.slice (lits .i64 (l ++ [(k : Int)])) []) = GD R (k + 1))
    (hown7 : w7.ownsRow (w.heap.size + 1) 3 1 (.slice (some ⟨g7, 0, none⟩) (zs.length + 1) cap7) (zs.length + 1) (zs.map (Value.int .i64) ++ [.int .i64 (k : Int)])) (hgrow7 : (V.drew.alloc (.cells #[.int .i64 (k : Int)] 3)).grownBy w7 (Value.ownBlock (.slice av zs.length cvv)))
    (hat7 : Value.ownBlock (.slice av zs.length cvv) = some g7 ∨ g7 = (V.drew.alloc (.cells #[.int .i64 (k : Int)] 3)).heap.size) (hBV : Below w.heap.size w V) (hcx : V.cell? ⟨xb, 1, none⟩ = some (.string xc)) (hWV : w.heap.size ≤ V.heap.size) (hVS : xb < V.heap.size) (hbm : w.heap.size < xb) (hk : k ≤ 1000)
    (hown : ∀ g, Value.ownBlock (.slice av zs.length cvv) = some g → g ≠ xb) :
    ∃ w8, (Instr.mapUpdate 75 (.map (some w.heap.size)) (.string xc) (.slice (some ⟨g7, 0, none⟩) (zs.length + 1) cap7)).run Try.prog w7 = .ok () w8 ∧ Hid (w8.ownsGroups (H := Unit) Try.prog 9 (w.heap.size + 1) 3 .i64 w.heap.size (k + 1) (GD R (k + 1))) ∧ Hid (Below w.heap.size w w8) ∧
      Hid (w7.cell? ⟨xb, 1, none⟩ = some (.string xc)) ∧ Hid (w8.cell? ⟨xb, 1, none⟩ = some (.string xc)) := by
  have hW : V.drew.grownBy w7 (Value.ownBlock (.slice av zs.length cvv)) := (World.grownBy_alloc V.drew _ _).trans hgrow7
  have hxs : xb < V.drew.heap.size := hVS
  have hcx2 : V.drew.cell? ⟨xb, 1, none⟩ = some (.string xc) := hcx
  have HC7 : w7.cell? ⟨xb, 1, none⟩ = some (.string xc) := (World.cell?_of_block (a := ⟨xb, 1, none⟩) (hW.block xb hxs (fun e => hown _ e.symm rfl))).trans hcx2
  have HOI7 := hoi.appended hown7 (x := (k : Int)) (WalkArith.wf_i64 (by omega))
  have hloc : Value.ownBlock (.slice (some ⟨g7, 0, none⟩) (zs.length + 1) cap7) = Value.ownBlock (.slice av zs.length cvv) ∨ ∃ g, Value.ownBlock (.slice (some ⟨g7, 0, none⟩) (zs.length + 1) cap7) = some g ∧ V.drew.heap.size ≤ g := by
    rcases hat7 with h | h
    · exact Or.inl (by rw [h]; rfl)
    · exact Or.inr ⟨g7, rfl, by rw [h]; simp⟩
  obtain ⟨w8, hrun8, hG8, hgrow8⟩ := hback w7 (.slice (some ⟨g7, 0, none⟩) (zs.length + 1) cap7) (zs ++ [(k : Int)]) hW HOI7 (by rw [List.length_append, List.length_singleton]; omega) hloc
  have hD : (GD R k).put (kS xc) (rowDatum .i64 (.slice (some ⟨g7, 0, none⟩) (zs.length + 1) cap7) (zs ++ [(k : Int)])) = GD R (k + 1) := by
    rw [HOI7.datum_pos (H := Unit) (by simp)]
    exact hdd zs hzs
  rw [hD] at hG8
  refine ⟨w8, hrun8, Lib.hid hG8, Lib.hid (RowKit.Below.groups (w := V.drew) hBV.drew hoi hW hgrow8 hWV (Nat.le_succ _) (Nat.le_refl _)), Lib.hid HC7, Lib.hid ?_⟩
  exact (World.cell?_of_block (a := ⟨xb, 1, none⟩) (hgrow8.block xb (Nat.lt_of_lt_of_le hxs hW.size) (fun e => by cases e; omega))).trans HC7
theorem rep_step2 {R : List Rg} {k xb : Nat} {w V w7 : World} {xc : ByteArray} {av : Option Addr} {cvv : Nat} {zs : List Int} {g7 cap7 : Nat}
    (hback : (V.drew.alloc (.cells #[.int .i64 (k : Int)] 3)).groupBack Try.prog 75 9 (w.heap.size + 1) 3 .i64 w.heap.size k (GD R k) (.string xc) (kS xc) (.slice av zs.length cvv)) (hoi : (V.drew.alloc (.cells #[.int .i64 (k : Int)] 3)).ownsInts (w.heap.size + 1) 3 .i64 (.slice av zs.length cvv) zs) (hzl : zs.length ≤ k)
    (hzs : zs = (grpK R xc k).map (fun (k : Nat) => (k : Int))) (hdd : ∀ l : List Int, l = (grpK R xc k).map (fun (k : Nat) => (k : Int)) → (GD R k).put (kS xc) (.slice (lits .i64 (l ++ [(k : Int)])) []) = GD R (k + 1))
    (hown7 : w7.ownsRow (w.heap.size + 1) 3 1 (.slice (some ⟨g7, 0, none⟩) (zs.length + 1) cap7) (zs.length + 1) (zs.map (Value.int .i64) ++ [.int .i64 (k : Int)])) (hgrow7 : (V.drew.alloc (.cells #[.int .i64 (k : Int)] 3)).grownBy w7 (Value.ownBlock (.slice av zs.length cvv)))
    (hat7 : Value.ownBlock (.slice av zs.length cvv) = some g7 ∨ g7 = (V.drew.alloc (.cells #[.int .i64 (k : Int)] 3)).heap.size) (hBV : Below w.heap.size w V) (hcx : V.cell? ⟨xb, 1, none⟩ = some (.string xc)) (hWV : w.heap.size ≤ V.heap.size) (hVS : xb < V.heap.size) (hbm : w.heap.size < xb) (hk : k ≤ 1000)
    (hown : ∀ g, Value.ownBlock (.slice av zs.length cvv) = some g → g ≠ xb) :
    ∃ w8, (Instr.mapUpdate 75 (.map (some w.heap.size)) (.string xc) (.slice (some ⟨g7, 0, none⟩) (zs.length + 1) cap7)).run Try.prog w7 = .ok () w8 ∧ Hid (w8.ownsGroups (H := Unit) Try.prog 9 (w.heap.size + 1) 3 .i64 w.heap.size (k + 1) (GD R (k + 1))) ∧ Hid (Below w.heap.size w w8) ∧
      Hid (w7.cell? ⟨xb, 1, none⟩ = some (.string xc)) ∧ Hid (w8.cell? ⟨xb, 1, none⟩ = some (.string xc)) := by
  have hW : (V.drew.alloc (.cells #[.int .i64 (k : Int)] 3)).grownBy w7 (Value.ownBlock (.slice av zs.length cvv)) := hgrow7
  have hxs : xb < (V.drew.alloc (.cells #[.int .i64 (k : Int)] 3)).heap.size := (by rw [World.size_alloc]; exact Nat.lt_succ_of_lt hVS)
  have hcx2 : (V.drew.alloc (.cells #[.int .i64 (k : Int)] 3)).cell? ⟨xb, 1, none⟩ = some (.string xc) := (World.cell?_alloc_lt _ _ _ hVS).trans hcx
  have HC7 : w7.cell? ⟨xb, 1, none⟩ = some (.string xc) := (World.cell?_of_block (a := ⟨xb, 1, none⟩) (hW.block xb hxs (fun e => hown _ e.symm rfl))).trans hcx2
  have HOI7 := hoi.appended hown7 (x := (k : Int)) (WalkArith.wf_i64 (by omega))
  have hloc : Value.ownBlock (.slice (some ⟨g7, 0, none⟩) (zs.length + 1) cap7) = Value.ownBlock (.slice av zs.length cvv) ∨ ∃ g, Value.ownBlock (.slice (some ⟨g7, 0, none⟩) (zs.length + 1) cap7) = some g ∧ (V.drew.alloc (.cells #[.int .i64 (k : Int)] 3)).heap.size ≤ g := by
    rcases hat7 with h | h
    · exact Or.inl (by rw [h]; rfl)
    · exact Or.inr ⟨g7, rfl, by rw [h]; simp⟩
  obtain ⟨w8, hrun8, hG8, hgrow8⟩ := hback w7 (.slice (some ⟨g7, 0, none⟩) (zs.length + 1) cap7) (zs ++ [(k : Int)]) hW HOI7 (by rw [List.length_append, List.length_singleton]; omega) hloc
  have hD : (GD R k).put (kS xc) (rowDatum .i64 (.slice (some ⟨g7, 0, none⟩) (zs.length + 1) cap7) (zs ++ [(k : Int)])) = GD R (k + 1) := by
    rw [HOI7.datum_pos (H := Unit) (by simp)]
    exact hdd zs hzs
  rw [hD] at hG8
  refine ⟨w8, hrun8, Lib.hid hG8, Lib.hid (RowKit.Below.groups (w := (V.drew.alloc (.cells #[.int .i64 (k : Int)] 3))) ((hBV.drew).alloc hWV _) hoi hW hgrow8 (by rw [World.size_alloc]; exact Nat.le_succ_of_le hWV) (Nat.le_succ _) (Nat.le_refl _)), Lib.hid HC7, Lib.hid ?_⟩
  exact (World.cell?_of_block (a := ⟨xb, 1, none⟩) (hgrow8.block xb (Nat.lt_of_lt_of_le hxs hW.size) (fun e => by cases e; omega))).trans HC7
/-- the map of indices, made -/
def GrpAt (w : World) (base b n : Nat) (R : List Rg) (k : Nat) : Prop := w.ownsGroups (H := Unit) Try.prog 9 base 3 .i64 b n (GD R k)
theorem groups_map {H : Type} {P : Program} {k : TypeId} {base : Nat} {e : TypeId} {q : IntKind} {b n : Nat} {D : DataW H} {w : World} (h : w.ownsGroups P k base e q b n D) : w.ownsMap P k (rowElem w base e q) b n D := by
  obtain ⟨es, clock, h1, F, h3, h4, _⟩ := h
  exact ⟨es, clock, h1, F, h3, h4⟩
theorem strKeys_len {H : Type} (D : DataW H) : (strKeys D).length = Maps.size D := by
  cases D <;> simp [strKeys, Maps.size]
/-- the codes, sorted -/
def keysR (R : List Rg) (n : Nat) : List (List UInt8) := (strKeys (GD R n)).mergeSort leB
/-- the lists of codes that stand more than once -/
def outK (R : List Rg) (n : Nat) (ss : List (List UInt8)) : List (List Nat) := ss.filterMap (fun s => if (grpK R (bs s) n).length > 1 then some (grpK R (bs s) n) else none)
/-- a slice of ints that reads as a list -/
def RdI (w : World) (v : Value) (zs : List Nat) : Prop := ∃ a g cap, v = .slice a zs.length cap ∧ (0 < zs.length → a = some ⟨g, 0, none⟩ ∧ ∃ cs fr, w.heap[g]? = some (.cells cs 3 fr)) ∧ (∀ (j : Nat) (h : j < zs.length), w.cell? ⟨g, j, none⟩ = some (.int .i64 ((zs[j]'h : Nat) : Int))) ∧ zs.length ≤ cap ∧ cap ≤ maxLen
theorem RdI.grown {w w' : World} {row : Option Nat} {v : Value} {zs : List Nat} (h : RdI w v zs) (hg : w.grownBy w' row) (hr : ∀ r, row = some r → ∀ cs fr, w.heap[r]? ≠ some (.cells cs 3 fr)) : RdI w' v zs := by
  obtain ⟨a, g, cap, h1, h2, h3, h4, h5⟩ := h
  have hne : 0 < zs.length → g < w.heap.size ∧ some g ≠ row := fun h0 => by
    obtain ⟨_, cs, fr, hh⟩ := h2 h0
    exact ⟨(Array.getElem?_eq_some_iff.1 hh).1, fun e => hr g e.symm cs fr hh⟩
  refine ⟨a, g, cap, h1, fun h0 => ?_, fun j hj => ?_, h4, h5⟩
  · obtain ⟨ha, cs, fr, hh⟩ := h2 h0
    exact ⟨ha, cs, fr, (hg.block g (hne h0).1 (hne h0).2).trans hh⟩
  · exact (World.cell?_of_block (a := ⟨g, j, none⟩) (hg.block g (hne (by omega)).1 (hne (by omega)).2)).trans (h3 j hj)
theorem RdI.keep {w w' : World} {v : Value} {zs : List Nat} (h : RdI w v zs) (hB : Below w.heap.size w w') : RdI w' v zs := h.grown (grown_below hB) (fun r e => by cases e)
theorem rdI_of {w : World} {base : Nat} {v : Value} {zs : List Int} {l : List Nat} (h : w.ownsInts base 3 .i64 v zs) (hz : zs = l.map (fun (k : Nat) => (k : Int))) : RdI w v l := by
  have hr := h.1
  rcases h.1.2 with ⟨rfl, h0⟩ | ⟨g, cap, cur, rfl, _, hh, h1, h2, _, _⟩
  · have : l = [] := by
      have := congrArg List.length hz
      rw [List.length_map] at this
      exact List.eq_nil_of_length_eq_zero (by omega)
    subst this
    exact ⟨none, 0, 0, rfl, fun h => absurd h (Nat.lt_irrefl 0), fun j hj => absurd hj (Nat.not_lt_zero _), Nat.le_refl _, Nat.zero_le _⟩
  · have hl : zs.length = l.length := by rw [hz, List.length_map]
    refine ⟨_, g, cap, by rw [hl], fun _ => ⟨rfl, _, _, hh⟩, fun j hj => ?_, by omega, h2⟩
    rw [hr.cellAt j (by omega), hz]
    simp [hj]
theorem infoL : (Try.prog.info? 44).map (fun i => (i.zero, i.size, i.bytes)) = some (some (.slice none 0 0), 1, 24) := by kernel_rfl
theorem own_type {W : World} {base e z n : Nat} {v : Value} {xs : List Value} (h : W.ownsRow base e z v n xs) {T : TypeId} (hT : e ≠ T) : ∀ r, v.ownBlock = some r → ∀ cs fr, W.heap[r]? ≠ some (.cells cs T fr) := by
  intro r hr cs fr e1
  rcases h.2 with ⟨rfl, _⟩ | ⟨g', cap, cur, rfl, _, hh, _⟩
  · cases hr
  · simp only [Value.ownBlock, Option.some.injEq] at hr
    subst hr
    rw [e1] at hh
    simp only [Option.some.injEq, Obj.cells.injEq] at hh
    exact hT hh.2.1.symm
/-- what Repeats gives -/
def RepPost (w : World) (R : List Rg) (n : Nat) (e : Ending) (w' : World) : Prop :=
  ∃ (v : Value) (M : List (Value × List Nat)), e = .returned v ∧ w'.ownsRow w.heap.size 44 1 v M.length (M.map (·.1)) ∧ (∀ p ∈ M, RdI w' p.1 p.2) ∧ M.map (·.2) = outK R n (keysR R n) ∧ Below w.heap.size w w'
set_option maxHeartbeats 4000000 in
set_option maxRecDepth 100000 in
theorem repeats_any {w : World} {a : Option Addr} {b off len cap : Nat} {R : List Rg} (h : SlR w a b off len cap R) (hm : len ≤ 1000) (hz : ∀ x ∈ R, x.c.size ≤ maxLen) : Calls Try.prog 29 #[.slice a len cap] w (RepPost w R len) := by
  obtain ⟨iz, hi, hz0, hz1, hz2⟩ := info_parts infoI
  obtain ⟨iz2, hi2, hy0, hy1, hy2⟩ := info_parts infoL
  have hmm := @run_makeMap Try.prog
  have hl0 := h.hl
  have HS := Lib.hid h
  have HZ := Lib.hid hz
  clear h hz
  go_enter Try.func29, Try.ntmps29
  go_wp2_with fail
  have HG0 := Lib.hid (show (w.alloc (.map #[] 0)).ownsGroups (H := Unit) Try.prog 9 (w.heap.size + 1) 3 .i64 w.heap.size 0 (GD R 0) from World.ownsGroups_made _ _ _ _ _)
  go_loopw [12] (fun s12 wr => ∃ k : Nat, k ≤ len ∧ s12 = .int .i64 (k : Int) ∧ Hid (wr.ownsGroups (H := Unit) Try.prog 9 (w.heap.size + 1) 3 .i64 w.heap.size k (GD R k)) ∧ Hid (Below w.heap.size w wr)) (fun s12 _ => (len - (intOf s12)).toNat)
  case atStart => exact ⟨0, Nat.zero_le _, rfl, HG0, Lib.hid ((Below.refl _ _).alloc (Nat.le_refl _) _)⟩
  case round =>
    obtain ⟨k, hk, rfl, HG, HB⟩ := hrel
    clear HG0
    by_cases hlt : k < len
    · have hl : (k : Int) < (len : Int) := by omega
      have hkL : k < R.length := by omega
      have S := HS.out.keep HB.out
      obtain rfl := S.ha (by omega)
      have sb := S.hb (by omega)
      have c0 := S.c0 k hkL
      have c1 := S.c1 k hkL
      have c2 := S.c2 k hkL
      have c3 := S.c3 k hkL
      have c4 := S.c4 k hkL
      have c5 := S.c5 k hkL
      have c6 := S.c6 k hkL
      have hx : R.getD k Rg.zero = R[k]'hkL := by simp [List.getD, hkL]
      have HZX := Lib.hid (HZ.out _ (List.getElem_mem hkL))
      have hgdr : GD R (k + 1) = if (R.getD k Rg.zero).k = true then (GD R k).put (kS (R.getD k Rg.zero).c) (litI (grpK R (R.getD k Rg.zero).c (k + 1))) else GD R k := rfl
      have hgrp : ∀ s, grpK R s (k + 1) = if (R.getD k Rg.zero).k = true ∧ (R.getD k Rg.zero).c = s then grpK R s k ++ [k] else grpK R s k := fun s => rfl
      rw [hx] at hgdr
      simp only [hx] at hgrp
      clear S hx
      generalize R[k]'hkL = x at *
      obtain ⟨xk, xc, xg, xs, xn, xr, xj⟩ := x
      simp only at c0 c1 c2 c3 c4 c5 c6 HZX hgdr hgrp
      have HI := Lib.hid (rg_new wr ⟨xk, xc, xg, xs, xn, xr, xj⟩ 35)
      have hszw : w.heap.size ≤ wr.heap.size := HB.out.size
      have hbm : w.heap.size < wr.heap.size := by
        obtain ⟨es, clock, h1, _⟩ := HG.out
        exact (Array.getElem?_eq_some_iff.1 h1).1
      have HBV := Lib.hid (show Below w.heap.size w (wr.alloc (.cells #[.bool xk, .string xc, .string xg, .string xs, .int .i64 xn, .bool xr, .bool xj] 35)) from HB.out.alloc HB.out.size _)
      have HGV := Lib.hid (groups_keep HG.out (show Below wr.heap.size wr (wr.alloc (.cells #[.bool xk, .string xc, .string xg, .string xs, .int .i64 xn, .bool xr, .bool xj] 35)) from (Below.refl _ _).alloc (Nat.le_refl _) _))
      obtain ⟨i0, i1, i2, i3, i4, i5, i6, iff, il⟩ := HI.out
      simp only at i0 i1 i2 i3 i4 i5 i6
      cases xk with
      | false =>
        rw [if_neg (by simp)] at hgdr
        have HG2 := Lib.hid (show (wr.alloc (.cells #[.bool false, .string xc, .string xg, .string xs, .int .i64 xn, .bool xr, .bool xj] 35)).ownsGroups (H := Unit) Try.prog 9 (w.heap.size + 1) 3 .i64 w.heap.size (k + 1) (GD R (k + 1)) by
          rw [hgdr]
          obtain ⟨es, clock, h1, F, h3, h4, h5, h6, h7⟩ := HGV.out
          exact ⟨es, clock, h1, F, Nat.le_succ_of_le h3, h4, h5, fun x hx zs ho => Nat.le_succ_of_le (h6 x hx zs ho), h7⟩)
        clear hgdr hgrp HGV HG HB
        go_wp2_with fail
        go_roundw
        case rel => exact ⟨k + 1, by omega, by go_num, HG2, HBV⟩
        case measure => simp [intOf]; omega
      | true =>
        rw [if_pos rfl] at hgdr
        have HDD := Lib.hid (show ∀ l : List Int, l = (grpK R xc k).map (fun (k : Nat) => (k : Int)) → (GD R k).put (kS xc) (.slice (lits .i64 (l ++ [(k : Int)])) []) = GD R (k + 1) by
          rintro l rfl
          rw [hgdr, hgrp xc, if_pos ⟨rfl, rfl⟩]
          unfold litI
          rw [if_neg (by simp)]
          simp)
        clear hgdr hgrp HG HB
        have HCX := Lib.hid i1
        have HVS := Lib.hid il
        go_upto_region 6 with fail
        have HXO := Lib.hid ((MapKept.heap_alloc wr (.cells #[.bool true, .string xc, .string xg, .string xs, .int .i64 xn, .bool xr, .bool xj] 35)).1)
        clear c0 c1 c2 c3 c4 c5 c6 i0 i1 i2 i3 i4 i5 i6 iff il HI
        generalize (wr.alloc (.cells #[.bool true, .string xc, .string xg, .string xs, .int .i64 xn, .bool xr, .bool xj] 35)) = V at *
        have HWV := Lib.hid (show w.heap.size ≤ V.heap.size by have := HVS.out; omega)
        have HCXA := Lib.hid (show (V.drew.alloc (.cells #[.int .i64 (k : Int)] 3)).cell? ⟨wr.heap.size, 1, none⟩ = some (.string xc) from (World.cell?_alloc_lt _ _ _ HVS.out).trans HCX.out)
        have HGW1 := groups_keep HGV.out (show Below V.heap.size V V.drew from (by repeat (first | with_reducible exact Below.refl _ _ | (with_reducible refine Below.setCell ?_ (by first | exact Nat.le_refl _ | omega | (simp; done) | (simp; omega)) _) | (with_reducible refine Below.alloc ?_ (by first | exact Nat.le_refl _ | omega | (simp; done) | (simp; omega)) _) | with_reducible refine Below.drew ?_ | with_reducible refine bel_drewN ?_ _ | (with_reducible refine bel_by (by with_reducible assumption) (by first | exact Nat.le_refl _ | omega | (simp; done) | (simp; omega)) ?_))))
        obtain ⟨v1, zs1, hrun1, hat1, hoi1, hzl1, hback1⟩ := HGW1.at (t := 75) (E := 44) lawS Try.underlying75 (zeroI _) (by unfold maxLen; omega) (kS_of HZX.out)
        rw [GD_at] at hat1
        have hzs1 := owned_is hoi1 hat1
        have HBK1 := Lib.hid hback1
        have HOI1 := Lib.hid hoi1
        have HZS1 := Lib.hid hzs1
        obtain ⟨av1, cvv1, rfl⟩ := own_form hoi1.1
        clear hat1 hoi1 hback1 hzs1 HGW1
        have HGW2 := groups_keep HGV.out (show Below V.heap.size V ((V.alloc (.cells #[.int .i64 (k : Int)] 3)).drew) from (by repeat (first | with_reducible exact Below.refl _ _ | (with_reducible refine Below.setCell ?_ (by first | exact Nat.le_refl _ | omega | (simp; done) | (simp; omega)) _) | (with_reducible refine Below.alloc ?_ (by first | exact Nat.le_refl _ | omega | (simp; done) | (simp; omega)) _) | with_reducible refine Below.drew ?_ | with_reducible refine bel_drewN ?_ _ | (with_reducible refine bel_by (by with_reducible assumption) (by first | exact Nat.le_refl _ | omega | (simp; done) | (simp; omega)) ?_))))
        obtain ⟨v2, zs2, hrun2, hat2, hoi2, hzl2, hback2⟩ := HGW2.at (t := 75) (E := 44) lawS Try.underlying75 (zeroI _) (by unfold maxLen; omega) (kS_of HZX.out)
        rw [GD_at] at hat2
        have hzs2 := owned_is hoi2 hat2
        have HBK2 := Lib.hid hback2
        have HOI2 := Lib.hid hoi2
        have HZS2 := Lib.hid hzs2
        obtain ⟨av2, cvv2, rfl⟩ := own_form hoi2.1
        clear hat2 hoi2 hback2 hzs2 HGW2
        have hgx : wr.heap.size < V.heap.size := HVS.out
        have HNX1 := Lib.hid (own_ne HOI1.out.1 (show V.drew.heap[wr.heap.size]? = _ from HXO.out) (by decide))
        have HNX2 := Lib.hid (own_ne HOI2.out.1 ((RowKit.Below.heap_alloc V.drew _ _ HVS.out).trans (show V.drew.heap[wr.heap.size]? = _ from HXO.out)) (by decide))
        go_region_held3 (fun w' => w'.cell? ⟨wr.heap.size, 1, none⟩ = some (.string xc)) (first | exact HCX.out | exact HCXA.out | exact HC7.out | exact HC8.out) ((first | (refine step_append_lies (w := ((V.alloc (.cells #[.int .i64 (k : Int)] 3)).drew)) rfl _ _ 44 rfl (w.heap.size + 1) 3 iz (.int .i64 0) 1 8 Try.underlying44 hi hz0 hz1 hz2 rfl (by decide) (.slice av1 zs1.length cvv1) zs1.length (zs1.map (Value.int .i64)) rfl (show ((V.alloc (.cells #[.int .i64 (k : Int)] 3)).drew).ownsRow _ _ _ _ _ _ from HOI1.out.1.alloc (.cells #[.int .i64 (k : Int)] 3)) ⟨V.heap.size, 0, none⟩ 1 1 [.int .i64 (k : Int)] rfl rfl (one_cell V (.int .i64 (k : Int)) 3) (by intro u hu; simp only [List.mem_cons, List.not_mem_nil, or_false] at hu; rcases hu with rfl <;> rfl) (by decide) (by unfold maxLen; omega) (by omega) (by simp; omega) _ rfl ?_; intro g7 cap7 w7 hown7 hgrow7 hat7 hlt7; obtain ⟨w8, hrun8, HG8, HB8, HC7, HC8⟩ := rep_step1 HBK1.out HOI1.out hzl1 HZS1.out HDD.out hown7 hgrow7 hat7 HBV.out HCX.out HWV.out HVS.out hbm (by omega) (fun g h => HNX1.out g h); clear hown7 hgrow7 hat7) | (refine step_append_lies (w := ((V.alloc (.cells #[.int .i64 (k : Int)] 3)).drew)) rfl _ _ 44 rfl (w.heap.size + 1) 3 iz (.int .i64 0) 1 8 Try.underlying44 hi hz0 hz1 hz2 rfl (by decide) (.slice av2 zs2.length cvv2) zs2.length (zs2.map (Value.int .i64)) rfl HOI2.out.1 ⟨V.heap.size, 0, none⟩ 1 1 [.int .i64 (k : Int)] rfl rfl (one_cell V (.int .i64 (k : Int)) 3) (by intro u hu; simp only [List.mem_cons, List.not_mem_nil, or_false] at hu; rcases hu with rfl <;> rfl) (by decide) (by unfold maxLen; omega) (by omega) (by simp; omega) _ rfl ?_; intro g7 cap7 w7 hown7 hgrow7 hat7 hlt7; obtain ⟨w8, hrun8, HG8, HB8, HC7, HC8⟩ := rep_step2 HBK2.out HOI2.out hzl2 HZS2.out HDD.out hown7 hgrow7 hat7 HBV.out HCX.out HWV.out HVS.out hbm (by omega) (fun g h => HNX2.out g h); clear hown7 hgrow7 hat7)))
        all_goals
          go_wp2_with fail
          go_roundw
          case rel => exact ⟨k + 1, by omega, by go_num, HG8, HB8⟩
          case measure => simp [intOf]; omega
    · obtain rfl : k = len := by omega
      have hl : ¬ (k : Int) < (k : Int) := by omega
      have HOM := Lib.hid (groups_map HG.out)
      have hsz := GD_size R k
      have HKL := Lib.hid (strKeys_le (groups_map HG.out) Try.underlying9)
      have HKY := Lib.hid (keys_any (some w.heap.size) wr)
      have HSK := Lib.hid (sorted_keys_any w.heap.size k (GD R k) _ wr (groups_map HG.out) (by unfold maxLen; omega) (by omega))
      have hszw : w.heap.size < wr.heap.size := by
        obtain ⟨es, clock, h1, _⟩ := HG.out
        exact (Array.getElem?_eq_some_iff.1 h1).1
      have HKN := Lib.hid (show (keysR R k).length ≤ k by unfold keysR; rw [List.length_mergeSort]; have : (strKeys (GD R k)).length = Maps.size (GD R k) := strKeys_len _; omega)
      unfold RepPost
      go_wp2_with fail
      refine HKY.out.mono ?_
      rintro e w1 ⟨rfl, rfl⟩
      go_wp2_with fail
      refine HSK.out.mono ?_
      rintro e w2 ⟨v, ss, rfl, hperm, hrow, _, hb2⟩
      have hss : ss.mergeSort (fun x y => decide (x ≤ y)) = keysR R k := mergeSort_of_perm hperm
      have hsl : ss.length = (keysR R k).length := by rw [← hss, List.length_mergeSort]
      rw [hss, hsl] at hrow
      have HBW := Lib.hid (show Below wr.heap.size wr w2 from ((Below.refl wr.heap.size wr).alloc (Nat.le_refl _) _).trans (hb2.mono (by simp)))
      have HB2 := Lib.hid (HB.out.trans (HBW.out.mono HB.out.size))
      have HG2 := Lib.hid (groups_keep HG.out HBW.out)
      have HR2 := Lib.hid hrow
      obtain ⟨aT, cT, rfl⟩ := own_form hrow
      have HKT := Lib.hid (show ∀ x ∈ keysR R k, x.length ≤ maxLen from fun x hx => HKL.out x (List.mem_mergeSort.1 hx))
      have hkn := HKN.out
      obtain ⟨T, hT⟩ : ∃ T, keysR R k = T := ⟨_, rfl⟩
      rw [hT] at HR2 HKT hkn ⊢
      have HTT := Lib.hid hT
      clear hT
      clear hrow hb2 hss hsl hperm HSK HKY HKL HOM HG HB HKN
      go_wp2_with fail
      go_loopw [6, 34] (fun s6 s34 wx => ∃ (j : Nat) (M : List (Value × List Nat)), j ≤ T.length ∧ s34 = .int .i64 (j : Int) ∧ M.length ≤ j ∧ Hid (wx.ownsRow w2.heap.size 44 1 s6 M.length (M.map (·.1))) ∧ Hid (Below w2.heap.size w2 wx) ∧ Hid (∀ p ∈ M, RdI wx p.1 p.2) ∧ Hid (M.map (·.2) = outK R k (T.take j))) (fun _ s34 _ => (T.length - (intOf s34)).toNat)
      case atStart => exact ⟨0, [], Nat.zero_le _, rfl, Nat.le_refl _, Lib.hid (World.ownsRow_nil _ _ _ _), Lib.hid (Below.refl _ _), Lib.hid (fun p hp => absurd hp (by simp)), Lib.hid (by simp [outK])⟩
      case round =>
        obtain ⟨j, M, hj, rfl, hMj, HO, HB, HRD, HE⟩ := hrel
        obtain ⟨ao, co, rfl⟩ := own_form HO.out
        by_cases hlt2 : j < T.length
        · have hl2 : (j : Int) < (T.length : Int) := by omega
          obtain ⟨gT, cT2, hfm, hgb, hgl⟩ := HR2.out.form (by omega)
          simp only [Value.slice.injEq] at hfm
          obtain ⟨rfl, _, rfl⟩ := hfm
          have hcell := (HB.out.cell (p := ⟨gT, j, none⟩) hgl).trans (HR2.out.cellAt j (by omega))
          rw [List.getElem?_map, List.getElem?_eq_getElem hlt2] at hcell
          have HTX := Lib.hid (HKT.out _ (List.getElem_mem hlt2))
          have HTK := Lib.hid (show outK R k (T.take (j + 1)) = outK R k (T.take j) ++ outK R k [T[j]'hlt2] by
            rw [List.take_succ_eq_append_getElem hlt2]; unfold outK; rw [List.filterMap_append])
          generalize T[j]'hlt2 = x at *
          have hgx : gT < wr.heap.size := Nat.lt_of_lt_of_le hgl HB.out.size
          have hcx : wr.cell? ⟨gT, j, none⟩ = some (.string (bs x)) := hcell
          have HGX := Lib.hid (groups_keep HG2.out HB.out)
          have hkx : (bs x).size ≤ maxLen := by rw [bs_size]; exact HTX.out
          have hg2 : w2.heap.size ≤ wr.heap.size := HB.out.size
          clear hcell
          go_wp2_with (at_lookup; go_loud (refine wpList_lookup_groups _ rfl _ _ 75 rfl 9 44 3 .i64 lawS Try.underlying75 (zeroI _) (w.heap.size + 1) w.heap.size k (GD R k) rfl HGX.out (by unfold maxLen; omega) (.string (bs x)) (kS (bs x)) rfl (kS_of hkx) ?_))
          intro v zs hat hoi hzl hback
          rw [GD_at] at hat
          have hzs := owned_is hoi hat
          have hzn : zs.length = (grpK R (bs x) k).length := by rw [hzs, List.length_map]
          obtain ⟨av, cv, rfl⟩ := own_form hoi.1
          clear hat hoi hback hzs
          by_cases hgt : zs.length > 1
          · have g1 : (zs.length : Int) > 1 := by omega
            have HTK2 := Lib.hid (show outK R k (T.take (j + 1)) = outK R k (T.take j) ++ [grpK R (bs x) k] by
              rw [HTK.out]; congr 1; unfold outK; rw [List.filterMap_cons, if_pos (by omega)]; rfl)
            clear hzn
            go_wp2_with (at_lookup; go_loud (refine wpList_lookup_groups _ rfl _ _ 75 rfl 9 44 3 .i64 lawS Try.underlying75 (zeroI _) (w.heap.size + 1) w.heap.size k (GD R k) rfl HGX.out (by unfold maxLen; omega) (.string (bs x)) (kS (bs x)) rfl (kS_of hkx) ?_))
            intro v2 zs2 hat hoi hzl2 hback
            rw [GD_at] at hat
            have HRI := Lib.hid (rdI_of hoi (owned_is hoi hat))
            obtain ⟨av2, cv2, rfl⟩ := own_form hoi.1
            clear hat hoi hback
            have HO3 := Lib.hid (HO.out.alloc (.cells #[.slice av2 zs2.length cv2] 44))
            have HB3 := Lib.hid (show Below w2.heap.size w2 (wr.alloc (.cells #[.slice av2 zs2.length cv2] 44)) from HB.out.alloc hg2 _)
            have HCE := Lib.hid (one_cell wr (.slice av2 zs2.length cv2) 44)
            have HOL := Lib.hid (fun g h => HO.out.lt g h)
            have HOT := Lib.hid (own_type HO3.out (T := 3) (by decide))
            have HR3 := Lib.hid (show ∀ p ∈ M, RdI (wr.alloc (.cells #[.slice av2 zs2.length cv2] 44)) p.1 p.2 from fun p hp => (HRD.out p hp).keep ((Below.refl _ _).alloc (Nat.le_refl _) _))
            have HR4 := Lib.hid (show RdI (wr.alloc (.cells #[.slice av2 zs2.length cv2] 44)) (.slice av2 zs2.length cv2) (grpK R (bs x) k) from HRI.out.keep ((Below.refl _ _).alloc (Nat.le_refl _) _))
            clear HO HB HRD HRI
            go_wp2_with (at_builtin; go_loud (refine wpList_append_blk _ rfl _ _ 59 rfl w2.heap.size 44 iz2 (.slice none 0 0) 1 24 Try.underlying59 hi2 hy0 hy1 hy2 rfl (by decide) _ _ _ rfl HO3.out ⟨wr.heap.size, 0, none⟩ 1 1 [.slice av2 zs2.length cv2] rfl rfl HCE.out ?n1 ?n2 ?n3 ?n4 (by decide) ?_))
            case n1 => first | rfl | (intro u hu; simp only [List.mem_cons, List.not_mem_nil, or_false] at hu; rcases hu with rfl <;> rfl)
            case n2 => unfold maxLen; omega
            case n3 => omega
            case n4 => first | omega | (simp; omega)
            intro v' w7 ho hg hbk
            have HO7 := Lib.hid (show w7.ownsRow w2.heap.size 44 1 v' (M ++ [(Value.slice av2 zs2.length cv2, grpK R (bs x) k)]).length ((M ++ [(Value.slice av2 zs2.length cv2, grpK R (bs x) k)]).map (·.1)) by rw [List.length_append, List.length_singleton, List.map_append]; exact ho)
            have HB7 := Lib.hid (HB3.out.grown hg (by simp; omega) (fun g h => (HOL.out g h).1))
            have HR7 := Lib.hid (show ∀ p ∈ M ++ [(Value.slice av2 zs2.length cv2, grpK R (bs x) k)], RdI w7 p.1 p.2 from fun p hp => by
              rcases List.mem_append.1 hp with hp | hp
              · exact (HR3.out p hp).grown hg HOT.out
              · simp only [List.mem_singleton] at hp; subst hp; exact HR4.out.grown hg HOT.out)
            clear ho hg hbk HO3 HB3 HCE HOL HR3 HR4 HOT
            go_wp2_with fail
            go_roundw
            case rel => exact ⟨j + 1, M ++ [(Value.slice av2 zs2.length cv2, grpK R (bs x) k)], by omega, by go_num, by rw [List.length_append, List.length_singleton]; omega, HO7, HB7, HR7, Lib.hid (by rw [List.map_append, HE.out, HTK2.out]; rfl)⟩
            case measure => simp [intOf]; omega
          · have g1 : ¬ (zs.length : Int) > 1 := by omega
            have HTK2 := Lib.hid (show outK R k (T.take (j + 1)) = outK R k (T.take j) by
              rw [HTK.out]; unfold outK; rw [List.filterMap_cons, if_neg (by omega)]; simp)
            clear hzn
            go_wp2_with fail
            go_roundw
            case rel => exact ⟨j + 1, M, by omega, by go_num, by omega, HO, HB, HRD, Lib.hid (by rw [HE.out, HTK2.out])⟩
            case measure => simp [intOf]; omega
        · obtain rfl : j = T.length := by omega
          have hl2 : ¬ (T.length : Int) < (T.length : Int) := by omega
          have HE2 := Lib.hid (show M.map (·.2) = outK R k T by have := HE.out; rwa [List.take_length] at this)
          go_wp2_with fail
          go_ret
          exact ⟨_, M, rfl, own_low HO.out HB2.out.size, HRD.out, by rw [HTT.out]; exact HE2.out, HB2.out.trans (HB.out.mono HB2.out.size)⟩
end Go.Proofs.Ytlleebgkglbelaa
