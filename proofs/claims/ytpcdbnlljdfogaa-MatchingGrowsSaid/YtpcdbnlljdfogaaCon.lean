/- connect: an arc and the arc back. -/
import Derived.Test.YtpcdbnlljdfogaaSml
set_option linter.unusedSimpArgs false
set_option linter.unusedVariables false
namespace Go.Proofs.Ytpcdbnlljdfogaa
open Go.RowKit

/-- a world that has gone on: below B only the cells 2 and 3 of block nb may have changed -/
structure Gon (B nb : Nat) (w w' : World) : Prop where
  os : w'.os = w.os
  tape : w'.tape = w.tape
  output : w'.output = w.output
  size : w.heap.size ≤ w'.heap.size
  block : ∀ k, k < B → k ≠ nb → w'.heap[k]? = w.heap[k]?
  cell : ∀ o, o ≠ 2 → o ≠ 3 → w'.cell? ⟨nb, o, none⟩ = w.cell? ⟨nb, o, none⟩
  fz : ∀ o, w'.frozen? ⟨nb, o, none⟩ = w.frozen? ⟨nb, o, none⟩
theorem Gon.refl (B nb : Nat) (w : World) : Gon B nb w w := ⟨rfl, rfl, rfl, Nat.le_refl _, fun _ _ _ => rfl, fun _ _ _ => rfl, fun _ => rfl⟩
theorem Gon.trans {B nb : Nat} {a b c : World} (h : Gon B nb a b) (k : Gon B nb b c) : Gon B nb a c :=
  ⟨k.os.trans h.os, k.tape.trans h.tape, k.output.trans h.output, Nat.le_trans h.size k.size, fun i hi hn => (k.block i hi hn).trans (h.block i hi hn), fun o h2 h3 => (k.cell o h2 h3).trans (h.cell o h2 h3), fun o => (k.fz o).trans (h.fz o)⟩
theorem Gon.of {B nb : Nat} {a b : World} (h : Below B a b) (hn : nb < B) : Gon B nb a b :=
  ⟨h.os, h.tape, h.output, h.size, fun k hk _ => h.block k hk, fun o _ _ => h.cell (p := ⟨nb, o, none⟩) hn, fun o => h.frozen (p := ⟨nb, o, none⟩) hn⟩
theorem Gon.set {B nb : Nat} {a b : World} (h : Gon B nb a b) {o : Nat} (ho : o = 2 ∨ o = 3) (v : Value) : Gon B nb a (b.setCell ⟨nb, o, none⟩ v) := by
  refine ⟨h.os, h.tape, h.output, by simpa using h.size, fun k hk hn => (Below.heap_setCell _ _ _ _ hn).trans (h.block k hk hn), fun p h2 h3 => ?_, fun p => ?_⟩
  · rw [World.cell?_setCell_other _ _ _ _ (by intro e; cases e; omega)]
    exact h.cell p h2 h3
  · rw [World.frozen?_setCell]
    exact h.fz p
/-- the two rows of a network under work -/
structure Rws (w : World) (B nb : Nat) (vH vR : Value) (H R : List Int) : Prop where
  c2 : w.cell? ⟨nb, 2, none⟩ = some vH
  c3 : w.cell? ⟨nb, 3, none⟩ = some vR
  f2 : w.frozen? ⟨nb, 2, none⟩ = false
  f3 : w.frozen? ⟨nb, 3, none⟩ = false
  h : OwI w B vH H.length H
  r : OwI w B vR R.length R
  far : ∀ k, vH.ownBlock = some k → vR.ownBlock ≠ some k
theorem wp_append_two {P : Program} {w : World} {ops : Array Oper} {o : Oper} {a : Act} {K : Act → World → Prop} {Q : Exit → Act → World → Prop} {E : Prop} (hgd : o.guard = none) (s x : Operand) (t : TypeId)
    (ho : o.op = .call { callee := .builtin .append, args := #[s, x], argTypes := #[t, t] })
    (base : Nat) (e : TypeId) (i : TypeInfo) (z : Value) (size bytes : Nat) (ht : P.underlying t = some (.slice e)) (hi : P.info? e = some i) (hz : i.zero = some z)
    (hsize : i.size = size) (hby : i.bytes = bytes) (hzs : z.cells.size = size) (hsz : 0 < size)
    (v : Value) (n : Nat) (xs : List Value) (hs : a.eval s = v) (hown : w.ownsRow base e size v n xs)
    (ad : Addr) (m c : Nat) (news : List Value) (hx : a.eval x = .slice (some ad) m c) (hl : news.length = m * size) (hnews : ∀ j u, news[j]? = some u → w.cell? (ad.add j) = some u) (h1 : ∀ u ∈ news, u.oneCell' = true)
    (h63 : n + m ≤ maxLen) (hbytes : (n + m) * bytes ≤ 140737488355328) (hbase : base ≤ w.heap.size)
    (h : ∀ v' w', w'.ownsRow base e size v' (n + m) (xs ++ news) → w.grownBy w' v.ownBlock → (v'.ownBlock = v.ownBlock ∨ v'.ownBlock = some w.heap.size) → K (a.put o.dst v') w') : if Region.wanted o (yielded ops a.tmps) = true then Oper.wp P o a w K Q else E := by
  have hw : Region.wanted o (yielded ops a.tmps) = true := by simp [Region.wanted, hgd]
  rw [if_pos hw]
  obtain ⟨v', w', hr, h2, h3, _, h4⟩ := run_append_own_at (P := P) w base t o.type e i z size bytes ht hi hz hsize hby hzs hsz v n xs hown ad m c news hl hnews h1 h63 hbytes hbase
  unfold Oper.wp execOp
  simp only [ho, resolve, invoke, builtin, Sem.run_bind, Sem.run_pure, Result.andThen_ok, List.map_toArray, List.map_cons, List.map_nil, hs, hx, hr]
  exact h v' w' h2 h3 h4
set_option maxHeartbeats 4000000 in
set_option maxRecDepth 100000 in
theorem con_any (w : World) (B vb nb : Nat) (tt ff room : Int) (vH vR : Value) (H R : List Int) (hv : w.cell? ⟨vb, 0, none⟩ = some (.pointer (some ⟨nb, 0, none⟩))) (hvB : vb < B) (hnB : nb < B) (hne : vb ≠ nb) (hBs : B ≤ w.heap.size) (hw : Rws w B nb vH vR H R) (hH : H.length ≤ 100000) (hR : R.length ≤ 100000) :
    Calls Try.prog 64 #[.int .i64 ff, .int .i64 tt, .int .i64 room, .pointer (some ⟨vb, 0, none⟩)] w fun e w' => e = .returned (.tuple #[]) ∧ ∃ vH' vR', Rws w' B nb vH' vR' (H ++ [tt, ff]) (R ++ [room, 0]) ∧ Gon B nb w w' := by
  obtain ⟨i0, hi0, hz0, hz1, hz2⟩ := info_parts infoI
  have HW := Lib.hid hw
  have h2 := hw.c2
  go_enter Try.func64, Try.ntmps64
  go_wp2_with fail
  refine wp_region_s (fun w' => w'.cell? ⟨vb, 0, none⟩ = some (.pointer (some ⟨nb, 0, none⟩)) ∧ w'.cell? ⟨nb, 2, none⟩ = some vH) 11 (by kernel_rfl) ?_
  refine AnyS.take (i := 0) (v := (.pointer (some ⟨nb, 0, none⟩))) [11, 10, 9] rfl (by kernel_rfl) (by kernel_rfl) (by kernel_rfl) (by kernel_rfl) (fun _ _ _ h => h) ⟨hv, h2⟩ (Or.inl ⟨by rfl, fun w' hw' => (by obtain ⟨t0, t1⟩ := hw'; go_simp)⟩) ?_
  simp only [Act.put, List.setIfInBounds_toArray, List.set_cons_zero, List.set_cons_succ]
  refine AnyS.take (i := 1) (v := (.pointer (some ⟨nb, 0, none⟩))) [11, 8, 4, 3, 2] rfl (by kernel_rfl) (by kernel_rfl) (by kernel_rfl) (by kernel_rfl) (fun _ _ _ h => h) ⟨hv, h2⟩ (Or.inl ⟨by rfl, fun w' hw' => (by obtain ⟨t0, t1⟩ := hw'; go_simp)⟩) ?_
  simp only [Act.put, List.setIfInBounds_toArray, List.set_cons_zero, List.set_cons_succ]
  refine AnyS.take0 (i := 2) (v := (.pointer (some ⟨nb, 0, none⟩))) rfl (by kernel_rfl) (by kernel_rfl) (by kernel_rfl) (by kernel_rfl) (fun _ _ _ h => h) (fun _ => ⟨hv, h2⟩) (Or.inl ⟨by rfl, fun w' _ => (by go_simp)⟩) ?_
  simp only [Act.put, List.setIfInBounds_toArray, List.set_cons_zero, List.set_cons_succ]
  refine AnyS.take0 (i := 3) (v := (.pointer (some ⟨nb, 2, none⟩))) rfl (by kernel_rfl) (by kernel_rfl) (by kernel_rfl) (by kernel_rfl) (fun _ _ _ h => h) (fun _ => ⟨hv, h2⟩) (Or.inl ⟨by rfl, fun w' _ => (by go_simp)⟩) ?_
  simp only [Act.put, List.setIfInBounds_toArray, List.set_cons_zero, List.set_cons_succ]
  refine AnyS.take (i := 4) (v := (vH)) [11, 8] rfl (by kernel_rfl) (by kernel_rfl) (by kernel_rfl) (by kernel_rfl) (fun _ _ _ h => h) ⟨hv, h2⟩ (Or.inl ⟨by rfl, fun w' hw' => (by obtain ⟨t0, t1⟩ := hw'; go_simp)⟩) ?_
  simp only [Act.put, List.setIfInBounds_toArray, List.set_cons_zero, List.set_cons_succ]
  refine AnyS.take0 (i := 5) (v := (.int .i64 tt)) rfl (by kernel_rfl) (by kernel_rfl) (by kernel_rfl) (by kernel_rfl) (fun _ _ _ h => h) (fun _ => ⟨hv, h2⟩) (Or.inl ⟨by rfl, fun w' _ => (by go_simp)⟩) ?_
  simp only [Act.put, List.setIfInBounds_toArray, List.set_cons_zero, List.set_cons_succ]
  refine AnyS.take0 (i := 6) (v := (.int .i64 ff)) rfl (by kernel_rfl) (by kernel_rfl) (by kernel_rfl) (by kernel_rfl) (fun _ _ _ h => h) (fun _ => ⟨hv, h2⟩) (Or.inl ⟨by rfl, fun w' _ => (by go_simp)⟩) ?_
  simp only [Act.put, List.setIfInBounds_toArray, List.set_cons_zero, List.set_cons_succ]
  have hv1 := (((Below.refl w.heap.size w).alloc (Nat.le_refl _) (.cells #[.int .i64 tt, .int .i64 ff] 3)).cell (p := ⟨vb, 0, none⟩) (by simp; omega)).trans hv
  have h21 := (((Below.refl w.heap.size w).alloc (Nat.le_refl _) (.cells #[.int .i64 tt, .int .i64 ff] 3)).cell (p := ⟨nb, 2, none⟩) (by simp; omega)).trans h2
  have HOH := Lib.hid (World.ownsRow.alloc HW.out.h (.cells #[.int .i64 tt, .int .i64 ff] 3))
  refine AnyS.step (j := 7) rfl (by kernel_rfl) (fun K hK => ?_)
  go_simp
  refine hK.out _ _ (fun _ => ⟨hv1, h21⟩) ?_
  clear hK
  refine AnyS.step (j := 8) rfl (by kernel_rfl) (fun K hK => ?_)
  refine wp_append_two rfl _ _ 22 rfl B 3 i0 (.int .i64 0) 1 8 Try.underlying22 hi0 hz0 hz1 hz2 rfl (by decide) vH H.length _ rfl HOH.out ⟨w.heap.size, 0, none⟩ 2 2 [.int .i64 tt, .int .i64 ff] rfl ?qc1 ?qc3 ?qc4 ?qc5 ?qc6 ?qc7 ?_
  case qc1 => simp
  case qc3 =>
    intro jj u hu
    match jj, hu with
    | 0, hu => simp at hu; subst hu; rw [Addr.add_lit]; simp [go_sem]
    | 1, hu => simp at hu; subst hu; rw [Addr.add_lit]; simp [go_sem]
  case qc4 => intro u hu; simp at hu; rcases hu with rfl | rfl <;> rfl
  case qc5 => unfold maxLen; omega
  case qc6 => omega
  case qc7 => simp; omega
  intro v7 w7 hown hgrow hblk
  have hbl : ∀ k, vH.ownBlock = some k → B ≤ k := fun k hk => (World.ownsRow.lt HW.out.h k hk).1
  have hBd : Below B w ((w.alloc (.cells #[.int .i64 tt, .int .i64 ff] 3)).drew) := (((Below.refl B w).alloc hBs _)).drew
  have hB7 : Below B w w7 := hBd.grown hgrow (Nat.le_trans hBs hBd.size) hbl
  have hv7 := (hB7.cell (p := ⟨vb, 0, none⟩) hvB).trans hv
  have h27 := (hB7.cell (p := ⟨nb, 2, none⟩) hnB).trans h2
  have HV7 := Lib.hid hv7
  have HB7 := Lib.hid hB7
  have HOw := Lib.hid (show OwI w7 B v7 (H ++ [tt, ff]).length (H ++ [tt, ff]) by
    have e : (H ++ [tt, ff]).map (Value.int .i64) = H.map (Value.int .i64) ++ [.int .i64 tt, .int .i64 ff] := by simp
    show w7.ownsRow _ _ _ _ _ ((H ++ [tt, ff]).map (Value.int .i64))
    rw [e, List.length_append]
    exact hown)
  obtain ⟨a7, c7, hv7s, _⟩ := own_shape HOw.out
  subst hv7s
  have f27 := (hB7.frozen (p := ⟨nb, 2, none⟩) hnB).trans HW.out.f2
  refine hK.out _ _ (fun _ => ⟨hv7, h27⟩) ?_
  clear hK hbl hBd hown
  refine AnyS.step (j := 9) rfl (by kernel_rfl) (fun K hK => ?_)
  go_simp
  refine hK.out _ _ (fun _ => ⟨hv7, h27⟩) ?_
  clear hK
  refine AnyS.step (j := 10) rfl (by kernel_rfl) (fun K hK => ?_)
  go_simp
  refine hK.out _ _ (fun _ => ⟨hv7, h27⟩) ?_
  clear hK
  refine AnyS.step (j := 11) rfl (by kernel_rfl) (fun K hK => ?_)
  go_simp
  have HG8 := Lib.hid ((Gon.of HB7.out hnB).set (.inl rfl) (.slice a7 (H ++ [tt, ff]).length c7))
  have HR8 := Lib.hid (show Rws (w7.setCell ⟨nb, 2, none⟩ (.slice a7 (H ++ [tt, ff]).length c7)) B nb (.slice a7 (H ++ [tt, ff]).length c7) vR (H ++ [tt, ff]) R from by
    have hne3 : ∀ k, vR.ownBlock = some k → B ≤ k ∧ k < w.heap.size := fun k hk => World.ownsRow.lt HW.out.r k hk
    have hnew : ∀ k, (Value.slice a7 (H ++ [tt, ff]).length c7).ownBlock = some k → B ≤ k := fun k hk => (World.ownsRow.lt HOw.out k hk).1
    refine ⟨World.cell?_setCell_same _ _ _ h27, ?_, by rw [World.frozen?_setCell]; exact f27, by rw [World.frozen?_setCell]; exact (HB7.out.frozen (p := ⟨nb, 3, none⟩) hnB).trans HW.out.f3, HOw.out.far (p := ⟨nb, 2, none⟩) _ (fun h => by have := hnew nb h; omega), ?_, ?_⟩
    · rw [World.cell?_setCell_other _ _ _ _ (by simp)]
      exact (HB7.out.cell (p := ⟨nb, 3, none⟩) hnB).trans HW.out.c3
    · refine OwI.far (World.ownsRow.kept (w := (w.alloc (.cells #[.int .i64 tt, .int .i64 ff] 3)).drew) (World.ownsRow.alloc HW.out.r (.cells #[.int .i64 tt, .int .i64 ff] 3)) hgrow ?_) (p := ⟨nb, 2, none⟩) _ (fun h => by have := hne3 nb h; omega)
      cases hb : vR.ownBlock with
      | none => exact .inl rfl
      | some k => exact .inr (fun e => HW.out.far k e.symm hb)
    · intro k hk hr
      rcases hblk with e | e
      · rw [e] at hk
        exact HW.out.far k hk hr
      · rw [e] at hk
        have h1 := (hne3 k hr).2
        have : k = ((w.alloc (.cells #[.int .i64 tt, .int .i64 ff] 3)).drew).heap.size := by injection hk with hk; exact hk.symm
        have h9 : w.heap.size < ((w.alloc (.cells #[.int .i64 tt, .int .i64 ff] 3)).drew).heap.size := by show w.heap.size < (w.alloc (.cells #[.int .i64 tt, .int .i64 ff] 3)).heap.size; simp
        omega)
  have HV8 := Lib.hid (show (w7.setCell ⟨nb, 2, none⟩ (.slice a7 (H ++ [tt, ff]).length c7)).cell? ⟨vb, 0, none⟩ = some (.pointer (some ⟨nb, 0, none⟩)) by
    rw [World.cell?_setCell_other _ _ _ _ (by intro e; cases e)]
    exact hv7)
  refine hK.out _ _ (fun h => absurd h (by decide)) ?_
  clear hK
  refine AnyS.rest 12 (by kernel_rfl) rfl (by kernel_rfl) ?_
  change wpList _ _ _ [] _ _
  go_wp2_with fail
  have hlen : (H ++ [tt, ff]).length = H.length + 2 := by simp
  rw [hlen] at HG8 HR8 HV8
  generalize Value.slice a7 (H.length + 2) c7 = v8 at HG8 HR8 HV8 ⊢
  generalize w7.setCell ⟨nb, 2, none⟩ v8 = w8 at HG8 HR8 HV8 ⊢
  have hB8 : B ≤ w8.heap.size := Nat.le_trans hBs HG8.out.size
  clear HV7 HB7 HOw f27 hv h2 hlen HW HOH hgrow hblk hv7 h27 hB7 hv1 h21 hw hBs
  have hv := HV8.out
  have h2 := HR8.out.c3
  refine wp_region_s (fun w' => w'.cell? ⟨vb, 0, none⟩ = some (.pointer (some ⟨nb, 0, none⟩)) ∧ w'.cell? ⟨nb, 3, none⟩ = some vR) 10 (by kernel_rfl) ?_
  refine AnyS.take (i := 0) (v := (.pointer (some ⟨nb, 0, none⟩))) [10, 9, 8] rfl (by kernel_rfl) (by kernel_rfl) (by kernel_rfl) (by kernel_rfl) (fun _ _ _ h => h) ⟨hv, h2⟩ (Or.inl ⟨by rfl, fun w' hw' => (by obtain ⟨t0, t1⟩ := hw'; go_simp)⟩) ?_
  simp only [Act.put, List.setIfInBounds_toArray, List.set_cons_zero, List.set_cons_succ]
  refine AnyS.take (i := 1) (v := (.pointer (some ⟨nb, 0, none⟩))) [10, 7, 4, 3, 2] rfl (by kernel_rfl) (by kernel_rfl) (by kernel_rfl) (by kernel_rfl) (fun _ _ _ h => h) ⟨hv, h2⟩ (Or.inl ⟨by rfl, fun w' hw' => (by obtain ⟨t0, t1⟩ := hw'; go_simp)⟩) ?_
  simp only [Act.put, List.setIfInBounds_toArray, List.set_cons_zero, List.set_cons_succ]
  refine AnyS.take0 (i := 2) (v := (.pointer (some ⟨nb, 0, none⟩))) rfl (by kernel_rfl) (by kernel_rfl) (by kernel_rfl) (by kernel_rfl) (fun _ _ _ h => h) (fun _ => ⟨hv, h2⟩) (Or.inl ⟨by rfl, fun w' _ => (by go_simp)⟩) ?_
  simp only [Act.put, List.setIfInBounds_toArray, List.set_cons_zero, List.set_cons_succ]
  refine AnyS.take0 (i := 3) (v := (.pointer (some ⟨nb, 3, none⟩))) rfl (by kernel_rfl) (by kernel_rfl) (by kernel_rfl) (by kernel_rfl) (fun _ _ _ h => h) (fun _ => ⟨hv, h2⟩) (Or.inl ⟨by rfl, fun w' _ => (by go_simp)⟩) ?_
  simp only [Act.put, List.setIfInBounds_toArray, List.set_cons_zero, List.set_cons_succ]
  refine AnyS.take (i := 4) (v := (vR)) [10, 7] rfl (by kernel_rfl) (by kernel_rfl) (by kernel_rfl) (by kernel_rfl) (fun _ _ _ h => h) ⟨hv, h2⟩ (Or.inl ⟨by rfl, fun w' hw' => (by obtain ⟨t0, t1⟩ := hw'; go_simp)⟩) ?_
  simp only [Act.put, List.setIfInBounds_toArray, List.set_cons_zero, List.set_cons_succ]
  refine AnyS.take0 (i := 5) (v := (.int .i64 room)) rfl (by kernel_rfl) (by kernel_rfl) (by kernel_rfl) (by kernel_rfl) (fun _ _ _ h => h) (fun _ => ⟨hv, h2⟩) (Or.inl ⟨by rfl, fun w' _ => (by go_simp)⟩) ?_
  simp only [Act.put, List.setIfInBounds_toArray, List.set_cons_zero, List.set_cons_succ]
  have hv1 := (((Below.refl w8.heap.size w8).alloc (Nat.le_refl _) (.cells #[.int .i64 room, .int .i64 0] 3)).cell (p := ⟨vb, 0, none⟩) (by simp; omega)).trans hv
  have h21 := (((Below.refl w8.heap.size w8).alloc (Nat.le_refl _) (.cells #[.int .i64 room, .int .i64 0] 3)).cell (p := ⟨nb, 3, none⟩) (by simp; omega)).trans h2
  have HOH := Lib.hid (World.ownsRow.alloc HR8.out.r (.cells #[.int .i64 room, .int .i64 0] 3))
  refine AnyS.step (j := 6) rfl (by kernel_rfl) (fun K hK => ?_)
  go_simp
  refine hK.out _ _ (fun _ => ⟨hv1, h21⟩) ?_
  clear hK
  refine AnyS.step (j := 7) rfl (by kernel_rfl) (fun K hK => ?_)
  refine wp_append_two rfl _ _ 22 rfl B 3 i0 (.int .i64 0) 1 8 Try.underlying22 hi0 hz0 hz1 hz2 rfl (by decide) vR R.length _ rfl HOH.out ⟨w8.heap.size, 0, none⟩ 2 2 [.int .i64 room, .int .i64 0] rfl ?qc1 ?qc3 ?qc4 ?qc5 ?qc6 ?qc7 ?_
  case qc1 => simp
  case qc3 =>
    intro jj u hu
    match jj, hu with
    | 0, hu => simp at hu; subst hu; rw [Addr.add_lit]; simp [go_sem]
    | 1, hu => simp at hu; subst hu; rw [Addr.add_lit]; simp [go_sem]
  case qc4 => intro u hu; simp at hu; rcases hu with rfl | rfl <;> rfl
  case qc5 => unfold maxLen; omega
  case qc6 => omega
  case qc7 => simp; omega
  intro v9 w9 hown hgrow hblk
  have hbl : ∀ k, vR.ownBlock = some k → B ≤ k := fun k hk => (World.ownsRow.lt HR8.out.r k hk).1
  have hBd : Below B w8 ((w8.alloc (.cells #[.int .i64 room, .int .i64 0] 3)).drew) := (((Below.refl B w8).alloc hB8 _)).drew
  have hB9 : Below B w8 w9 := hBd.grown hgrow (Nat.le_trans hB8 hBd.size) hbl
  have hv7 := (hB9.cell (p := ⟨vb, 0, none⟩) hvB).trans hv
  have h27 := (hB9.cell (p := ⟨nb, 3, none⟩) hnB).trans h2
  have HB9 := Lib.hid hB9
  have HOw := Lib.hid (show OwI w9 B v9 (R ++ [room, 0]).length (R ++ [room, 0]) by
    have e : (R ++ [room, 0]).map (Value.int .i64) = R.map (Value.int .i64) ++ [.int .i64 room, .int .i64 0] := by simp
    show w9.ownsRow _ _ _ _ _ ((R ++ [room, 0]).map (Value.int .i64))
    rw [e, List.length_append]
    exact hown)
  obtain ⟨a9, c9, hv9s, _⟩ := own_shape HOw.out
  subst hv9s
  have f39 := (hB9.frozen (p := ⟨nb, 3, none⟩) hnB).trans HR8.out.f3
  refine hK.out _ _ (fun _ => ⟨hv7, h27⟩) ?_
  clear hK hbl hBd hown
  refine AnyS.step (j := 8) rfl (by kernel_rfl) (fun K hK => ?_)
  go_simp
  refine hK.out _ _ (fun _ => ⟨hv7, h27⟩) ?_
  clear hK
  refine AnyS.step (j := 9) rfl (by kernel_rfl) (fun K hK => ?_)
  go_simp
  refine hK.out _ _ (fun _ => ⟨hv7, h27⟩) ?_
  clear hK
  refine AnyS.step (j := 10) rfl (by kernel_rfl) (fun K hK => ?_)
  go_simp
  have HG9 := Lib.hid (HG8.out.trans ((Gon.of HB9.out hnB).set (.inr rfl) (.slice a9 (R ++ [room, 0]).length c9)))
  have HR9 := Lib.hid (show Rws (w9.setCell ⟨nb, 3, none⟩ (.slice a9 (R ++ [room, 0]).length c9)) B nb v8 (.slice a9 (R ++ [room, 0]).length c9) (H ++ [tt, ff]) (R ++ [room, 0]) from by
    have hne3 : ∀ k, v8.ownBlock = some k → B ≤ k ∧ k < w8.heap.size := fun k hk => World.ownsRow.lt HR8.out.h k hk
    have hnew : ∀ k, (Value.slice a9 (R ++ [room, 0]).length c9).ownBlock = some k → B ≤ k := fun k hk => (World.ownsRow.lt HOw.out k hk).1
    refine ⟨?_, World.cell?_setCell_same _ _ _ h27, by rw [World.frozen?_setCell]; exact (HB9.out.frozen (p := ⟨nb, 2, none⟩) hnB).trans HR8.out.f2, by rw [World.frozen?_setCell]; exact f39, ?_, HOw.out.far (p := ⟨nb, 3, none⟩) _ (fun h => by have := hnew nb h; omega), ?_⟩
    · rw [World.cell?_setCell_other _ _ _ _ (by simp)]
      exact (HB9.out.cell (p := ⟨nb, 2, none⟩) hnB).trans HR8.out.c2
    · refine OwI.far (World.ownsRow.kept (w := (w8.alloc (.cells #[.int .i64 room, .int .i64 0] 3)).drew) (World.ownsRow.alloc HR8.out.h (.cells #[.int .i64 room, .int .i64 0] 3)) hgrow ?_) (p := ⟨nb, 3, none⟩) _ (fun h => by have := hne3 nb h; omega)
      cases hb : v8.ownBlock with
      | none => exact .inl rfl
      | some k => exact .inr (fun e => HR8.out.far k hb e.symm)
    · intro k hk hr
      rcases hblk with e | e
      · rw [e] at hr
        exact HR8.out.far k hk hr
      · rw [e] at hr
        have h1 := (hne3 k hk).2
        have : k = ((w8.alloc (.cells #[.int .i64 room, .int .i64 0] 3)).drew).heap.size := by injection hr with hr; exact hr.symm
        have h9 : w8.heap.size < ((w8.alloc (.cells #[.int .i64 room, .int .i64 0] 3)).drew).heap.size := by show w8.heap.size < (w8.alloc (.cells #[.int .i64 room, .int .i64 0] 3)).heap.size; simp
        omega)
  refine hK.out _ _ (fun h => absurd h (by decide)) ?_
  clear hK
  refine AnyS.rest 11 (by kernel_rfl) rfl (by kernel_rfl) ?_
  change wpList _ _ _ [] _ _
  go_wp2_with fail
  have hl9 : (R ++ [room, 0]).length = R.length + 2 := by simp
  rw [hl9] at HR9 HG9
  exact bodyPost_end (results_none rfl _ _ _) rfl ⟨rfl, _, _, HR9.out, HG9.out⟩
end Go.Proofs.Ytpcdbnlljdfogaa
