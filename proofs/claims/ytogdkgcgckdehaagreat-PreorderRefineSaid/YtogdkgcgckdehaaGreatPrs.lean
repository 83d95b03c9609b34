/- Pairs of integers: how they lie; compared; sorted. -/
import Derived.Test.YtogdkgcgckdehaaGreatPcP
import Derived.Test.YtogdkgcgckdehaaGreatInt
import Derived.Test.YtogdkgcgckdehaaGreatBox
import Derived.Laws.MakeOwn
set_option linter.unusedSimpArgs false
set_option linter.unusedVariables false
namespace Go.Proofs.YtogdkgcgckdehaaGreat
open Go.RowKit Go.Sort

def encP (p : Int × Int) : List Value := [.int .i64 p.1, .int .i64 p.2]
def flatP (L : List (Int × Int)) : List Value := L.flatMap encP
theorem flatP_len : ∀ (L : List (Int × Int)), (flatP L).length = L.length * 2
  | [] => rfl
  | p :: t => by
    have := flatP_len t
    unfold flatP at this ⊢
    rw [List.flatMap_cons, List.length_append, this]
    simp [encP]
    omega
theorem flatP_get : ∀ (L : List (Int × Int)) (k : Nat) (h : k < L.length), (flatP L)[k * 2]? = some (.int .i64 (L[k]'h).1) ∧ (flatP L)[k * 2 + 1]? = some (.int .i64 (L[k]'h).2)
  | [], k, h => by simp at h
  | p :: t, 0, _ => ⟨rfl, rfl⟩
  | p :: t, k + 1, h => by
    have ih := flatP_get t k (by simpa using h)
    rw [show (k + 1) * 2 = k * 2 + 2 by omega]
    exact ih
theorem flatP_set : ∀ (L : List (Int × Int)) (k : Nat) (a b : Int), k < L.length → ((flatP L).set (k * 2) (.int .i64 a)).set (k * 2 + 1) (.int .i64 b) = flatP (L.set k (a, b))
  | [], k, a, b, h => by simp at h
  | p :: t, 0, a, b, _ => rfl
  | p :: t, k + 1, a, b, h => by
    have ih := flatP_set t k a b (by simpa using h)
    rw [show (k + 1) * 2 = k * 2 + 2 by omega, show k * 2 + 2 + 1 = k * 2 + 1 + 2 by omega]
    have e1 : flatP (p :: t) = .int .i64 p.1 :: .int .i64 p.2 :: flatP t := rfl
    rw [e1, List.set_cons_succ, List.set_cons_succ, List.set_cons_succ, List.set_cons_succ, ih]
    rfl
/-- pairs as they lie in a block of the call's own -/
structure PrA (w : World) (g n : Nat) (L : List (Int × Int)) : Prop where
  hl : L.length = n
  hg : g < w.heap.size
  cell : ∀ (k : Nat) (h : k < L.length), w.cell? ⟨g, k * 2, none⟩ = some (.int .i64 (L[k]'h).1) ∧ w.cell? ⟨g, k * 2 + 1, none⟩ = some (.int .i64 (L[k]'h).2)
  free : ∀ k, w.frozen? ⟨g, k, none⟩ = false
theorem PrA.keep {w w' : World} {g n : Nat} {L : List (Int × Int)} (h : PrA w g n L) (hB : Below w.heap.size w w') : PrA w' g n L :=
  ⟨h.hl, Nat.lt_of_lt_of_le h.hg hB.size, fun k hk => ⟨(hB.cell (p := ⟨g, k * 2, none⟩) h.hg).trans (h.cell k hk).1, (hB.cell (p := ⟨g, k * 2 + 1, none⟩) h.hg).trans (h.cell k hk).2⟩, fun k => (hB.frozen (p := ⟨g, k, none⟩) h.hg).trans (h.free k)⟩
theorem pra_own {w : World} {base e g n : Nat} {L : List (Int × Int)} (h : w.ownsRow base e 2 (.slice (some ⟨g, 0, none⟩) n n) n (flatP L)) (hl : L.length = n) : PrA w g n L := by
  refine ⟨hl, (h.lt g rfl).2, fun k hk => ?_, fun k => h.frozenAt k⟩
  obtain ⟨e1, e2⟩ := flatP_get L k hk
  exact ⟨by rw [h.cellAt (k * 2) (by omega), e1], by rw [h.cellAt (k * 2 + 1) (by omega), e2]⟩
theorem pra_holds {w : World} {g n : Nat} {L : List (Int × Int)} (h : PrA w g n L) : HoldsK encP 2 w g 0 L.toArray := by
  intro j hj
  rw [size_flatK] at hj
  have hj' : j < L.length * 2 := by simpa using hj
  have hk : j / 2 < L.length := by omega
  refine ⟨?_, h.free _⟩
  rw [get_flatK _ _ _ _ (by simpa using hj'), Nat.zero_add, getL hk]
  obtain ⟨c1, c2⟩ := h.cell (j / 2) hk
  rcases Nat.mod_two_eq_zero_or_one j with e | e
  · rw [e]
    have hj2 : j = j / 2 * 2 := by omega
    rw [show (⟨g, j, none⟩ : Addr) = ⟨g, j / 2 * 2, none⟩ by rw [← hj2]]
    exact c1
  · rw [e]
    have hj2 : j = j / 2 * 2 + 1 := by omega
    rw [show (⟨g, j, none⟩ : Addr) = ⟨g, j / 2 * 2 + 1, none⟩ by rw [← hj2]]
    exact c2
theorem holds_pra {w : World} {g : Nat} {d : Array (Int × Int)} (h : HoldsK encP 2 w g 0 d) (hg : g < w.heap.size) (hf : ∀ k, w.frozen? ⟨g, k, none⟩ = false) : PrA w g d.size d.toList := by
  refine ⟨by simp, hg, fun k hk => ?_, hf⟩
  have hk' : k < d.size := by simpa using hk
  have h0 := (h.cell hk' (show 0 < 2 by omega)).1
  have h1 := (h.cell hk' (show 1 < 2 by omega)).1
  have e : d[k]! = d.toList[k] := by simp [hk']
  rw [Nat.zero_add, Nat.add_zero, e] at h0
  rw [Nat.zero_add, e] at h1
  exact ⟨h0, h1⟩
theorem cmpP_two (p q : Int × Int) : cmpP p q = if cmpI p.1 q.1 = 0 then cmpI p.2 q.2 else cmpI p.1 q.1 := by
  unfold cmpP cmpI ordI
  by_cases h1 : p.1 < q.1
  · simp [h1]
  · by_cases h2 : p.1 = q.1
    · simp [h2]
      by_cases h3 : p.2 < q.2
      · simp [h3]
      · by_cases h4 : p.2 = q.2
        · simp [h4]
        · simp [h3, h4, show q.2 < p.2 by omega]
    · simp [h1, h2, show q.1 < p.1 by omega]
set_option maxHeartbeats 2000000 in
set_option maxRecDepth 100000 in
theorem cmp2_any {W : World} {b b' : Nat} {p q : Int × Int} (x1 : W.cell? ⟨b, 0, none⟩ = some (.int .i64 p.1)) (x2 : W.cell? ⟨b, 1, none⟩ = some (.int .i64 p.2)) (y1 : W.cell? ⟨b', 0, none⟩ = some (.int .i64 q.1)) (y2 : W.cell? ⟨b', 1, none⟩ = some (.int .i64 q.2)) :
    Calls Tryz.prog 41 #[.slice (some ⟨b, 0, none⟩) 2 2, .slice (some ⟨b', 0, none⟩) 2 2] W fun e w' => e = .returned (.int .i64 (cmpP p q)) ∧ W = w' := by
  rw [cmpP_two]
  obtain ⟨p1, p2⟩ := p
  obtain ⟨q1, q2⟩ := q
  simp only at x1 x2 y1 y2 ⊢
  have C1 := Lib.hid (fun W => cmpI_any p1 q1 W)
  have C2 := Lib.hid (fun W => cmpI_any p2 q2 W)
  obtain ⟨c, hc⟩ : ∃ c, cmpI p1 q1 = c := ⟨_, rfl⟩
  obtain ⟨d, hd⟩ : ∃ d, cmpI p2 q2 = d := ⟨_, rfl⟩
  rw [hc] at C1 ⊢
  rw [hd] at C2 ⊢
  clear hc hd
  by_cases h0 : c = 0
  · subst h0
    simp only [if_true]
    by_cases h1 : d = 0
    · subst h1
      go_enter Tryz.func41, Tryz.ntmps41
      go_wp2_with fail
      refine wp_loop_rounds 3 ?_
      rw [rounds_succ]
      go_wp2_with fail
      refine (C1.out _).mono ?_
      rintro e w1 ⟨rfl, rfl⟩
      go_wp2_with fail
      rw [rounds_succ]
      go_wp2_with fail
      refine (C2.out _).mono ?_
      rintro e w1 ⟨rfl, rfl⟩
      go_wp2_with fail
      rw [rounds_succ]
      go_wp2_with fail
      go_ret
      exact ⟨rfl, rfl⟩
    · have k1 : (d != 0) = true := by simpa using h1
      have k2 : (d == 0) = false := by simpa using h1
      clear h1
      go_enter Tryz.func41, Tryz.ntmps41
      go_wp2_with fail
      refine wp_loop_rounds 3 ?_
      rw [rounds_succ]
      go_wp2_with fail
      refine (C1.out _).mono ?_
      rintro e w1 ⟨rfl, rfl⟩
      go_wp2_with fail
      rw [rounds_succ]
      go_wp2_with fail
      refine (C2.out _).mono ?_
      rintro e w1 ⟨rfl, rfl⟩
      go_wp2_with fail
      go_ret
      exact ⟨rfl, rfl⟩
  · rw [if_neg h0]
    have k1 : (c != 0) = true := by simpa using h0
    have k2 : (c == 0) = false := by simpa using h0
    clear h0
    go_enter Tryz.func41, Tryz.ntmps41
    go_wp2_with fail
    refine wp_loop_rounds 3 ?_
    rw [rounds_succ]
    go_wp2_with fail
    refine (C1.out _).mono ?_
    rintro e w1 ⟨rfl, rfl⟩
    go_wp2_with fail
    go_ret
    exact ⟨rfl, rfl⟩
def boxP (w : World) (p q : Int × Int) : World := (w.alloc (.cells #[.int .i64 p.1, .int .i64 p.2] 52)).alloc (.cells #[.int .i64 q.1, .int .i64 q.2] 52)
theorem boxP_grw (w : World) (p q : Int × Int) : Grw w (boxP w p q) := ((Grw.refl w).alloc _).alloc _
theorem boxP_cells (w : World) (p q : Int × Int) (n : Nat) (os : Array Obj) :
    (grow ((boxP w p q).drewN n) os).cell? ⟨w.heap.size, 0, none⟩ = some (.int .i64 p.1) ∧ (grow ((boxP w p q).drewN n) os).cell? ⟨w.heap.size, 1, none⟩ = some (.int .i64 p.2) ∧
    (grow ((boxP w p q).drewN n) os).cell? ⟨w.heap.size + 1, 0, none⟩ = some (.int .i64 q.1) ∧ (grow ((boxP w p q).drewN n) os).cell? ⟨w.heap.size + 1, 1, none⟩ = some (.int .i64 q.2) := by
  refine ⟨cell_grown ?_ ?_ n os, cell_grown ?_ ?_ n os, cell_grown ?_ ?_ n os, cell_grown ?_ ?_ n os⟩
  all_goals first | (simp [boxP]; done) | (simp [boxP, go_sem]; done) | (simp [boxP]; omega)
set_option maxHeartbeats 1000000 in
set_option maxRecDepth 100000 in
theorem inv1_any (p q : Int × Int) (w : World) : Calls Tryz.prog 40 #[.agg #[.int .i64 p.1, .int .i64 p.2], .agg #[.int .i64 q.1, .int .i64 q.2]] w fun e w' => e = .returned (.int .i64 (cmpP p q)) ∧ Grw w w' := by
  have HG := Lib.hid (boxP_grw w p q)
  have HC := Lib.hid (fun n os => cmp2_any (boxP_cells w p q n os).1 (boxP_cells w p q n os).2.1 (boxP_cells w p q n os).2.2.1 (boxP_cells w p q n os).2.2.2)
  generalize cmpP p q = c at *
  go_enter Tryz.func40, Tryz.ntmps40
  go_wp2_with fail
  rw [show (w.alloc (.cells #[.int .i64 p.1, .int .i64 p.2] 52)).alloc (.cells #[.int .i64 q.1, .int .i64 q.2] 52) = boxP w p q from rfl]
  generalize boxP w p q = W at *
  have mixed := mix
  go_quiet_grown ((go_at_call 41; exact quietG (grw_same (HC.out _ _))))
  go_wp2
  go_ret
  exact ⟨rfl, HG.out.trans (grw_form _ _ _)⟩
theorem srtP_any {g n base : Nat} {L : List (Int × Int)} {w : World} (h : PrA w g n L) (hbase : base ≤ w.heap.size) (hg : base ≤ g) (hn : n ≤ 1000000) :
    Calls Tryz.prog 39 #[.slice (some ⟨g, 0, none⟩) n n, .func (.func 40) #[] #[]] w fun e w' => e = .returned (.tuple #[]) ∧ ∃ L' : List (Int × Int), L'.Perm L ∧ SrtG cmpP L' ∧ PrA w' g n L' ∧ Below base w w' := by
  have hl := h.hl
  subst hl
  have hs := Tryz.slices_SortFunc 2 (fun _ => by kernel_rfl) (fun _ => by kernel_rfl) encP (fun _ => rfl) (fun x v hv => by
      unfold encP at hv
      simp only [List.mem_cons, List.not_mem_nil, or_false] at hv
      rcases hv with rfl | rfl <;> rfl) cmpP (swo_of tot_cmpP) 40 #[] g 0 L.length L.toArray w (enters_of Tryz.func40 (by kernel_rfl) rfl)
    (fun m os dk _ x y => (inv1_any x y _).mono fun _ _ ⟨he, hG⟩ => ⟨he, hG.form⟩) (pra_holds h) h.hg (by simp; omega)
  simp only [List.size_toArray] at hs
  refine hs.mono ?_
  rintro e w1 ⟨rfl, d', m, os, hp, hso, rfl⟩
  have hds : d'.size = L.length := by have := hp.1; simpa using this
  have hpp : d'.toList.Perm L := by
    have := perm_list (d := L.toArray) (d' := d') (by simpa using hp)
    simpa using this
  have hH := holdsK_sortWorldK_c encP 2 w g 0 L.toArray d' m os (pra_holds h) h.hg (by simpa using hds)
  have hB : Below base w (sortWorldK encP 2 w g 0 m d' os) := (Below.refl base w).grown (grownBy_srt (enc := id) (flatK encP 2 d')) hbase (by intro k hk; cases hk; exact hg)
  refine ⟨rfl, d'.toList, hpp, by unfold SrtG; rw [Array.toArray_toList, Array.length_toList, hds]; exact hso, ?_, hB⟩
  rw [← hds]
  refine holds_pra hH (Nat.lt_of_lt_of_le h.hg (size_sortWorldK_c encP 2 w g 0 m d' os)) (fun k => ?_)
  have := h.free k
  unfold sortWorldK
  have e1 : (grow (putRowK encP 2 (Sort.ahead w m) g 0 d') os).frozen? ⟨g, k, none⟩ = (putRowK encP 2 (Sort.ahead w m) g 0 d').frozen? ⟨g, k, none⟩ := by
    unfold World.frozen?
    rw [heap_grow_old _ _ (by rw [size_putRowK]; exact h.hg)]
  rw [e1]
  unfold World.frozen? putRowK at *
  simp only [putRow, mapBlock, Sort.ahead, Array.getElem?_modify, if_true] at *
  cases hb : w.heap[g]? with
  | none => simp
  | some o =>
    rw [hb] at this
    cases o <;> simp_all [onCells]
end Go.Proofs.YtogdkgcgckdehaaGreat
