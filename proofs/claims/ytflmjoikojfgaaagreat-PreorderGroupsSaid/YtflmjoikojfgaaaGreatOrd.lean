/- preorder.Order: the rows from the best to the worst (fewer than 20 of them). -/
import Derived.Test.YtflmjoikojfgaaaGreatPla
import Derived.Test.YtflmjoikojfgaaaGreatOrdP
set_option linter.unusedSimpArgs false
set_option linter.unusedVariables false
namespace Go.Proofs.YtflmjoikojfgaaaGreat
open Go.RowKit Go.Sort

set_option maxHeartbeats 1000000 in
set_option maxRecDepth 100000 in
theorem ordc_any {W : World} {bx b off len cap : Nat} {M : List Rw} (h : SlR W (some ⟨b, off, none⟩) b off len cap M) (c0 : W.cell? ⟨bx, 0, none⟩ = some (.slice (some ⟨b, off, none⟩) len cap)) (hbx : bx < W.heap.size) {i k : Nat} (hi : i < M.length) (hk : k < M.length) :
    Calls Tryz.prog 56 #[.int .i64 (i : Int), .int .i64 (k : Int), .pointer (some ⟨bx, 0, none⟩)] W fun e w' => e = .returned (.int .i64 (ahC (M[i]'hi).L (M[k]'hk).L)) ∧ Grw W w' := by
  have hl := h.sl.hl
  have hb := h.sl.hb (by omega)
  have K0 := fun n os => cell_grown (w := W) (a := ⟨bx, 0, none⟩) hbx c0 n os
  have K1 := fun n os => cell_grown (w := W) (a := ⟨b, off + i, none⟩) hb (h.sl.cell i hi) n os
  have K2 := fun n os => cell_grown (w := W) (a := ⟨b, off + k, none⟩) hb (h.sl.cell k hk) n os
  have HA := Lib.hid (fun n os => ahead_any ((h.rows _ (List.getElem_mem hi)).keep (grw_form W n os).below) ((h.rows _ (List.getElem_mem hk)).keep (grw_form W n os).below))
  have hcap := h.sl.hcap
  have hmax := h.sl.hmax
  unfold maxLen at hmax
  have l1 : (i : Int) < (len : Int) := by omega
  have l2 : (k : Int) < (len : Int) := by omega
  unfold ahC
  generalize rowC (M[k]'hk).L (M[i]'hi).L = c at *
  generalize (M[i]'hi).val = u at *
  generalize (M[k]'hk).val = v at *
  clear h c0 hbx hi hk hl hb
  have mixed := mix
  go_enter Tryz.func56, Tryz.ntmps56
  go_wp2_with fail
  go_quiet_grown ((go_at_call 49; exact quietG (HA.out _ _)))
  go_wp2
  go_ret
  exact ⟨rfl, grw_form _ _ _⟩
set_option maxHeartbeats 2000000 in
set_option maxRecDepth 100000 in
theorem stb_any {α : Type} [Inhabited α] {enc : α → Value} (h1 : OneCell enc) {cf : α → α → Int} (hT : Tot cf) {ix : α → Nat} {base n gb : Nat} {L : List α} {w : World} (hn : L.length = n) (h20 : n < 20)
    (hown : w.ownsRow base 3 1 (.slice (some ⟨gb, 0, none⟩) n n) n (L.map enc)) (hbase : base ≤ w.heap.size) (g : Nat) (cb : Array Value) (eg : ∀ args w, (callFunc g args).run Tryz.prog w = .ok (.enter g args) w) (hc : L ≠ [] → CmpG enc cf g cb base w)
    (hix : ∀ (q : Nat) (h : q < L.length), ix (L[q]'h) = q) :
    Calls Tryz.prog 55 #[.slice (some ⟨gb, 0, none⟩) n n, .func (.func g) #[] cb] w fun e w' => e = .returned (.tuple #[]) ∧ ∃ L' : List α, L'.Perm L ∧ SrtG (byIx cf ix) L' ∧ w'.ownsRow base 3 1 (.slice (some ⟨gb, 0, none⟩) n n) n (L'.map enc) ∧ Below base w w' := by
  have hins : Calls Tryz.prog 103 #[.slice (some ⟨gb, 0, none⟩) n n, .int .i64 0, .int .i64 (n : Int), .func (.func g) #[] cb] w fun e w' => e = .returned (.tuple #[]) ∧ ∃ L' : List α, L'.Perm L ∧ SrtG (byIx cf ix) L' ∧ w'.ownsRow base 3 1 (.slice (some ⟨gb, 0, none⟩) n n) n (L'.map enc) ∧ Below base w w' := by
    subst hn
    by_cases hnil : L = []
    · subst hnil
      refine (AnyF.insertionSortCmpFunc_none (P := Tryz.prog) (ρ := Tryz.laysSlF20_f103_ren) { Tryz.laysSlF20_f103 with } (some ⟨gb, 0, none⟩) 0 (.func (.func g) #[] cb) w).mono ?_
      rintro e w1 ⟨rfl, rfl⟩
      exact ⟨rfl, [], List.Perm.refl _, (fun i j _ _ h => absurd h (Nat.not_lt_zero j)), hown, Below.refl _ _⟩
    · rcases hown.2 with ⟨h', _⟩ | ⟨gb', cap, cur, h', hg, hb, h2, h3, h4, h5⟩
      · cases h'
      · cases h'
        have hgs : gb < w.heap.size := (Array.getElem?_eq_some_iff.1 hb).1
        have hH : Holds enc w gb 0 L.toArray := holds_blk hb (by simpa using h5)
        have hs := Tryz.insertionSortCmpFunc_s enc cf g cb gb 0 L.length 0 L.length L.toArray L.toArray w w eg
          (fun m os dk _ x y => (hc hnil _ ((Below.refl base w).grown (grownBy_srt dk) hbase (by simp; omega)) x y).mono fun _ _ ⟨he, hG⟩ => ⟨he, hG.form⟩) ⟨h1, hH, hgs⟩ rfl (SW.start hH) (Nat.zero_le _) (by simp) (by simp; omega)
        simp only [List.size_toArray] at hs
        refine hs.mono ?_
        rintro e w1 ⟨rfl, m, os, rfl⟩
        obtain ⟨hp, hso⟩ := ins_stable hT (ix := ix) L.toArray (fun q hq => by
          have hq' : q < L.length := by simpa using hq
          rw [getL hq']; exact hix q hq')
        simp only [List.size_toArray] at hp hso
        generalize insertionSort (ltOf cf) L.toArray 0 L.length = d' at *
        have hds : d'.size = L.length := by have := hp.1; simpa using this
        have hpp : d'.toList.Perm L := by
          have := perm_list (d := L.toArray) (d' := d') (by simpa using hp)
          simpa using this
        have hO := ownsRow_srt (enc := enc) (w := w) (base := base) (n := m) (os := os) (d := d') hds hg hb h2 h3 (by simpa using h4)
        have hB := (Below.refl base w).grown (grownBy_srt (enc := enc) (w := w) (g := gb) (n := m) (os := os) d') hbase (by simp; omega)
        exact ⟨rfl, d'.toList, hpp, by unfold SrtG; rw [Array.toArray_toList, Array.length_toList, hds]; exact hso, hO, hB⟩
  have HI := Lib.hid hins
  clear hins hc hix hown
  have k1 : ¬ (20 : Int) ≤ (n : Int) := by omega
  have k2 : ¬ (20 : Int) < (n : Int) := by omega
  have hst : Calls Tryz.prog 87 #[.slice (some ⟨gb, 0, none⟩) n n, .int .i64 (n : Int), .func (.func g) #[] cb] w fun e w' => e = .returned (.tuple #[]) ∧ ∃ L' : List α, L'.Perm L ∧ SrtG (byIx cf ix) L' ∧ w'.ownsRow base 3 1 (.slice (some ⟨gb, 0, none⟩) n n) n (L'.map enc) ∧ Below base w w' := by
    go_enter Tryz.func87, Tryz.ntmps87
    go_wp2_with fail
    refine wp_loop_rounds 1 ?_
    rw [rounds_succ]
    go_wp2_with fail
    refine HI.out.mono ?_
    rintro e w1 ⟨rfl, hx⟩
    have HX := Lib.hid hx
    clear hx
    go_wp2_with fail
    refine wp_loop_rounds 1 ?_
    rw [rounds_succ]
    go_wp2_with fail
    go_end0
    exact ⟨rfl, HX.out⟩
  have HS := Lib.hid hst
  clear hst HI
  go_enter Tryz.func55, Tryz.ntmps55
  go_wp2_with fail
  refine HS.out.mono ?_
  rintro e w1 ⟨rfl, hx⟩
  have HX := Lib.hid hx
  clear hx
  go_wp2
  go_end0
  exact ⟨rfl, HX.out⟩
end Go.Proofs.YtflmjoikojfgaaaGreat
