/- Plain facts: the insertion sort keeps the order of equals. -/
import Derived.Test.YtogdkgcgckdehaaGreatPlcP
import Derived.Sort.LotA
import Derived.Test.YtogdkgcgckdehaaGreatPla
set_option linter.unusedSimpArgs false
set_option linter.unusedVariables false
namespace Go.Proofs.YtogdkgcgckdehaaGreat
open Go.Sort
variable {α : Type} [Inhabited α]

/-- by c, then by the index -/
def byIx (c : α → α → Int) (ix : α → Nat) : α → α → Int := thenC c (onC (fun x => (ix x : Int)) Lib.compareInt)
omit [Inhabited α] in
theorem byIx_tot {c : α → α → Int} (h : Tot c) (ix : α → Nat) : Tot (byIx c ix) := h.then (tot_int.on _)
omit [Inhabited α] in
theorem byIx_lt {c : α → α → Int} {ix : α → Nat} {x y : α} (h : ix y < ix x) : ltOf (byIx c ix) x y = ltOf c x y := by
  unfold ltOf byIx thenC onC
  rw [decide_eq_decide]
  by_cases e : c x y = 0
  · rw [if_pos e, e]
    show (if (ix x : Int) < (ix y : Int) then (-1 : Int) else if (ix x : Int) > (ix y : Int) then 1 else 0) < 0 ↔ (0 : Int) < 0
    rw [if_neg (by omega), if_pos (by omega)]
    omega
  · rw [if_neg e]
theorem insInner_eq {c : α → α → Int} {ix : α → Nat} : ∀ (j : Nat) (d : Array α), j < d.size → (∀ p, p < j → ix d[p]! < ix d[j]!) → insInner (ltOf c) 0 j d = insInner (ltOf (byIx c ix)) 0 j d
  | 0, d, _, _ => rfl
  | j + 1, d, hj, h => by
    unfold insInner
    rw [byIx_lt (h j (by omega))]
    have g := swp_get d hj (show j < d.size by omega)
    rw [insInner_eq j (swp d (j + 1) j) (by rw [swp_size]; omega) (fun p hp => by
      rw [g, g]
      simp only [show p ≠ j by omega, show p ≠ j + 1 by omega, if_false, if_true]
      exact h p (by omega))]
/-- up to i they are the first ones, behind it each stands at its place -/
def IxInv (ix : α → Nat) (i : Nat) (d : Array α) : Prop := (∀ p, p < i → p < d.size → ix d[p]! < i) ∧ ∀ q, i ≤ q → q < d.size → ix d[q]! = q
theorem insInner_inv {lt : α → α → Bool} {ix : α → Nat} {a i : Nat} : ∀ (j : Nat) (d : Array α), j < i → i ≤ d.size → IxInv ix i d → IxInv ix i (insInner lt a j d) ∧ (insInner lt a j d).size = d.size
  | 0, d, _, _, h => ⟨h, rfl⟩
  | j + 1, d, hj, hi, h => by
    unfold insInner
    split
    · have g := swp_get d (show j + 1 < d.size by omega) (show j < d.size by omega)
      have h2 : IxInv ix i (swp d (j + 1) j) := by
        refine ⟨fun p hp hps => ?_, fun q hq hqs => ?_⟩
        · rw [g]
          rw [swp_size] at hps
          split
          · exact h.1 _ (by omega) (by omega)
          · split
            · exact h.1 _ (by omega) (by omega)
            · exact h.1 _ (by omega) (by omega)
        · rw [swp_size] at hqs
          rw [g]
          rw [if_neg (by omega), if_neg (by omega)]
          exact h.2 q hq hqs
      have ih := insInner_inv (lt := lt) (a := a) j (swp d (j + 1) j) (by omega) (by rw [swp_size]; exact hi) h2
      exact ⟨ih.1, by rw [ih.2, swp_size]⟩
    · exact ⟨h, rfl⟩
theorem insOuter_eq {c : α → α → Int} {ix : α → Nat} {b : Nat} : ∀ (n i : Nat) (d : Array α), b - i = n → 0 < i → b ≤ d.size → IxInv ix i d → insOuter (ltOf c) 0 b i d = insOuter (ltOf (byIx c ix)) 0 b i d
  | 0, i, d, hn, _, _, _ => by
    rw [insOuter, if_neg (by omega), insOuter, if_neg (by omega)]
  | n + 1, i, d, hn, hi, hb, h => by
    have hlt : i < b := by omega
    rw [insOuter, if_pos hlt, show insOuter (ltOf (byIx c ix)) 0 b i d = insOuter (ltOf (byIx c ix)) 0 b (i + 1) (insInner (ltOf (byIx c ix)) 0 i d) from by rw [insOuter, if_pos hlt]]
    have hix : ix d[i]! = i := h.2 i (Nat.le_refl _) (by omega)
    have e1 := insInner_eq (c := c) (ix := ix) i d (by omega) (fun p hp => by rw [hix]; exact h.1 p hp (by omega))
    have h2 : IxInv ix (i + 1) d := ⟨fun p hp hps => by
      by_cases e : p = i
      · subst e; omega
      · have := h.1 p (by omega) hps; omega, fun q hq hqs => h.2 q (by omega) hqs⟩
    have h3 := insInner_inv (lt := ltOf (byIx c ix)) (a := 0) i d (Nat.lt_succ_self i) (by omega) h2
    rw [e1]
    exact insOuter_eq n (i + 1) _ (by omega) (by omega) (by rw [h3.2]; exact hb) h3.1
/-- the insertion sort of elements that stand in the order of their indices: sorted by c, equals by their indices -/
theorem ins_stable {c : α → α → Int} (hT : Tot c) {ix : α → Nat} (d : Array α) (h : ∀ q, q < d.size → ix d[q]! = q) :
    PermIn 0 d.size d (insertionSort (ltOf c) d 0 d.size) ∧ SortedIn (ltOf (byIx c ix)) 0 d.size (insertionSort (ltOf c) d 0 d.size) := by
  have e : insertionSort (ltOf c) d 0 d.size = insertionSort (ltOf (byIx c ix)) d 0 d.size := by
    unfold insertionSort
    by_cases h0 : d.size = 0
    · rw [insOuter, if_neg (by omega), insOuter, if_neg (by omega)]
    · exact insOuter_eq _ 1 d rfl (by omega) (Nat.le_refl _) ⟨fun p hp hps => by rw [h p hps]; exact hp, fun q _ hqs => h q hqs⟩
  rw [e]
  exact insertionSort_holds (swo_of (byIx_tot hT ix)) d 0 d.size (Nat.zero_le _) (Nat.le_refl _)
end Go.Proofs.YtogdkgcgckdehaaGreat
/- preorder.Order: the rows from the best to the worst (fewer than 20 of them). -/
namespace Go.Proofs.YtogdkgcgckdehaaGreat
open Go.RowKit Go.Sort

set_option maxHeartbeats 1000000 in
set_option maxRecDepth 100000 in
theorem ordc_any {W : World} {bx b off len cap : Nat} {M : List Rw} (h : SlR W (some ⟨b, off, none⟩) b off len cap M) (c0 : W.cell? ⟨bx, 0, none⟩ = some (.slice (some ⟨b, off, none⟩) len cap)) (hbx : bx < W.heap.size) {i k : Nat} (hi : i < M.length) (hk : k < M.length) :
    Calls Tryz.prog 34 #[.int .i64 (i : Int), .int .i64 (k : Int), .pointer (some ⟨bx, 0, none⟩)] W fun e w' => e = .returned (.int .i64 (ahC (M[i]'hi).L (M[k]'hk).L)) ∧ Grw W w' := by
  have hl := h.sl.hl
  have hb := h.sl.hb (by omega)
  have K0 := fun n os => cell_grown (w := W) (a := ⟨bx, 0, none⟩) hbx c0 n os
  have K1 := fun n os => cell_grown (w := W) (a := ⟨b, off + i, none⟩) hb (h.sl.cell i hi) n os
  have K2 := fun n os => cell_grown (w := W) (a := ⟨b, off + k, none⟩) hb (h.sl.cell k hk) n os
  have HA := Lib.hid (fun n os => ahead_any ((h.rows _ (List.getElem_mem hi)).keep (grw_form W n os).below) ((h.rows _ (List.getElem_mem hk)).keep (grw_form W n os).below))
  have hcap := h.sl.hcap
  have hmax := h.sl.hmax
  unfold maxLen at hmax
  have l1 : (i : Int) < (len : Int) := by omega
  have l2 : (k : Int) < (len : Int) := by omega
  unfold ahC
  generalize rowC (M[k]'hk).L (M[i]'hi).L = c at *
  generalize (M[i]'hi).val = u at *
  generalize (M[k]'hk).val = v at *
  clear h c0 hbx hi hk hl hb
  have mixed := mix
  go_enter Tryz.func34, Tryz.ntmps34
  go_wp2_with fail
  go_quiet_grown ((go_at_call 24; exact quietG (HA.out _ _)))
  go_wp2
  go_ret
  exact ⟨rfl, grw_form _ _ _⟩
set_option maxHeartbeats 2000000 in
set_option maxRecDepth 100000 in
theorem stb_any {α : Type} [Inhabited α] {enc : α → Value} (h1 : OneCell enc) {cf : α → α → Int} (hT : Tot cf) {ix : α → Nat} {base n gb : Nat} {L : List α} {w : World} (hn : L.length = n) (h20 : n < 20)
    (hown : w.ownsRow base 3 1 (.slice (some ⟨gb, 0, none⟩) n n) n (L.map enc)) (hbase : base ≤ w.heap.size) (g : Nat) (cb : Array Value) (eg : ∀ args w, (callFunc g args).run Tryz.prog w = .ok (.enter g args) w) (hc : L ≠ [] → CmpG enc cf g cb base w)
    (hix : ∀ (q : Nat) (h : q < L.length), ix (L[q]'h) = q) :
    Calls Tryz.prog 33 #[.slice (some ⟨gb, 0, none⟩) n n, .func (.func g) #[] cb] w fun e w' => e = .returned (.tuple #[]) ∧ ∃ L' : List α, L'.Perm L ∧ SrtG (byIx cf ix) L' ∧ w'.ownsRow base 3 1 (.slice (some ⟨gb, 0, none⟩) n n) n (L'.map enc) ∧ Below base w w' := by
  have hins : Calls Tryz.prog 69 #[.slice (some ⟨gb, 0, none⟩) n n, .int .i64 0, .int .i64 (n : Int), .func (.func g) #[] cb] w fun e w' => e = .returned (.tuple #[]) ∧ ∃ L' : List α, L'.Perm L ∧ SrtG (byIx cf ix) L' ∧ w'.ownsRow base 3 1 (.slice (some ⟨gb, 0, none⟩) n n) n (L'.map enc) ∧ Below base w w' := by
    subst hn
    by_cases hnil : L = []
    · subst hnil
      refine (AnyF.insertionSortCmpFunc_none (P := Tryz.prog) (ρ := Tryz.laysSlF20_f69_ren) { Tryz.laysSlF20_f69 with } (some ⟨gb, 0, none⟩) 0 (.func (.func g) #[] cb) w).mono ?_
      rintro e w1 ⟨rfl, rfl⟩
      exact ⟨rfl, [], List.Perm.refl _, (fun i j _ _ h => absurd h (Nat.not_lt_zero j)), hown, Below.refl _ _⟩
    · rcases hown.2 with ⟨h', _⟩ | ⟨gb', cap, cur, h', hg, hb, h2, h3, h4, h5⟩
      · cases h'
      · cases h'
        have hgs : gb < w.heap.size := (Array.getElem?_eq_some_iff.1 hb).1
        have hH : Holds enc w gb 0 L.toArray := holds_blk hb (by simpa using h5)
        have hs := Tryz.insertionSortCmpFunc_s enc cf g cb gb 0 L.length 0 L.length L.toArray L.toArray w w eg
          (fun m os dk _ x y => (hc hnil _ ((Below.refl base w).grown (grownBy_srt dk) hbase (by simp; omega)) x y).mono fun _ _ ⟨he, hG⟩ => ⟨he, hG.form⟩) ⟨h1, hH, hgs⟩ rfl (SW.start hH) (Nat.zero_le _) (by simp) (by simp; omega)
        simp only [List.size_toArray] at hs
        refine hs.mono ?_
        rintro e w1 ⟨rfl, m, os, rfl⟩
        obtain ⟨hp, hso⟩ := ins_stable hT (ix := ix) L.toArray (fun q hq => by
          have hq' : q < L.length := by simpa using hq
          rw [getL hq']; exact hix q hq')
        simp only [List.size_toArray] at hp hso
        generalize insertionSort (ltOf cf) L.toArray 0 L.length = d' at *
        have hds : d'.size = L.length := by have := hp.1; simpa using this
        have hpp : d'.toList.Perm L := by
          have := perm_list (d := L.toArray) (d' := d') (by simpa using hp)
          simpa using this
        have hO := ownsRow_srt (enc := enc) (w := w) (base := base) (n := m) (os := os) (d := d') hds hg hb h2 h3 (by simpa using h4)
        have hB := (Below.refl base w).grown (grownBy_srt (enc := enc) (w := w) (g := gb) (n := m) (os := os) d') hbase (by simp; omega)
        exact ⟨rfl, d'.toList, hpp, by unfold SrtG; rw [Array.toArray_toList, Array.length_toList, hds]; exact hso, hO, hB⟩
  have HI := Lib.hid hins
  clear hins hc hix hown
  have k1 : ¬ (20 : Int) ≤ (n : Int) := by omega
  have k2 : ¬ (20 : Int) < (n : Int) := by omega
  have hst : Calls Tryz.prog 56 #[.slice (some ⟨gb, 0, none⟩) n n, .int .i64 (n : Int), .func (.func g) #[] cb] w fun e w' => e = .returned (.tuple #[]) ∧ ∃ L' : List α, L'.Perm L ∧ SrtG (byIx cf ix) L' ∧ w'.ownsRow base 3 1 (.slice (some ⟨gb, 0, none⟩) n n) n (L'.map enc) ∧ Below base w w' := by
    go_enter Tryz.func56, Tryz.ntmps56
    go_wp2_with fail
    refine wp_loop_rounds 1 ?_
    rw [rounds_succ]
    go_wp2_with fail
    refine HI.out.mono ?_
    rintro e w1 ⟨rfl, hx⟩
    have HX := Lib.hid hx
    clear hx
    go_wp2_with fail
    refine wp_loop_rounds 1 ?_
    rw [rounds_succ]
    go_wp2_with fail
    go_end0
    exact ⟨rfl, HX.out⟩
  have HS := Lib.hid hst
  clear hst HI
  go_enter Tryz.func33, Tryz.ntmps33
  go_wp2_with fail
  refine HS.out.mono ?_
  rintro e w1 ⟨rfl, hx⟩
  have HX := Lib.hid hx
  clear hx
  go_wp2
  go_end0
  exact ⟨rfl, HX.out⟩
end Go.Proofs.YtogdkgcgckdehaaGreat
/- preorder.Order: the walk. -/
namespace Go.Proofs.YtogdkgcgckdehaaGreat
open Go.RowKit Go.Sort

/-- an order of rows: a permutation of the indices, sorted; ties in ascending order -/
structure OrdL (C : List (List (Int × Int))) (O : List Nat) : Prop where
  perm : O.Perm (List.range C.length)
  srt : ∀ (p q : Nat) (hp : p < O.length) (hq : q < O.length), p < q → ¬ ahC (C.getD (O[q]'hq) []) (C.getD (O[p]'hp) []) < 0 ∧ (ahC (C.getD (O[q]'hq) []) (C.getD (O[p]'hp) []) = 0 → O[p]'hp < O[q]'hq)
def natL (O : List Nat) : List Int := O.map fun (i : Nat) => (i : Int)
theorem natL_len (O : List Nat) : (natL O).length = O.length := by simp [natL]
theorem natL_range (n : Nat) : natL (List.range n) = idxL n := rfl
theorem OrdL.lt {C : List (List (Int × Int))} {O : List Nat} (h : OrdL C O) {i : Nat} (hi : i ∈ O) : i < C.length := by
  have := h.perm.mem_iff.1 hi
  simpa using this
theorem OrdL.len {C : List (List (Int × Int))} {O : List Nat} (h : OrdL C O) : O.length = C.length := by rw [h.perm.length_eq, List.length_range]
abbrev Ix (n : Nat) : Type := { i : Nat // i < n }
theorem tot_ix {C : List (List (Int × Int))} {m : Nat} (h : ∀ r ∈ C, r.length = m) : Tot (fun x y : Ix C.length => ahC (C.getD x.1 []) (C.getD y.1 [])) := by
  have ht := tot_rows m
  have hg : ∀ x : Ix C.length, (C.getD x.1 []).length = m := fun x => h _ (by
    have := x.2
    simp only [List.getD, List.getElem?_eq_getElem this, Option.getD_some]
    exact List.getElem_mem this)
  exact ⟨fun x y => ht.three ⟨_, hg x⟩ ⟨_, hg y⟩, fun x y => ht.turn ⟨_, hg x⟩ ⟨_, hg y⟩, fun x y z => ht.trans ⟨_, hg x⟩ ⟨_, hg y⟩ ⟨_, hg z⟩⟩
theorem attach_range (n : Nat) : ∃ L : List (Ix n), L.map Subtype.val = List.range n ∧ ∀ (q : Nat) (h : q < L.length), (L[q]'h).1 = q := by
  refine ⟨(List.range n).attach.map fun x => ⟨x.1, by have := x.2; simpa using this⟩, ?_, fun q h => ?_⟩
  · rw [List.map_map]
    exact List.attach_map_subtype_val _
  · simp
theorem crit_getD {M : List Rw} {i : Nat} (h : i < M.length) : (crit M).getD i [] = (M[i]'h).L := by simp [crit, List.getD, h]
def OrderPost (w : World) (n : Nat) (C : List (List (Int × Int))) (e : Ending) (w' : World) : Prop :=
  ∃ gb O, e = .returned (.tuple #[.slice (some ⟨gb, 0, none⟩) n n, .int .i64 0]) ∧ OrdL C O ∧ SlI w' (some ⟨gb, 0, none⟩) gb 0 n n (natL O) ∧ w.heap.size ≤ gb ∧ Below w.heap.size w w'
theorem own_slI {w : World} {base e g n : Nat} {Z : List Int} (h : w.ownsRow base e 1 (.slice (some ⟨g, 0, none⟩) n n) n (Z.map (Value.int .i64))) (hZ : Z.length = n) (hm : n ≤ maxLen) : SlI w (some ⟨g, 0, none⟩) g 0 n n Z := plc_end h hZ hZ hm (fun _ _ => rfl)
theorem own_base {w : World} {base e g n cap : Nat} {xs : List Value} (h : w.ownsRow base e 1 (.slice (some ⟨g, 0, none⟩) n cap) n xs) : base ≤ g := by
  rcases h.2 with ⟨h', _⟩ | ⟨g', cap', cur, h', hg, _⟩
  · cases h'
  · cases h'; exact hg
set_option maxHeartbeats 1000000 in
set_option maxRecDepth 100000 in
theorem sortI_any {a : Option Addr} {b off len cap : Nat} {M : List Rw} {w0 w : World} {bx gb base : Nat} (hx : w0.cell? ⟨bx, 0, none⟩ = some (.slice a len cap)) (hbx : bx < base) (h : SlR w0 a b off len cap M) (hb0 : w0.heap.size = base) (hB : Below base w0 w) (hc : chkL (crit M) = 0) (h20 : len < 20)
    (hown : w.ownsRow base 3 1 (.slice (some ⟨gb, 0, none⟩) len len) len ((idxL len).map (Value.int .i64))) :
    Calls Tryz.prog 33 #[.slice (some ⟨gb, 0, none⟩) len len, .func (.func 34) #[] #[.pointer (some ⟨bx, 0, none⟩)]] w fun e w' => e = .returned (.tuple #[]) ∧ ∃ O, OrdL (crit M) O ∧ w'.ownsRow base 3 1 (.slice (some ⟨gb, 0, none⟩) len len) len ((natL O).map (Value.int .i64)) ∧ Below base w w' := by
  obtain ⟨_, _, c3, _⟩ := chk_ok hc
  have hcl : (crit M).length = len := by unfold crit; rw [List.length_map, h.sl.hl]
  obtain ⟨L, hL, hix⟩ := attach_range (crit M).length
  have hcm : (crit M).length = M.length := by unfold crit; rw [List.length_map]
  have hLl : L.length = len := by
    have := congrArg List.length hL
    rw [List.length_map, List.length_range] at this
    omega
  by_cases h0 : (crit M).length = 0
  case neg =>
    haveI : Inhabited (Ix (crit M).length) := ⟨⟨0, by omega⟩⟩
    have hs := stb_any (enc := fun x : Ix (crit M).length => Value.int .i64 (x.1 : Int)) (fun _ => rfl) (tot_ix c3) (ix := fun x => x.1) (base := base) (n := len) (gb := gb) (L := L) (w := w) hLl h20
      (by
        have : L.map (fun x : Ix (crit M).length => Value.int .i64 (x.1 : Int)) = (idxL len).map (Value.int .i64) := by
          unfold idxL
          rw [← hcl, ← hL, List.map_map, List.map_map]
          rfl
        rw [this]; exact hown) (by rw [← hb0]; exact hB.size) 34 #[.pointer (some ⟨bx, 0, none⟩)] (enters_of Tryz.func34 (by kernel_rfl) rfl)
      (fun hne W hW x y => by
        have hBW : Below w0.heap.size w0 W := by rw [hb0]; exact hB.trans hW
        have hpos : 0 < len := by rw [← hLl]; exact List.length_pos_iff.2 hne
        have hS := h.keep hBW
        have ha := h.sl.ha hpos
        subst ha
        have hxM : x.1 < M.length := by have h2 := x.2; omega
        have hyM : y.1 < M.length := by have h2 := y.2; omega
        have := ordc_any hS ((hBW.cell (p := ⟨bx, 0, none⟩) (show bx < w0.heap.size by omega)).trans hx) (Nat.lt_of_lt_of_le (show bx < w0.heap.size by omega) hBW.size) hxM hyM
        rw [← crit_getD hxM, ← crit_getD hyM] at this
        exact this) hix
    refine hs.mono ?_
    rintro e w1 ⟨rfl, L', hp, hso, hO, hB1⟩
    refine ⟨rfl, L'.map Subtype.val, ⟨?_, ?_⟩, ?_, hB1⟩
    · rw [← hL]; exact hp.map _
    · intro p q hpl hql hpq
      have hpl' : p < L'.length := by simpa using hpl
      have hql' : q < L'.length := by simpa using hql
      have h1 := hso p q (Nat.zero_le _) hpq hql'
      rw [getL hpl', getL hql'] at h1
      unfold ltOf byIx thenC onC at h1
      rw [decide_eq_false_iff_not] at h1
      rw [List.getElem_map, List.getElem_map]
      have hne : (L'[p]'hpl').1 ≠ (L'[q]'hql').1 := by
        have hnd : (L'.map Subtype.val).Nodup := by
          have := (hp.map Subtype.val).nodup_iff.2 (by rw [hL]; exact List.nodup_range)
          exact this
        intro he
        have := (List.getElem_inj (h₀ := by simpa using hpl') (h₁ := by simpa using hql') hnd).1 (by rw [List.getElem_map, List.getElem_map]; exact he)
        omega
      by_cases e : ahC ((crit M).getD (L'[q]'hql').1 []) ((crit M).getD (L'[p]'hpl').1 []) = 0
      · rw [if_pos e] at h1
        refine ⟨by omega, fun _ => ?_⟩
        have h2 : ¬ (if ((L'[q]'hql').1 : Int) < ((L'[p]'hpl').1 : Int) then (-1 : Int) else if ((L'[q]'hql').1 : Int) > ((L'[p]'hpl').1 : Int) then 1 else 0) < 0 := h1
        by_cases h3 : ((L'[q]'hql').1 : Int) < ((L'[p]'hpl').1 : Int)
        · rw [if_pos h3] at h2; omega
        · omega
      · rw [if_neg e] at h1
        exact ⟨h1, fun h0 => absurd h0 e⟩
    · have : (natL (L'.map Subtype.val)).map (Value.int .i64) = L'.map (fun x : Ix (crit M).length => Value.int .i64 (x.1 : Int)) := by
        unfold natL
        rw [List.map_map, List.map_map]
        rfl
      rw [this]; exact hO
  case pos =>
    have hl0 : len = 0 := by omega
    subst hl0
    have hs := stb_any (enc := Value.int .i64) (fun _ => rfl) tot_cmpI (ix := fun _ => 0) (base := base) (n := 0) (gb := gb) (L := []) (w := w) rfl (by omega) (by simpa [idxL] using hown) (by rw [← hb0]; exact hB.size) 34 #[.pointer (some ⟨bx, 0, none⟩)] (enters_of Tryz.func34 (by kernel_rfl) rfl)
      (fun hne => absurd rfl hne) (fun q h => absurd h (Nat.not_lt_zero q))
    refine hs.mono ?_
    rintro e w1 ⟨rfl, L', hp, _, hO, hB1⟩
    have : L' = [] := hp.eq_nil
    subst this
    exact ⟨rfl, [], ⟨by rw [h0]; exact List.Perm.refl _, fun p q hp => absurd hp (Nat.not_lt_zero p)⟩, hO, hB1⟩
set_option maxHeartbeats 1000000 in
set_option maxRecDepth 100000 in
theorem order_ok {a : Option Addr} {b off len cap : Nat} {M : List Rw} {w : World} (h : SlR w a b off len cap M) (hc : chkL (crit M) = 0) (h20 : len < 20) :
    Calls Tryz.prog 16 #[.slice a len cap] w (OrderPost w len (crit M)) := by
  have HS := Lib.hid h
  have HC := Lib.hid hc
  clear h hc
  go_enter Tryz.func16, Tryz.ntmps16
  go_wp2_with fail
  have hb1 : Below w.heap.size w (w.alloc (.cells #[.slice a len cap] 22)) := (by repeat (first | with_reducible exact Below.refl _ _ | (with_reducible refine Below.setCell ?_ (by first | exact Nat.le_refl _ | omega | (simp; done) | (simp; omega)) _) | (with_reducible refine Below.alloc ?_ (by first | exact Nat.le_refl _ | omega | (simp; done) | (simp; omega)) _) | with_reducible refine Below.drew ?_ | with_reducible refine bel_drewN ?_ _ | (with_reducible refine bel_by (by with_reducible assumption) (by first | exact Nat.le_refl _ | omega | (simp; done) | (simp; omega)) ?_)))
  have hbox : (w.alloc (.cells #[.slice a len cap] 22)).cell? ⟨w.heap.size, 0, none⟩ = some (.slice a len cap) := box1_cell w _ _
  have hs1 : (w.alloc (.cells #[.slice a len cap] 22)).heap.size = w.heap.size + 1 := box1_size w (.slice a len cap) 22
  generalize w.alloc (.cells #[.slice a len cap] 22) = w1 at *
  have hck := check_any (HS.out.keep hb1)
  rw [HC.out] at hck
  refine hck.mono ?_
  rintro e w2 ⟨rfl, hB2⟩
  have hbox2 : w2.cell? ⟨w.heap.size, 0, none⟩ = some (.slice a len cap) := (hB2.cell (p := ⟨w.heap.size, 0, none⟩) (by rw [hs1]; exact Nat.lt_succ_self _)).trans hbox
  have HB1 := Lib.hid hb1
  have HB2 := Lib.hid hB2
  have HZ := Lib.hid hs1
  clear hb1 hB2 hs1 hbox hck
  go_wp2_with fail
  refine (indices_any len (by omega) _).mono ?_
  rintro e w3 ⟨gb, rfl, hown, hB3⟩
  have hs2 : w.heap.size < w2.heap.size := by have := HB2.out.size; rw [HZ.out] at this; omega
  have hbox3 : w3.cell? ⟨w.heap.size, 0, none⟩ = some (.slice a len cap) := (hB3.cell (p := ⟨w.heap.size, 0, none⟩) hs2).trans hbox2
  have HB02 := Lib.hid (HB1.out.trans (HB2.out.mono (by rw [HZ.out]; omega)))
  have hso := sortI_any hbox2 hs2 (HS.out.keep HB02.out) rfl hB3 HC.out h20 hown
  have HSO := Lib.hid hso
  have HB3 := Lib.hid (HB02.out.trans (hB3.mono (by omega)))
  have HX := Lib.hid hs2
  have HX3 := Lib.hid hB3.size
  clear hso hown hB3 hs2 hbox2 HB1 HB2 HZ
  go_wp2_with fail
  refine HSO.out.mono ?_
  rintro e w4 ⟨rfl, O, hO, hown4, hB4⟩
  have HO := Lib.hid hO
  have HW4 := Lib.hid hown4
  have HB4 := Lib.hid (HB3.out.trans (hB4.mono (by have := HX.out; omega)))
  clear hO hown4 hB4 HSO HB3 hbox3
  go_wp2
  go_ret2
  have hcl : (crit M).length = len := by unfold crit; rw [List.length_map, HS.out.sl.hl]
  exact ⟨gb, O, rfl, HO.out, own_slI HW4.out (by rw [natL_len, HO.out.len, hcl]) (by unfold maxLen; omega), by have := own_base HW4.out; have := HX.out; omega, HB4.out⟩
end Go.Proofs.YtogdkgcgckdehaaGreat
