/- slices.Clone and slices.SortFunc at []salchow/api.Frac. -/
import Derived.Test.YtflmjoikojfgaaaGreatCntR
import Derived.Test.YtflmjoikojfgaaaGreatPlq
import Derived.Deep.DeepFit
import Derived.Lib.SliceRun
import Derived.Lib.Walk
set_option linter.unusedSimpArgs false
set_option linter.unusedVariables false
namespace Go.Proofs.YtflmjoikojfgaaaGreat
open Go.RowKit Go.Sort

set_option maxHeartbeats 1000000 in
set_option maxRecDepth 100000 in
theorem clnR_any {α : Type} {enc : α → Value} (h1 : ∀ x, (enc x).oneCell' = true) {a : Option Addr} {b off len cap : Nat} {L : List α} {w : World} (h : SlG enc w a b off len cap L) (hlen : len ≤ 1000000) :
    Calls Tryz.prog 78 #[.slice a len cap] w fun e w' => ∃ v', e = .returned v' ∧ w'.ownsRow w.heap.size 22 1 v' len (L.map enc) ∧ Below w.heap.size w w' := by
  have q22 : ∀ (w : World) (a : Option Addr) (n c n' c' : Nat), (binOp .eql 26 (.slice a n c) (.slice none n' c')).run Tryz.prog w = .ok (.bool a.isNone) w := fun w a n c n' c' => Lib.run_eql_slice_nil w _ _ a n c n' c' Tryz.underlying26
  cases a with
  | none =>
    have h0 : len = 0 := by
      cases len with
      | zero => rfl
      | succ n => have := h.ha (by omega); cases this
    subst h0
    have : L = [] := List.eq_nil_of_length_eq_zero h.hl
    subst this
    clear h
    go_enter Tryz.func78, Tryz.ntmps78
    go_wp2
    go_ret
    exact ⟨_, rfl, World.ownsRow_nil w _ _ _, Below.refl _ _⟩
  | some ad =>
    have hnews : ∀ j u, (L.map enc)[j]? = some u → w.cell? (ad.add j) = some u := by
      intro j u hu
      rw [List.getElem?_map] at hu
      cases hj : L[j]? with
      | none => rw [hj] at hu; simp at hu
      | some x =>
        rw [hj] at hu
        simp only [Option.map_some, Option.some.injEq] at hu
        obtain ⟨hjl, hx⟩ := List.getElem?_eq_some_iff.1 hj
        have h1 := h.ha (by rw [← h.hl]; omega)
        simp only [Option.some.injEq] at h1
        subst h1
        rw [Addr.add_lit, h.cell j hjl, hx, hu]
    have A := Lib.hid hnews
    have HL := Lib.hid (show (L.map enc).length = len * 1 by rw [List.length_map, h.hl, Nat.mul_one])
    have H1 := Lib.hid (show ∀ u ∈ L.map enc, u.oneCell' = true from fun u hu => by obtain ⟨x, _, rfl⟩ := List.mem_map.1 hu; exact h1 x)
    obtain ⟨i0, hi, hz0, hz1, hz2⟩ := info_parts infoR
    clear h hnews h1
    generalize L.map enc = news at *
    go_enter Tryz.func78, Tryz.ntmps78
    go_wp2_with (at_builtin; refine wpList_append_own _ rfl _ _ 26 rfl w.heap.size 22 i0 (.slice none 0 0) 1 24 Tryz.underlying26 hi hz0 hz1 hz2 rfl (by decide) _ _ _ rfl (World.ownsRow_made w #[] 0 (Nat.le_refl _) (Nat.zero_le _) (by simp)) ad len cap news rfl ?qc1 ?qc2 ?qc3 ?qc4 ?qc5 ?qc6 ?_)
    case qc1 => exact HL.out
    case qc2 =>
      intro j u hj
      exact Lib.cell?_alloc_some _ (A.out j u hj)
    case qc3 => exact H1.out
    case qc4 => rw [Nat.zero_add]; unfold maxLen; omega
    case qc5 => rw [Nat.zero_add]; omega
    case qc6 => simp
    intro v' w1 hown hgrow hnil
    have HO := Lib.hid (show w1.ownsRow w.heap.size 22 1 v' len news by simpa using hown)
    have HB := Lib.hid (((Below.refl _ w).alloc (Nat.le_refl _) _).grown hgrow (by simp) (by intro k hk; simp [Value.ownBlock] at hk; omega))
    clear hown hgrow hnil
    go_wp2
    go_ret
    exact ⟨v', rfl, HO.out, HB.out⟩
set_option maxHeartbeats 1000000 in
theorem srtR_any {α : Type} [Inhabited α] {enc : α → Value} (h1 : OneCell enc) {cf : α → α → Int} (hT : Tot cf) {v : Value} {base n : Nat} {L : List α} {w : World} (hn : L.length = n) (hown : w.ownsRow base 22 1 v n (L.map enc)) (hlen : n ≤ 1000000) (hbase : base ≤ w.heap.size)
    (g : Nat) (cb : Array Value) (eg : ∀ args w, (callFunc g args).run Tryz.prog w = .ok (.enter g args) w) (hc : L ≠ [] → CmpG enc cf g cb base w) :
    Calls Tryz.prog 79 #[v, .func (.func g) #[] cb] w fun e w' => e = .returned (.tuple #[]) ∧ ∃ L' : List α, L'.Perm L ∧ SrtG cf L' ∧ w'.ownsRow base 22 1 v n (L'.map enc) ∧ Below base w w' := by
  subst hn
  by_cases hnil : L = []
  · subst hnil
    obtain ⟨a, c, rfl⟩ : ∃ a c, v = .slice a 0 c := by
      rcases hown.2 with ⟨rfl, _⟩ | ⟨gb, cap, cur, rfl, _⟩
      · exact ⟨_, _, rfl⟩
      · exact ⟨_, _, rfl⟩
    refine (AnyF.slices_SortFunc_none (P := Tryz.prog) (ρ := Tryz.laysSortR_ren) { Tryz.laysSortR with } a c (.func (.func g) #[] cb) w).mono ?_
    rintro e w1 ⟨rfl, rfl⟩
    exact ⟨rfl, [], List.Perm.refl _, (fun i j _ _ h => absurd h (Nat.not_lt_zero j)), hown, Below.refl _ _⟩
  replace hc := hc hnil
  rcases hown.2 with ⟨rfl, h0⟩ | ⟨gb, cap, cur, rfl, hg, hb, h2, h3, h4, h5⟩
  · exact absurd (List.eq_nil_of_length_eq_zero h0) hnil
  · have hgs : gb < w.heap.size := (Array.getElem?_eq_some_iff.1 hb).1
    have hH : Holds enc w gb 0 L.toArray := holds_blk hb (by simpa using h5)
    have hs := Any.slices_SortFunc Tryz.laysSortR enc h1 cf (swo_of hT) g cb gb 0 cap L.toArray w eg
      (fun m os dk _ x y => (hc _ ((Below.refl base w).grown (grownBy_srt dk) hbase (by simp; omega)) x y).mono fun _ _ ⟨he, hG⟩ => ⟨he, hG.form⟩) hH hgs (by simp; omega)
    simp only [List.size_toArray] at hs
    refine hs.mono ?_
    rintro e w1 ⟨rfl, d', m, os, hp, hso, rfl⟩
    have hds : d'.size = L.length := by have := hp.1; simpa using this
    have hpp : d'.toList.Perm L := by
      have := perm_list (d := L.toArray) (d' := d') (by simpa using hp)
      simpa using this
    have hO := ownsRow_srt (enc := enc) (w := w) (base := base) (n := m) (os := os) (d := d') hds hg hb h2 h3 (by simpa using h4)
    have hB := (Below.refl base w).grown (grownBy_srt (enc := enc) (w := w) (g := gb) (n := m) (os := os) d') hbase (by simp; omega)
    exact ⟨rfl, d'.toList, hpp, by unfold SrtG; rw [Array.toArray_toList, Array.length_toList, hds]; exact hso, hO, hB⟩
end Go.Proofs.YtflmjoikojfgaaaGreat
