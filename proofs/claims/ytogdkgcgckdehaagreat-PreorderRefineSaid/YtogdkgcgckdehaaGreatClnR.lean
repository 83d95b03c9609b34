/- preorder.count at []salchow/api.Frac: how many elements at the head of a list a test selects. -/
import Derived.Test.YtogdkgcgckdehaaGreatOwn
import Derived.Test.YtogdkgcgckdehaaGreatShelfB
import Derived.Test.YtogdkgcgckdehaaGreatPlq
import Derived.Deep.DeepFit
import Derived.Lib.SliceRun
import Derived.Lib.Walk
set_option linter.unusedSimpArgs false
set_option linter.unusedVariables false
namespace Go.Proofs.YtogdkgcgckdehaaGreat
open Go.RowKit Go.Sort

theorem searchR_any (g : Nat) (cb : Array Value) (n : Nat) (p : Nat → Bool) (w : World) (eg : ∀ args w, (callFunc g args).run Tryz.prog w = .ok (.enter g args) w) (hsz : n < 4611686018427387904)
    (hf : ∀ (m : Nat) (os : Array Obj) (i : Nat), i < n → Calls Tryz.prog g (#[.int .i64 i] ++ cb) (grow (w.drewN m) os) fun e w' => e = .returned (.bool (p i)) ∧ Grw (grow (w.drewN m) os) w')
    (hmono : ∀ a b, a ≤ b → b < n → p a = true → p b = true) :
    Calls Tryz.prog 65 #[.int .i64 n, .func (.func g) #[] cb] w fun e w' => e = .returned (.int .i64 ((List.range n).countP (fun i => !p i) : Nat)) ∧ Grw w w' :=
  (Any.sort_Search Tryz.laysSearch g cb n p w eg hsz (fun m os i hi => (hf m os i hi).mono fun _ _ ⟨he, hg⟩ => ⟨he, hg.form⟩) hmono).mono fun _ _ ⟨he, q, os, hw⟩ => ⟨he, by rw [hw]; exact grw_form w q os⟩
set_option maxHeartbeats 1000000 in
set_option maxRecDepth 100000 in
theorem cntR1_any {α : Type} {enc : α → Value} {x : α} {v : Bool} {W : World} {i bs bl b off len cap g : Nat} {cb : Array Value} (hi : i < len) (hcap : len ≤ cap) (hmax : cap ≤ maxLen)
    (eg : ∀ args w, (callFunc g args).run Tryz.prog w = .ok (.enter g args) w) (c1 : W.cell? ⟨bs, 0, none⟩ = some (.func (.func g) #[] cb)) (c2 : W.cell? ⟨bl, 0, none⟩ = some (.slice (some ⟨b, off, none⟩) len cap)) (c3 : W.cell? ⟨b, off + i, none⟩ = some (enc x))
    (h1 : bs < W.heap.size) (h2 : bl < W.heap.size) (h3 : b < W.heap.size)
    (hg : ∀ W', Grw W W' → Calls Tryz.prog g (#[enc x] ++ cb) W' fun e w' => e = .returned (.bool v) ∧ Grw W' w') :
    Calls Tryz.prog 66 #[.int .i64 (i : Int), .pointer (some ⟨bs, 0, none⟩), .pointer (some ⟨bl, 0, none⟩)] W fun e w' => e = .returned (.bool (!v)) ∧ Grw W w' := by
  unfold maxLen at hmax
  have K1 := fun n os => cell_grown (w := W) (a := ⟨bs, 0, none⟩) h1 c1 n os
  have K2 := fun n os => cell_grown (w := W) (a := ⟨bl, 0, none⟩) h2 c2 n os
  have K3 := fun n os => cell_grown (w := W) (a := ⟨b, off + i, none⟩) h3 c3 n os
  have HG := Lib.hid (fun n os => hg _ (grw_form W n os))
  have li : (i : Int) < (len : Int) := by omega
  clear c1 c2 c3 hg h1 h2 h3
  have mixed := mix
  go_enter Tryz.func66, Tryz.ntmps66
  go_wp2_with fail
  go_quiet_grown ((first | (go_at_fn g; exact quietG (HG.out _ _))))
  go_wp2
  go_ret
  exact ⟨rfl, grw_form _ _ _⟩
set_option maxHeartbeats 1000000 in
set_option maxRecDepth 100000 in
theorem cntR_any {α : Type} [Inhabited α] {enc : α → Value} {sel : α → Bool} {a : Option Addr} {b off len cap : Nat} {L : List α} {w : World} (h : SlG enc w a b off len cap L) (g : Nat) (cb : Array Value)
    (eg : ∀ args w, (callFunc g args).run Tryz.prog w = .ok (.enter g args) w) (hlen : len ≤ 1000000)
    (hm : ∀ (i j : Nat) (hi : i < L.length) (hj : j < L.length), i ≤ j → sel (L[i]'hi) = false → sel (L[j]'hj) = false)
    (hg : ∀ W, Below w.heap.size w W → ∀ x ∈ L, Calls Tryz.prog g (#[enc x] ++ cb) W fun e w' => e = .returned (.bool (sel x)) ∧ Grw W w') :
    Calls Tryz.prog 49 #[.slice a len cap, .func (.func g) #[] cb] w fun e w' => e = .returned (.int .i64 (L.countP sel : Nat)) ∧ Grw w w' := by
  have hs : Calls Tryz.prog 65 #[.int .i64 len, .func (.func 66) #[] #[.pointer (some ⟨w.heap.size + 1, 0, none⟩), .pointer (some ⟨w.heap.size, 0, none⟩)]] (box2 w (.slice a len cap) 22 (.func (.func g) #[] cb) 34)
      fun e w' => e = .returned (.int .i64 (L.countP sel : Nat)) ∧ Grw (box2 w (.slice a len cap) 22 (.func (.func g) #[] cb) 34) w' := by
    have B := box2_grw w (.slice a len cap) 22 (.func (.func g) #[] cb) 34
    have b1 := box2_fst w (.slice a len cap) 22 (.func (.func g) #[] cb) 34
    have b2 := box2_snd w (.slice a len cap) 22 (.func (.func g) #[] cb) 34
    have bz := box2_size w (.slice a len cap) 22 (.func (.func g) #[] cb) 34
    generalize box2 w (.slice a len cap) 22 (.func (.func g) #[] cb) 34 = W at *
    have e : ((List.range len).countP fun i => !(fun i => !sel (L.toArray[i]!)) i) = L.countP sel := by
      have := Lib.countP_range L.toArray sel
      simp only [List.size_toArray, h.hl] at this
      rw [← this]
      congr 1
      funext i
      exact Bool.not_not _
    rw [← e]
    refine searchR_any _ _ len (fun i => !sel (L.toArray[i]!)) W (enters_of Tryz.func66 (by kernel_rfl) rfl) (by omega) (fun m os i hi => ?_) (fun i j hij hj => ?_)
    · have hiL : i < L.length := by rw [h.hl]; exact hi
      have G := grw_form W m os
      have hl := h.grw (B.trans G)
      have ha := h.ha (by omega)
      subst ha
      rw [getL hiL]
      exact cntR1_any hi h.hcap h.hmax eg ((G.cell (by omega)).trans b2) ((G.cell (by omega)).trans b1) (hl.cell i hiL) (by have := G.size; omega) (by have := G.size; omega) (hl.hb (by omega))
        (fun W' hW' => hg W' ((B.trans G).trans hW').below _ (List.getElem_mem hiL))
    · have hjL : j < L.length := by rw [h.hl]; exact hj
      simp only [Bool.not_eq_true']
      rw [getL (show i < L.length by omega), getL hjL]
      exact hm i j (by omega) hjL hij
  have HB := Lib.hid (box2_grw w (.slice a len cap) 22 (.func (.func g) #[] cb) 34)
  clear h hg hm
  unfold box2 at hs HB
  have HS := Lib.hid hs
  clear hs
  generalize L.countP sel = c at *
  go_enter Tryz.func49, Tryz.ntmps49
  go_wp2_with fail
  refine HS.out.mono ?_
  rintro e w1 ⟨rfl, hb⟩
  have HG := Lib.hid (HB.out.trans hb)
  clear hb HB HS
  go_wp2
  go_ret
  exact ⟨rfl, HG.out⟩
end Go.Proofs.YtogdkgcgckdehaaGreat
/- slices.Clone and slices.SortFunc at []salchow/api.Frac. -/
namespace Go.Proofs.YtogdkgcgckdehaaGreat
open Go.RowKit Go.Sort

set_option maxHeartbeats 1000000 in
set_option maxRecDepth 100000 in
theorem clnR_any {α : Type} {enc : α → Value} (h1 : ∀ x, (enc x).oneCell' = true) {a : Option Addr} {b off len cap : Nat} {L : List α} {w : World} (h : SlG enc w a b off len cap L) (hlen : len ≤ 1000000) :
    Calls Tryz.prog 47 #[.slice a len cap] w fun e w' => ∃ v', e = .returned v' ∧ w'.ownsRow w.heap.size 27 1 v' len (L.map enc) ∧ Below w.heap.size w w' := by
  have q22 : ∀ (w : World) (a : Option Addr) (n c n' c' : Nat), (binOp .eql 22 (.slice a n c) (.slice none n' c')).run Tryz.prog w = .ok (.bool a.isNone) w := fun w a n c n' c' => Lib.run_eql_slice_nil w _ _ a n c n' c' Tryz.underlying22
  cases a with
  | none =>
    have h0 : len = 0 := by
      cases len with
      | zero => rfl
      | succ n => have := h.ha (by omega); cases this
    subst h0
    have : L = [] := List.eq_nil_of_length_eq_zero h.hl
    subst this
    clear h
    go_enter Tryz.func47, Tryz.ntmps47
    go_wp2
    go_ret
    exact ⟨_, rfl, World.ownsRow_nil w _ _ _, Below.refl _ _⟩
  | some ad =>
    have hnews : ∀ j u, (L.map enc)[j]? = some u → w.cell? (ad.add j) = some u := by
      intro j u hu
      rw [List.getElem?_map] at hu
      cases hj : L[j]? with
      | none => rw [hj] at hu; simp at hu
      | some x =>
        rw [hj] at hu
        simp only [Option.map_some, Option.some.injEq] at hu
        obtain ⟨hjl, hx⟩ := List.getElem?_eq_some_iff.1 hj
        have h1 := h.ha (by rw [← h.hl]; omega)
        simp only [Option.some.injEq] at h1
        subst h1
        rw [Addr.add_lit, h.cell j hjl, hx, hu]
    have A := Lib.hid hnews
    have HL := Lib.hid (show (L.map enc).length = len * 1 by rw [List.length_map, h.hl, Nat.mul_one])
    have H1 := Lib.hid (show ∀ u ∈ L.map enc, u.oneCell' = true from fun u hu => by obtain ⟨x, _, rfl⟩ := List.mem_map.1 hu; exact h1 x)
    obtain ⟨i0, hi, hz0, hz1, hz2⟩ := info_parts infoR
    clear h hnews h1
    generalize L.map enc = news at *
    go_enter Tryz.func47, Tryz.ntmps47
    go_wp2_with (at_builtin; refine wpList_append_own _ rfl _ _ 22 rfl w.heap.size 27 i0 (.slice none 0 0) 1 24 Tryz.underlying22 hi hz0 hz1 hz2 rfl (by decide) _ _ _ rfl (World.ownsRow_made w #[] 0 (Nat.le_refl _) (Nat.zero_le _) (by simp)) ad len cap news rfl ?qc1 ?qc2 ?qc3 ?qc4 ?qc5 ?qc6 ?_)
    case qc1 => exact HL.out
    case qc2 =>
      intro j u hj
      exact Lib.cell?_alloc_some _ (A.out j u hj)
    case qc3 => exact H1.out
    case qc4 => rw [Nat.zero_add]; unfold maxLen; omega
    case qc5 => rw [Nat.zero_add]; omega
    case qc6 => simp
    intro v' w1 hown hgrow hnil
    have HO := Lib.hid (show w1.ownsRow w.heap.size 27 1 v' len news by simpa using hown)
    have HB := Lib.hid (((Below.refl _ w).alloc (Nat.le_refl _) _).grown hgrow (by simp) (by intro k hk; simp [Value.ownBlock] at hk; omega))
    clear hown hgrow hnil
    go_wp2
    go_ret
    exact ⟨v', rfl, HO.out, HB.out⟩
set_option maxHeartbeats 1000000 in
theorem srtR_any {α : Type} [Inhabited α] {enc : α → Value} (h1 : OneCell enc) {cf : α → α → Int} (hT : Tot cf) {v : Value} {base n : Nat} {L : List α} {w : World} (hn : L.length = n) (hown : w.ownsRow base 27 1 v n (L.map enc)) (hlen : n ≤ 1000000) (hbase : base ≤ w.heap.size)
    (g : Nat) (cb : Array Value) (eg : ∀ args w, (callFunc g args).run Tryz.prog w = .ok (.enter g args) w) (hc : L ≠ [] → CmpG enc cf g cb base w) :
    Calls Tryz.prog 48 #[v, .func (.func g) #[] cb] w fun e w' => e = .returned (.tuple #[]) ∧ ∃ L' : List α, L'.Perm L ∧ SrtG cf L' ∧ w'.ownsRow base 27 1 v n (L'.map enc) ∧ Below base w w' := by
  subst hn
  by_cases hnil : L = []
  · subst hnil
    obtain ⟨a, c, rfl⟩ : ∃ a c, v = .slice a 0 c := by
      rcases hown.2 with ⟨rfl, _⟩ | ⟨gb, cap, cur, rfl, _⟩
      · exact ⟨_, _, rfl⟩
      · exact ⟨_, _, rfl⟩
    refine (AnyF.slices_SortFunc_none (P := Tryz.prog) (ρ := Tryz.laysSortR_ren) { Tryz.laysSortR with } a c (.func (.func g) #[] cb) w).mono ?_
    rintro e w1 ⟨rfl, rfl⟩
    exact ⟨rfl, [], List.Perm.refl _, (fun i j _ _ h => absurd h (Nat.not_lt_zero j)), hown, Below.refl _ _⟩
  replace hc := hc hnil
  rcases hown.2 with ⟨rfl, h0⟩ | ⟨gb, cap, cur, rfl, hg, hb, h2, h3, h4, h5⟩
  · exact absurd (List.eq_nil_of_length_eq_zero h0) hnil
  · have hgs : gb < w.heap.size := (Array.getElem?_eq_some_iff.1 hb).1
    have hH : Holds enc w gb 0 L.toArray := holds_blk hb (by simpa using h5)
    have hs := Any.slices_SortFunc Tryz.laysSortR enc h1 cf (swo_of hT) g cb gb 0 cap L.toArray w eg
      (fun m os dk _ x y => (hc _ ((Below.refl base w).grown (grownBy_srt dk) hbase (by simp; omega)) x y).mono fun _ _ ⟨he, hG⟩ => ⟨he, hG.form⟩) hH hgs (by simp; omega)
    simp only [List.size_toArray] at hs
    refine hs.mono ?_
    rintro e w1 ⟨rfl, d', m, os, hp, hso, rfl⟩
    have hds : d'.size = L.length := by have := hp.1; simpa using this
    have hpp : d'.toList.Perm L := by
      have := perm_list (d := L.toArray) (d' := d') (by simpa using hp)
      simpa using this
    have hO := ownsRow_srt (enc := enc) (w := w) (base := base) (n := m) (os := os) (d := d') hds hg hb h2 h3 (by simpa using h4)
    have hB := (Below.refl base w).grown (grownBy_srt (enc := enc) (w := w) (g := gb) (n := m) (os := os) d') hbase (by simp; omega)
    exact ⟨rfl, d'.toList, hpp, by unfold SrtG; rw [Array.toArray_toList, Array.length_toList, hds]; exact hso, hO, hB⟩
end Go.Proofs.YtogdkgcgckdehaaGreat
