/- preorder.count at []salchow/api.Frac: how many elements at the head of a list a test selects. -/
import Derived.Test.YtflmjoikojfgaaaGreatOwn
import Derived.Test.YtflmjoikojfgaaaGreatShelfB
set_option linter.unusedSimpArgs false
set_option linter.unusedVariables false
namespace Go.Proofs.YtflmjoikojfgaaaGreat
open Go.RowKit Go.Sort

theorem searchR_any (g : Nat) (cb : Array Value) (n : Nat) (p : Nat → Bool) (w : World) (eg : ∀ args w, (callFunc g args).run Tryz.prog w = .ok (.enter g args) w) (hsz : n < 4611686018427387904)
    (hf : ∀ (m : Nat) (os : Array Obj) (i : Nat), i < n → Calls Tryz.prog g (#[.int .i64 i] ++ cb) (grow (w.drewN m) os) fun e w' => e = .returned (.bool (p i)) ∧ Grw (grow (w.drewN m) os) w')
    (hmono : ∀ a b, a ≤ b → b < n → p a = true → p b = true) :
    Calls Tryz.prog 99 #[.int .i64 n, .func (.func g) #[] cb] w fun e w' => e = .returned (.int .i64 ((List.range n).countP (fun i => !p i) : Nat)) ∧ Grw w w' :=
  (Any.sort_Search Tryz.laysSearch g cb n p w eg hsz (fun m os i hi => (hf m os i hi).mono fun _ _ ⟨he, hg⟩ => ⟨he, hg.form⟩) hmono).mono fun _ _ ⟨he, q, os, hw⟩ => ⟨he, by rw [hw]; exact grw_form w q os⟩
set_option maxHeartbeats 1000000 in
set_option maxRecDepth 100000 in
theorem cntR1_any {α : Type} {enc : α → Value} {x : α} {v : Bool} {W : World} {i bs bl b off len cap g : Nat} {cb : Array Value} (hi : i < len) (hcap : len ≤ cap) (hmax : cap ≤ maxLen)
    (eg : ∀ args w, (callFunc g args).run Tryz.prog w = .ok (.enter g args) w) (c1 : W.cell? ⟨bs, 0, none⟩ = some (.func (.func g) #[] cb)) (c2 : W.cell? ⟨bl, 0, none⟩ = some (.slice (some ⟨b, off, none⟩) len cap)) (c3 : W.cell? ⟨b, off + i, none⟩ = some (enc x))
    (h1 : bs < W.heap.size) (h2 : bl < W.heap.size) (h3 : b < W.heap.size)
    (hg : ∀ W', Grw W W' → Calls Tryz.prog g (#[enc x] ++ cb) W' fun e w' => e = .returned (.bool v) ∧ Grw W' w') :
    Calls Tryz.prog 100 #[.int .i64 (i : Int), .pointer (some ⟨bs, 0, none⟩), .pointer (some ⟨bl, 0, none⟩)] W fun e w' => e = .returned (.bool (!v)) ∧ Grw W w' := by
  unfold maxLen at hmax
  have K1 := fun n os => cell_grown (w := W) (a := ⟨bs, 0, none⟩) h1 c1 n os
  have K2 := fun n os => cell_grown (w := W) (a := ⟨bl, 0, none⟩) h2 c2 n os
  have K3 := fun n os => cell_grown (w := W) (a := ⟨b, off + i, none⟩) h3 c3 n os
  have HG := Lib.hid (fun n os => hg _ (grw_form W n os))
  have li : (i : Int) < (len : Int) := by omega
  clear c1 c2 c3 hg h1 h2 h3
  have mixed := mix
  go_enter Tryz.func100, Tryz.ntmps100
  go_wp2_with fail
  go_quiet_grown ((first | (go_at_fn g; exact quietG (HG.out _ _))))
  go_wp2
  go_ret
  exact ⟨rfl, grw_form _ _ _⟩
set_option maxHeartbeats 1000000 in
set_option maxRecDepth 100000 in
theorem cntR_any {α : Type} [Inhabited α] {enc : α → Value} {sel : α → Bool} {a : Option Addr} {b off len cap : Nat} {L : List α} {w : World} (h : SlG enc w a b off len cap L) (g : Nat) (cb : Array Value)
    (eg : ∀ args w, (callFunc g args).run Tryz.prog w = .ok (.enter g args) w) (hlen : len ≤ 1000000)
    (hm : ∀ (i j : Nat) (hi : i < L.length) (hj : j < L.length), i ≤ j → sel (L[i]'hi) = false → sel (L[j]'hj) = false)
    (hg : ∀ W, Below w.heap.size w W → ∀ x ∈ L, Calls Tryz.prog g (#[enc x] ++ cb) W fun e w' => e = .returned (.bool (sel x)) ∧ Grw W w') :
    Calls Tryz.prog 80 #[.slice a len cap, .func (.func g) #[] cb] w fun e w' => e = .returned (.int .i64 (L.countP sel : Nat)) ∧ Grw w w' := by
  have hs : Calls Tryz.prog 99 #[.int .i64 len, .func (.func 100) #[] #[.pointer (some ⟨w.heap.size + 1, 0, none⟩), .pointer (some ⟨w.heap.size, 0, none⟩)]] (box2 w (.slice a len cap) 26 (.func (.func g) #[] cb) 63)
      fun e w' => e = .returned (.int .i64 (L.countP sel : Nat)) ∧ Grw (box2 w (.slice a len cap) 26 (.func (.func g) #[] cb) 63) w' := by
    have B := box2_grw w (.slice a len cap) 26 (.func (.func g) #[] cb) 63
    have b1 := box2_fst w (.slice a len cap) 26 (.func (.func g) #[] cb) 63
    have b2 := box2_snd w (.slice a len cap) 26 (.func (.func g) #[] cb) 63
    have bz := box2_size w (.slice a len cap) 26 (.func (.func g) #[] cb) 63
    generalize box2 w (.slice a len cap) 26 (.func (.func g) #[] cb) 63 = W at *
    have e : ((List.range len).countP fun i => !(fun i => !sel (L.toArray[i]!)) i) = L.countP sel := by
      have := Lib.countP_range L.toArray sel
      simp only [List.size_toArray, h.hl] at this
      rw [← this]
      congr 1
      funext i
      exact Bool.not_not _
    rw [← e]
    refine searchR_any _ _ len (fun i => !sel (L.toArray[i]!)) W (enters_of Tryz.func100 (by kernel_rfl) rfl) (by omega) (fun m os i hi => ?_) (fun i j hij hj => ?_)
    · have hiL : i < L.length := by rw [h.hl]; exact hi
      have G := grw_form W m os
      have hl := h.grw (B.trans G)
      have ha := h.ha (by omega)
      subst ha
      rw [getL hiL]
      exact cntR1_any hi h.hcap h.hmax eg ((G.cell (by omega)).trans b2) ((G.cell (by omega)).trans b1) (hl.cell i hiL) (by have := G.size; omega) (by have := G.size; omega) (hl.hb (by omega))
        (fun W' hW' => hg W' ((B.trans G).trans hW').below _ (List.getElem_mem hiL))
    · have hjL : j < L.length := by rw [h.hl]; exact hj
      simp only [Bool.not_eq_true']
      rw [getL (show i < L.length by omega), getL hjL]
      exact hm i j (by omega) hjL hij
  have HB := Lib.hid (box2_grw w (.slice a len cap) 26 (.func (.func g) #[] cb) 63)
  clear h hg hm
  unfold box2 at hs HB
  have HS := Lib.hid hs
  clear hs
  generalize L.countP sel = c at *
  go_enter Tryz.func80, Tryz.ntmps80
  go_wp2_with fail
  refine HS.out.mono ?_
  rintro e w1 ⟨rfl, hb⟩
  have HG := Lib.hid (HB.out.trans hb)
  clear hb HB HS
  go_wp2
  go_ret
  exact ⟨rfl, HG.out⟩
end Go.Proofs.YtflmjoikojfgaaaGreat
