/- preorder.ties at integers: the pairs of equal elements, counted by a map. -/
import Derived.Test.YtflmjoikojfgaaaGreatPcP
import Derived.Test.YtflmjoikojfgaaaGreatPlq
import Derived.Maps.OwnOps
set_option linter.unusedSimpArgs false
set_option linter.unusedVariables false
namespace Go.Proofs.YtflmjoikojfgaaaGreat
open Go.RowKit Go.Sort Go.Maps

theorem lawI : Keyed Tryz.prog 3 := int_keyed Tryz.underlying3
theorem zeroI (w : World) : (zeroValue 3).run Tryz.prog w = .ok (.int .i64 0) w := by kernel_rfl
abbrev D64 (n : Int) : DataW Unit := .lit (.int .i64 n)
/-- a map that counts those of which q holds -/
def CntD {α : Type} (q : α → Prop) (kl : α → Lit) (D : DataW Unit) (cnt : α → Nat) : Prop := IsMap D ∧ ∀ x, q x → D.atKey (kl x) (D64 0) = D64 (cnt x : Int)
theorem cntD_empty {α : Type} (q : α → Prop) (kl : α → Lit) : CntD q kl (.map []) (fun _ => 0) := ⟨isMap_empty, fun _ _ => rfl⟩
theorem CntD.put {α : Type} [DecidableEq α] {q : α → Prop} {kl : α → Lit} (hk : ∀ x, WideAt.IsKeyLit (kl x)) (hi : ∀ x y, q x → q y → kl x = kl y → x = y) {D : DataW Unit} {L : List α} (h : CntD q kl D (fun x => L.countP fun y => decide (y = x))) (x : α) (hx : q x) {c : Int} (hc : c = ((L.countP fun y => decide (y = x) : Nat) : Int) + 1) :
    CntD q kl (D.put (kl x) (D64 c)) (fun z => (L ++ [x]).countP fun y => decide (y = z)) := by
  refine ⟨h.1.put _ _, fun z hz => ?_⟩
  show (D.put (kl x) (D64 c)).atKey (kl z) (D64 0) = D64 (((L ++ [x]).countP fun y => decide (y = z) : Nat) : Int)
  rw [List.countP_append, List.countP_singleton]
  by_cases e : x = z
  · subst e
    rw [atKey_put_same h.1 (hk x), hc, decide_eq_true rfl, if_pos rfl]
    rfl
  · rw [atKey_put_other (fun he => e (hi _ _ hz hx he).symm), show D.atKey (kl z) (D64 0) = D64 ((L.countP fun y => decide (y = z) : Nat) : Int) from h.2 z hz, decide_eq_false e, if_neg (by simp)]
    rfl
def eqP {α : Type} [DecidableEq α] (x y : α) : Bool := decide (x = y)
theorem tie_step {α : Type} [DecidableEq α] (L : List α) (k : Nat) (h : k < L.length) : pcN eqP (L.take (k + 1)) = pcN eqP (L.take k) + (L.take k).countP fun y => decide (y = L[k]'h) := by
  rw [List.take_succ_eq_append_getElem h, pc_snoc]
  rfl
theorem D64_inj {a b : Int} (h : D64 a = D64 b) : a = b := by
  simp only [D64, DataW.lit.injEq, Lit.int.injEq, true_and] at h
  exact h
set_option maxHeartbeats 1000000 in
set_option maxRecDepth 100000 in
theorem tiesI_any {a : Option Addr} {b off len cap : Nat} {L : List Int} {w : World} (h : SlI w a b off len cap L) (hlen : len ≤ 1000000) (hwf : ∀ x ∈ L, (Lit.int .i64 x).wf = true) :
    Calls Tryz.prog 59 #[.slice a len cap] w fun e w' => e = .returned (.int .i64 (pcN eqP L : Nat)) ∧ Below w.heap.size w w' := by
  have hmm := @run_makeMap Tryz.prog
  have HS := Lib.hid h
  have HW := Lib.hid hwf
  clear h hwf
  go_enter Tryz.func59, Tryz.ntmps59
  go_wp2_with fail
  go_loopw [3, 10] (fun s3 s10 wr => ∃ (k : Nat) (D : DataW Unit), k ≤ len ∧ s3 = .int .i64 (pcN eqP (L.take k) : Nat) ∧ s10 = .int .i64 (k : Int) ∧ Hid (wr.ownsMap Tryz.prog 3 (plainElem Tryz.prog 3) w.heap.size k D) ∧ Hid (CntD (fun _ => True) (Lit.int .i64) D (fun x => (L.take k).countP fun y => decide (y = x))) ∧ Hid (Below w.heap.size w wr)) (fun _ s10 _ => (len - (intOf s10)).toNat)
  case atStart => exact ⟨0, _, Nat.zero_le _, rfl, rfl, Lib.hid (World.ownsMap_made _ _ _ _), Lib.hid (cntD_empty _ _), Lib.hid ((Below.refl _ _).alloc (Nat.le_refl _) _)⟩
  case round =>
    obtain ⟨k, D, hk, rfl, rfl, HO, HC, HB⟩ := hrel
    by_cases hlt : k < len
    · have l1 : (k : Int) < (len : Int) := by omega
      obtain rfl := HS.out.ha (by omega)
      have hkL : k < L.length := by rw [HS.out.hl]; exact hlt
      have cx : wr.cell? ⟨b, off + k, none⟩ = some (.int .i64 (L[k]'hkL)) := (HS.out.keep HB.out).cell k hkL
      have HWX := Lib.hid (HW.out _ (List.getElem_mem hkL))
      have hat0 : D.atKey (.int .i64 (L[k]'hkL)) (D64 0) = D64 (((L.take k).countP fun y => decide (y = L[k]'hkL) : Nat) : Int) := HC.out.2 (L[k]'hkL) trivial
      have htie := tie_step L k hkL
      have HPUT := Lib.hid (fun c hc => CntD.put (kl := Lit.int .i64) (fun _ => trivial) (fun x y _ _ e => by simpa using e) HC.out (L[k]'hkL) trivial (c := c) hc)
      rw [← List.take_succ_eq_append_getElem hkL] at HPUT
      have hn1 := pc_bound eqP (L.take k)
      have hn2 : (L.take k).length ≤ k := List.length_take_le _ _
      have hn3 : (L.take k).countP (fun y => decide (y = L[k]'hkL)) ≤ (L.take k).length := List.countP_le_length
      have hn4 : (L.take k).length * (L.take k).length ≤ 1000000 * 1000000 := Nat.mul_le_mul (by omega) (by omega)
      have hcap := HS.out.hcap
      have hmax := HS.out.hmax
      unfold maxLen at hmax
      have HT := Lib.hid htie
      obtain ⟨x, hx⟩ : ∃ x, L[k]'hkL = x := ⟨_, rfl⟩
      rw [hx] at cx HWX hat0 HPUT HT hn3
      obtain ⟨m, hm⟩ : ∃ m, ((L.take k).countP fun y => decide (y = x)) = m := ⟨_, rfl⟩
      rw [hm] at hat0 HPUT HT hn3
      have HAT := Lib.hid hat0
      obtain ⟨n, hn⟩ : ∃ n, pcN eqP (L.take k) = n := ⟨_, rfl⟩
      rw [hn] at HT hn1 ⊢
      have b1 : n ≤ 1000000000000 := by omega
      have b2 : m ≤ 1000000 := by omega
      clear hx hm hn hat0 htie hn1 hn2 hn3 hn4 HC
      go_wp2_with (first
        | (at_lookup; refine wpList_lookup_own_int _ rfl _ _ 99 rfl 3 3 .i64 lawI Tryz.underlying99 Tryz.underlying3 (zeroI _) w.heap.size k _ rfl HO.out _ _ rfl (keyOf_int_mk Tryz.underlying3 HWX.out) ?_; intro c hat _; obtain rfl := D64_inj (hat.symm.trans HAT.out); clear hat)
        | (at_mapUpdate; refine wpList_mapUpdate_own _ rfl _ _ _ 99 rfl 3 3 lawI Tryz.underlying99 _ w.heap.size k _ rfl HO.out (by unfold maxLen; omega) _ _ _ rfl rfl (keyOf_int_mk Tryz.underlying3 HWX.out) _ [] (plainElem_int Tryz.underlying3 (WalkArith.wf_i64 (by omega))) ?_; intro w1 hown1 hgrow1; have HO1 := Lib.hid hown1; have HB1 := Lib.hid (HB.out.grown hgrow1 HB.out.size (fun j hj => by cases hj; exact Nat.le_refl _)); clear hown1 hgrow1))
      go_roundw
      case rel => exact ⟨k + 1, _, by omega, by rw [HT.out]; go_num, by go_num, HO1, Lib.hid (HPUT.out _ rfl), HB1⟩
      case measure => simp [intOf]; omega
    · obtain rfl : k = len := by omega
      have l1 : ¬ (k : Int) < (k : Int) := by omega
      have HE := Lib.hid (show L.take k = L from List.take_of_length_le (by rw [HS.out.hl]; exact Nat.le_refl _))
      go_wp2
      go_ret
      exact ⟨by rw [HE.out]; rfl, HB.out⟩
end Go.Proofs.YtflmjoikojfgaaaGreat
