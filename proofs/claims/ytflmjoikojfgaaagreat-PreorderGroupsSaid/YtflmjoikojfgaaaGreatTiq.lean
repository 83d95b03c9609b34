/- preorder.ties at pairs: the walk. -/
import Derived.Test.YtflmjoikojfgaaaGreatTip
import Derived.Deep.RegionLaw
import Derived.BigRegion
set_option linter.unusedSimpArgs false
set_option linter.unusedVariables false
namespace Go.Proofs.YtflmjoikojfgaaaGreat
open Go.RowKit Go.Sort Go.Maps

set_option maxHeartbeats 2000000 in
set_option maxRecDepth 100000 in
theorem tiesP_any {g n : Nat} {L : List (Int × Int)} {w : World} (h : PrA w g n L) (hlen : n ≤ 1000000) (hwf : ∀ x ∈ L, Wf2 x) :
    Calls Tryz.prog 60 #[.slice (some ⟨g, 0, none⟩) n n] w fun e w' => e = .returned (.int .i64 (pcN eqP L : Nat)) ∧ Below w.heap.size w w' := by
  have hmm := @run_makeMap Tryz.prog
  have HS := Lib.hid h
  have HW := Lib.hid hwf
  clear h hwf
  go_enter Tryz.func60, Tryz.ntmps60
  go_wp2_with fail
  go_loopw [3, 10] (fun s3 s10 wr => ∃ (k : Nat) (D : DataW Unit), k ≤ n ∧ s3 = .int .i64 (pcN eqP (L.take k) : Nat) ∧ s10 = .int .i64 (k : Int) ∧ Hid (wr.ownsMap Tryz.prog 55 (plainElem Tryz.prog 3) w.heap.size k D) ∧ Hid (CntD Wf2 klP D (fun x => (L.take k).countP fun y => decide (y = x))) ∧ Hid (Below w.heap.size w wr)) (fun _ s10 _ => (n - (intOf s10)).toNat)
  case atStart => exact ⟨0, _, Nat.zero_le _, rfl, rfl, Lib.hid (World.ownsMap_made _ _ _ _), Lib.hid (cntD_empty _ _), Lib.hid ((Below.refl _ _).alloc (Nat.le_refl _) _)⟩
  case round =>
    obtain ⟨k, D, hk, rfl, rfl, HO, HC, HB⟩ := hrel
    by_cases hlt : k < n
    · have l1 : (k : Int) < (n : Int) := by omega
      have hkL : k < L.length := by rw [HS.out.hl]; exact hlt
      obtain ⟨x1, x2⟩ := (HS.out.keep HB.out).cell k hkL
      have HWX := Lib.hid (HW.out _ (List.getElem_mem hkL))
      have hat0 : D.atKey (klP (L[k]'hkL)) (D64 0) = D64 (((L.take k).countP fun y => decide (y = L[k]'hkL) : Nat) : Int) := HC.out.2 (L[k]'hkL) HWX.out
      have htie := tie_step L k hkL
      have HPUT := Lib.hid (fun c hc => CntD.put (kl := klP) (fun _ => (trivial : True)) klP_inj HC.out (L[k]'hkL) HWX.out (c := c) hc)
      rw [← List.take_succ_eq_append_getElem hkL] at HPUT
      have hn1 := pc_bound eqP (L.take k)
      have hn2 : (L.take k).length ≤ k := List.length_take_le _ _
      have hn3 : (L.take k).countP (fun y => decide (y = L[k]'hkL)) ≤ (L.take k).length := List.countP_le_length
      have hn4 : (L.take k).length * (L.take k).length ≤ 1000000 * 1000000 := Nat.mul_le_mul (by omega) (by omega)
      have HT := Lib.hid htie
      obtain ⟨x, hx⟩ : ∃ x, L[k]'hkL = x := ⟨_, rfl⟩
      rw [hx] at x1 x2 HWX hat0 HPUT HT hn3
      obtain ⟨m, hm⟩ : ∃ m, ((L.take k).countP fun y => decide (y = x)) = m := ⟨_, rfl⟩
      rw [hm] at hat0 HPUT HT hn3
      have HAT := Lib.hid hat0
      obtain ⟨t, ht⟩ : ∃ t, pcN eqP (L.take k) = t := ⟨_, rfl⟩
      rw [ht] at HT hn1 ⊢
      have b1 : t ≤ 1000000000000 := by omega
      have b2 : m ≤ 1000000 := by omega
      clear hx hm ht hat0 htie hn1 hn2 hn3 hn4 HC
      obtain ⟨xa, xb⟩ := x
      simp only at x1 x2
      go_wp2_with (first
        | (at_lookup; refine wpList_lookup_own_int _ rfl _ _ 100 rfl 55 3 .i64 lawP Tryz.underlying100 Tryz.underlying3 (zeroI _) w.heap.size k _ rfl (HO.out.alloc _) _ _ rfl (keyP (xa, xb) HWX.out) ?_; intro c hat _; obtain rfl := D64_inj (hat.symm.trans HAT.out); clear hat))
      have hz0 : wr.heap.size < (wr.alloc (.cells #[.int .i64 xa, .int .i64 xb] 55)).heap.size := by simp
      have hz1 : w.heap.size < wr.heap.size := HO.out.lt
      have hB1 : Below w.heap.size w (wr.alloc (.cells #[.int .i64 xa, .int .i64 xb] 55)) := HB.out.alloc HB.out.size _
      have y1 : (wr.alloc (.cells #[.int .i64 xa, .int .i64 xb] 55)).cell? ⟨wr.heap.size, 0, none⟩ = some (.int .i64 xa) := by unfold World.cell?; rw [heap_alloc_new]; rfl
      have y2 : (wr.alloc (.cells #[.int .i64 xa, .int .i64 xb] 55)).cell? ⟨wr.heap.size, 1, none⟩ = some (.int .i64 xb) := by unfold World.cell?; rw [heap_alloc_new]; rfl
      have hoA := HO.out.alloc (.cells #[.int .i64 xa, .int .i64 xb] 55)
      generalize wr.alloc (.cells #[.int .i64 xa, .int .i64 xb] 55) = W at *
      generalize wr.heap.size = bx at *
      obtain ⟨v0, st, wA, wB, r1, r2, r3, r4, ho2, hg2, hg1⟩ := entry_round (w := W.drew) hoA (by unfold maxLen; omega) (xa, xb) HWX.out HAT.out (WalkArith.wf_i64 (by omega))
      have z1 : wA.cell? ⟨bx, 0, none⟩ = some (.int .i64 xa) := (World.cell?_of_block (hg1.block bx hz0 (by simp; omega))).trans y1
      have z2 : wA.cell? ⟨bx, 1, none⟩ = some (.int .i64 xb) := (World.cell?_of_block (hg1.block bx hz0 (by simp; omega))).trans y2
      have HO2 := Lib.hid ho2
      have HB2 := Lib.hid ((bel_drewN hB1 1).grown hg2 (bel_drewN hB1 1).size (fun j hj => by cases hj; exact Nat.le_refl _))
      simp only [valP] at r1 r2 r3 r4
      replace r4 : (Instr.entryStore 100 (.map (some w.heap.size)) (.int .i64 (st : Int)) (.int .i64 ((m : Int) + 1))).run Tryz.prog wA = .ok () wB := r4
      clear ho2 hg2 hg1 hoA hB1 HO HB hz0 hz1 x1 x2
      have wm : IntKind.i64.wrap ((m : Int) + 1) = (m : Int) + 1 := IntWalk.i64_in _ (by omega)
      go_region
      all_goals
        go_wp2_with fail
        go_roundw
        case rel => exact ⟨k + 1, _, by omega, by rw [HT.out]; go_num, by go_num, HO2, Lib.hid (HPUT.out _ rfl), HB2⟩
        case measure => simp [intOf]; omega
    · obtain rfl : k = n := by omega
      have l1 : ¬ (k : Int) < (k : Int) := by omega
      have HE := Lib.hid (show L.take k = L from List.take_of_length_le (by rw [HS.out.hl]; exact Nat.le_refl _))
      go_wp2
      go_ret
      exact ⟨by rw [HE.out]; rfl, HB.out⟩
end Go.Proofs.YtflmjoikojfgaaaGreat
