/- Contract of layer 4: Abbreviate. -/
import Derived.Test.YtflpehpjemlphaaDoorSrt
import Derived.Laws.OwnMore
import Derived.Laws.MakeOwn
set_option linter.unusedSimpArgs false
set_option linter.unusedVariables false
namespace Go.Proofs.YtflpehpjemlphaaDoor
open Go.RowKit

def befS (L : List ByteArray) (k : Nat) : Nat := if k = 0 then 0 else cpl (L.getD (k - 1) ⟨#[]⟩) (L.getD k ⟨#[]⟩)
def aftS (L : List ByteArray) (k : Nat) : Nat := if k + 1 < L.length then cpl (L.getD k ⟨#[]⟩) (L.getD (k + 1) ⟨#[]⟩) else 0
def abbN (L : List ByteArray) (least : Int) (k : Nat) : Nat := min (max (max least.toNat (befS L k + 1)) (aftS L k + 1)) (L.getD k ⟨#[]⟩).size
def abbAt (L : List ByteArray) (least : Int) (k : Nat) : ByteArray := (L.getD k ⟨#[]⟩).extract 0 (abbN L least k)
def abbL (L : List ByteArray) (least : Int) : List ByteArray := (List.range L.length).map (abbAt L least)

theorem cpl_nil (a : ByteArray) : cpl a ⟨#[]⟩ = 0 := by
  have := (cpl_bd a ⟨#[]⟩).2
  have e : (⟨#[]⟩ : ByteArray).size = 0 := rfl
  omega
theorem bef_next (L : List ByteArray) (k : Nat) : befS L (k + 1) = aftS L k := by
  unfold befS aftS
  rw [if_neg (by omega), Nat.add_sub_cancel]
  split
  · rfl
  · rename_i h
    have : L.getD (k + 1) ⟨#[]⟩ = ⟨#[]⟩ := by simp [List.getD, List.getElem?_eq_none (Nat.le_of_not_lt h)]
    rw [this, cpl_nil]
theorem bef_le {L : List ByteArray} (h : ∀ x ∈ L, x.size ≤ 1000000) (k : Nat) : befS L k ≤ 1000000 ∧ aftS L k ≤ 1000000 ∧ (L.getD k ⟨#[]⟩).size ≤ 1000000 := by
  have h2 : ∀ j, (L.getD j ⟨#[]⟩).size ≤ 1000000 := fun j => by
    by_cases hj : j < L.length
    · have := h (L[j]'hj) (List.getElem_mem hj)
      simpa [List.getD, hj] using this
    · have : L.getD j ⟨#[]⟩ = ⟨#[]⟩ := by simp [List.getD, List.getElem?_eq_none (Nat.le_of_not_lt hj)]
      rw [this]; decide
  refine ⟨?_, ?_, h2 k⟩
  · unfold befS
    split
    · omega
    · exact Nat.le_trans (cpl_bd _ _).1 (h2 _)
  · unfold aftS
    split
    · exact Nat.le_trans (cpl_bd _ _).1 (h2 _)
    · omega
theorem abb_num (least : Int) (bf af n : Nat) (h : 1 ≤ least) : (min (if (if least < (bf : Int) + 1 then (bf : Int) + 1 else least) < (af : Int) + 1 then (af : Int) + 1 else if least < (bf : Int) + 1 then (bf : Int) + 1 else least) (n : Int)).toNat = min (max (max least.toNat (bf + 1)) (af + 1)) n := by
  (repeat' split) <;> omega
theorem set_next {L : List ByteArray} {least : Int} {k len : Nat} {Z : List ByteArray} (hZ : Z.length = len) (hk : k < len) (h : ∀ j, j < k → Z.getD j ⟨#[]⟩ = abbAt L least j) : ∀ j, j < k + 1 → (Z.set k (abbAt L least k)).getD j ⟨#[]⟩ = abbAt L least j := by
  intro j hj
  by_cases e : j = k
  · subst e
    simp [List.getD, hZ, hk]
  · have := h j (by omega)
    simp only [List.getD] at this ⊢
    rw [List.getElem?_set_ne (by omega)]
    exact this
theorem abb_num0 (least : Int) (bf n : Nat) (h : 1 ≤ least) : (min (if least < (bf : Int) + 1 then (bf : Int) + 1 else least) (n : Int)).toNat = min (max (max least.toNat (bf + 1)) (0 + 1)) n := by
  (repeat' split) <;> omega
theorem abb_end {w : World} {g len : Nat} {t : TypeId} {L Z : List ByteArray} {least : Int} (hO : w.ownsRow g t 1 (.slice (some ⟨g, 0, none⟩) len len) len (Z.map Value.string)) (hl : L.length = len) (hZ : Z.length = len) (hm : len ≤ maxLen) (hg : g < w.heap.size) (hV : ∀ j, j < len → Z.getD j ⟨#[]⟩ = abbAt L least j) :
    SlS w (some ⟨g, 0, none⟩) g 0 L.length L.length (abbL L least) := by
  refine ⟨by simp [abbL], fun _ => rfl, fun _ => hg, Nat.le_refl _, by omega, fun j hj => ?_⟩
  have hj2 : j < L.length := by simpa [abbL] using hj
  have hj3 : j < Z.length := by omega
  have e := hO.cellAt j (by omega)
  have hv := hV j (by omega)
  rw [Nat.zero_add, e]
  simp only [List.getElem?_map, List.getElem?_eq_getElem hj3, Option.map_some]
  simp [List.getD, hj3] at hv
  rw [hv]
  simp [abbL]
theorem infoS : (Tryd.prog.info? 9).map (fun i => (i.zero, i.size, i.bytes)) = some (some (.string ⟨#[]⟩), 1, 16) := by kernel_rfl
def AbbPost (w : World) (L : List ByteArray) (least : Int) (e : Ending) (w' : World) : Prop :=
  ∃ g, e = .returned (.tuple #[.slice (some ⟨g, 0, none⟩) L.length L.length, .int .i64 0]) ∧ SlS w' (some ⟨g, 0, none⟩) g 0 L.length L.length (abbL L least) ∧ w.heap.size ≤ g ∧ Below w.heap.size w w'

set_option maxHeartbeats 1000000 in
set_option maxRecDepth 100000 in
theorem abb_any {a : Option Addr} {b off len cap : Nat} {L : List ByteArray} {w : World} (h : SlS w a b off len cap L) (hlen : len ≤ 1000000) (hsz : ∀ x ∈ L, x.size ≤ 1000000) (hs : srtL L = true) (least : Int) (h1 : 1 ≤ least) (h2 : least ≤ 9223372036854775807) :
    Calls Tryd.prog 19 #[.slice a len cap, .int .i64 least] w (AbbPost w L least) := by
  have HS := Lib.hid h
  obtain ⟨i0, hi, hz0, hz1, hz2⟩ := info_parts infoS
  go_enter Tryd.func19, Tryd.ntmps19
  go_wp2_with fail
  refine (sorted_any HS.out).mono ?_
  rw [hs]
  rintro e w1 ⟨rfl, n, rfl⟩
  have HS1 := Lib.hid (HS.out.drewN n)
  have HB1 := Lib.hid (bel_drewN (Below.refl w.heap.size w) n)
  have HZ1 : (w.drewN n).heap.size = w.heap.size := rfl
  generalize w.drewN n = w1 at *
  have hmk := run_make_full (P := Tryd.prog) w1 w1.heap.size 22 9 i0 (.string ⟨#[]⟩) 1 Tryd.underlying22 hi hz0 hz1 .i64 .i64 len (by rw [hz2]; omega) (by unfold maxLen; omega) (Nat.le_refl _)
  obtain ⟨w2, hrun, hown, hgrow⟩ := hmk
  have k0 : decide (least < 1) = false := by simp; omega
  have hown2 : w2.ownsRow w1.heap.size 9 1 (.slice (some ⟨w1.heap.size, 0, none⟩) len len) len ((List.replicate len (⟨#[]⟩ : ByteArray)).map Value.string) := by
    have e : (madeCells (Value.string ⟨#[]⟩).cells (len * 1)).toList = (List.replicate len (⟨#[]⟩ : ByteArray)).map Value.string := by
      rw [List.map_replicate, Nat.mul_one]
      exact toList_madeCells_one _ _
    rw [← e]; exact hown
  have hB2 : Below w1.heap.size w1 w2 := (Below.refl _ _).grown hgrow (Nat.le_refl _) (by simp)
  have HO2 := Lib.hid hown2
  have HB2 := Lib.hid (show Below w.heap.size w w2 from HB1.out.trans (hB2.mono (Nat.le_of_eq HZ1.symm)))
  have HG2 := Lib.hid (show w1.heap.size < w2.heap.size by
    rcases hown2.2 with ⟨h', _⟩ | ⟨g', cap', cur, h', _, hg, _⟩
    · simp at h'
    · simp only [Value.slice.injEq, Option.some.injEq, Addr.mk.injEq, and_true, true_and] at h'
      obtain ⟨rfl, rfl⟩ := h'
      exact (Array.getElem?_eq_some_iff.1 hg).1)
  have HZ := Lib.hid HZ1
  clear hown hown2 hB2 hgrow HZ1
  generalize w1.heap.size = g at *
  by_cases h0 : 0 < len
  · obtain rfl := HS.out.ha h0
    have HL := Lib.hid HS.out.hl
    go_wp2_with fail
    clear hrun
    go_loopw [7, 22] (fun s7 s22 wr => ∃ (k : Nat) (Z : List ByteArray), k ≤ len ∧ s7 = .int .i64 (befS L k : Int) ∧ s22 = .int .i64 (k : Int) ∧ Hid (wr.ownsRow g 9 1 (.slice (some ⟨g, 0, none⟩) len len) len (Z.map Value.string)) ∧ Hid (Below w.heap.size w wr) ∧ Hid (Z.length = len) ∧ Hid (∀ j, j < k → Z.getD j ⟨#[]⟩ = abbAt L least j) ∧ g < wr.heap.size) (fun _ s22 _ => (len - (intOf s22)).toNat)
    case atStart => exact ⟨0, List.replicate len ⟨#[]⟩, Nat.zero_le _, rfl, rfl, HO2, HB2, Lib.hid (by simp), Lib.hid (fun j h => absurd h (Nat.not_lt_zero j)), HG2.out⟩
    case round =>
      clear HO2 HB2 HG2
      obtain ⟨k, Z, hk, rfl, rfl, HO, HB, HZL, HZV, hg⟩ := hrel
      by_cases hlt : k < len
      · have l1 : (k : Int) < (len : Int) := by omega
        have hkL : k < L.length := by rw [HL.out]; exact hlt
        have hkZ : k < Z.length := by rw [HZL.out]; exact hlt
        have fz : wr.frozen? ⟨g, k, none⟩ = false := HO.out.frozenAt k
        have cz : wr.cell? ⟨g, k, none⟩ = some (.string (Z[k]'hkZ)) := by rw [HO.out.cellAt k (by omega)]; simp [hkZ]
        have HSR := Lib.hid (HS.out.keep HB.out)
        have c1 : wr.cell? ⟨b, off + k, none⟩ = some (.string (L.getD k ⟨#[]⟩)) := by rw [HSR.out.cell k hkL]; simp [List.getD, hkL]
        obtain ⟨bl, al, sl⟩ := bef_le hsz k
        have HNX := Lib.hid (bef_next L k)
        have HA := Lib.hid (show abbAt L least k = (L.getD k ⟨#[]⟩).extract 0 (min (max (max least.toNat (befS L k + 1)) (aftS L k + 1)) (L.getD k ⟨#[]⟩).size) from rfl)
        by_cases hn : k + 1 < len
        · have l2 : (k : Int) + 1 < (len : Int) := by omega
          have c2 : wr.cell? ⟨b, off + (k + 1), none⟩ = some (.string (L.getD (k + 1) ⟨#[]⟩)) := by rw [HSR.out.cell (k + 1) (by rw [HL.out]; exact hn)]; simp [List.getD, HL.out, hn]
          have tl := (bef_le hsz (k + 1)).2.2
          have HAF := Lib.hid (show cpl (L.getD k ⟨#[]⟩) (L.getD (k + 1) ⟨#[]⟩) = aftS L k by unfold aftS; rw [if_pos (by rw [HL.out]; exact hn)])
          generalize L.getD k ⟨#[]⟩ = s at *
          generalize L.getD (k + 1) ⟨#[]⟩ = t at *
          generalize befS L k = bf at *
          generalize aftS L k = af at *
          generalize Z[k]'hkZ = z at *
          go_wp2_with fail
          refine (shared_any s t (by omega) (by omega) _).mono ?_
          rw [HAF.out]
          rintro e w3 ⟨rfl, m, rfl⟩
          have fz3 : (wr.drewN m).frozen? ⟨g, k, none⟩ = false := fz
          have cz3 : (wr.drewN m).cell? ⟨g, k, none⟩ = some (.string z) := cz
          have HO3 := Lib.hid (show (wr.drewN m).ownsRow g 9 1 (.slice (some ⟨g, 0, none⟩) len len) len (Z.map Value.string) from HO.out)
          have HB3 := Lib.hid (bel_drewN HB.out m)
          have hg3 : g < (wr.drewN m).heap.size := hg
          clear fz cz c1 c2 HO HB hg HSR
          generalize wr.drewN m = w4 at *
          go_wp2
          go_roundw
          case rel =>
            rw [abb_num least bf af s.size h1, ← HA.out]
            have hst := HO3.out.stored k (.string (abbAt L least k))
            rw [← List.map_set] at hst
            exact ⟨k + 1, Z.set k (abbAt L least k), by omega, by rw [HNX.out], by go_num, Lib.hid hst.1, Lib.hid (HB3.out.setCell (by simp; rw [HZ.out]; exact Nat.le_refl _) _), Lib.hid (by rw [List.length_set]; exact HZL.out), Lib.hid (set_next HZL.out hlt HZV.out), by simpa [World.setCell] using hg3⟩
          case measure => simp [intOf]; omega
        · have l2 : ¬ (k : Int) + 1 < (len : Int) := by omega
          have HAF := Lib.hid (show aftS L k = 0 by unfold aftS; rw [if_neg (by rw [HL.out]; exact hn)])
          rw [HAF.out] at HNX HA
          generalize L.getD k ⟨#[]⟩ = s at *
          generalize befS L k = bf at *
          generalize Z[k]'hkZ = z at *
          clear al
          go_wp2
          go_roundw
          case rel =>
            rw [abb_num0 least bf s.size h1, ← HA.out]
            have hst := HO.out.stored k (.string (abbAt L least k))
            rw [← List.map_set] at hst
            exact ⟨k + 1, Z.set k (abbAt L least k), by omega, by rw [HNX.out]; rfl, by go_num, Lib.hid hst.1, Lib.hid (HB.out.setCell (by simp; rw [HZ.out]; exact Nat.le_refl _) _), Lib.hid (by rw [List.length_set]; exact HZL.out), Lib.hid (set_next HZL.out hlt HZV.out), by simpa [World.setCell] using hg⟩
          case measure => simp [intOf]; omega
      · obtain rfl : k = len := by omega
        have l1 : ¬ (k : Int) < (k : Int) := by omega
        go_wp2
        go_ret2
        exact ⟨g, by rw [HL.out]; rfl, abb_end HO.out HL.out HZL.out (by unfold maxLen; omega) hg HZV.out, by rw [HZ.out]; exact Nat.le_refl _, HB.out⟩
  · obtain rfl : len = 0 := by omega
    have HL := Lib.hid HS.out.hl
    simp only [Int.natCast_zero] at hrun
    go_wp2_with fail
    clear hrun
    refine wp_loop_rounds 1 ?_
    rw [rounds_succ]
    go_wp2
    go_ret2
    exact ⟨g, by rw [HL.out]; rfl, abb_end HO2.out HL.out (by simp) (by unfold maxLen; omega) HG2.out (fun j hj => absurd hj (Nat.not_lt_zero j)), by rw [HZ.out]; exact Nat.le_refl _, HB2.out⟩
end Go.Proofs.YtflpehpjemlphaaDoor
