/- slices.BinarySearch of strings. -/
import Derived.Test.YtflpehpjemlphaaDoorSetP
import Derived.Test.YtflpehpjemlphaaDoorAbb
set_option linter.unusedSimpArgs false
set_option linter.unusedVariables false
namespace Go.Proofs.YtflpehpjemlphaaDoor
open Go.RowKit

set_option maxHeartbeats 1000000 in
theorem nan_any (x : ByteArray) (w : World) : Calls Tryd.prog 66 #[.string x] w fun e w' => e = .returned (.bool false) ∧ w' = w := by
  go_enter Tryd.func66, Tryd.ntmps66
  go_wp2
  go_ret
  exact ⟨by simp, rfl⟩
set_option maxHeartbeats 1000000 in
theorem snan_any (x : ByteArray) (w : World) : Calls Tryd.prog 50 #[.string x] w fun e w' => e = .returned (.bool false) ∧ w' = w := by
  go_enter Tryd.func50, Tryd.ntmps50
  go_wp2
  go_ret
  exact ⟨by simp, rfl⟩
set_option maxHeartbeats 1000000 in
theorem less_any (x y : ByteArray) (w : World) : Calls Tryd.prog 49 #[.string x, .string y] w fun e w' => e = .returned (.bool (lessB x y)) ∧ w' = w := by
  go_enter Tryd.func49, Tryd.ntmps49
  go_wp2_with fail
  refine (nan_any x _).mono ?_
  rintro e w1 ⟨rfl, rfl⟩
  go_wp2
  go_ret
  exact ⟨rfl, rfl⟩

def lowN (L : List ByteArray) (x : ByteArray) (k : Nat) : Prop := ∀ (j : Nat) (h : j < L.length), j < k → lessB (L[j]'h) x = true
def highN (L : List ByteArray) (x : ByteArray) (k : Nat) : Prop := ∀ (j : Nat) (h : j < L.length), k ≤ j → lessB (L[j]'h) x = false
theorem low_up {L : List ByteArray} {x : ByteArray} (hs : srtL L = true) {m : Nat} (hm : m < L.length) (hl : lessB (L[m]'hm) x = true) : lowN L x (m + 1) := by
  intro j hj hjm
  by_cases e : j = m
  · subst e; exact hl
  · rw [blt'] at hl ⊢
    have := srt_lt' hs (show j < m by omega) hm
    exact tot_bytes.lt_le this (by omega)
theorem high_down {L : List ByteArray} {x : ByteArray} (hs : srtL L = true) {m : Nat} (hm : m < L.length) (hl : lessB (L[m]'hm) x = false) : highN L x m := by
  intro j hj hjm
  by_cases e : j = m
  · subst e; exact hl
  · rw [← Bool.not_eq_true, blt'] at hl ⊢
    have := srt_lt' hs (show m < j by omega) hj
    intro h
    exact hl (tot_bytes.lt_le this (by omega))
theorem bin_end {L : List ByteArray} {x : ByteArray} (hs : srtL L = true) {k : Nat} (h1 : lowN L x k) (h2 : highN L x k) :
    (∀ (h : k < L.length), ((L[k]'h).toList == x.toList) = Lib.containsS L x) ∧ (L.length ≤ k → Lib.containsS L x = false) := by
  have hself : ∀ y : ByteArray, lessB y y = false := by
    intro y
    rw [← Bool.not_eq_true, blt']
    exact not_lt_self y
  constructor
  · intro h
    rw [Bool.eq_iff_iff, eq_iff, Lib.containsS_iff]
    constructor
    · intro e; rw [← e]; exact List.getElem_mem h
    · intro hx
      obtain ⟨j, hj, e⟩ := List.mem_iff_getElem.1 hx
      by_cases hjk : j < k
      · have := h1 j hj hjk
        rw [e, hself] at this
        cases this
      · by_cases ejk : j = k
        · subst ejk; exact e
        · exfalso
          have q1 := h2 k h (Nat.le_refl k)
          rw [← Bool.not_eq_true, blt'] at q1
          have q2 := srt_lt' hs (show k < j by omega) hj
          rw [e] at q2
          exact q1 q2
  · intro h
    rw [← Bool.not_eq_true, Lib.containsS_iff]
    intro hx
    obtain ⟨j, hj, e⟩ := List.mem_iff_getElem.1 hx
    have := h1 j hj (by omega)
    rw [e, hself] at this
    cases this
def BinPost (w : World) (r : Bool) (e : Ending) (w' : World) : Prop := ∃ k : Int, e = .returned (.tuple #[.int .i64 k, .bool r]) ∧ w' = w
set_option maxHeartbeats 1000000 in
set_option maxRecDepth 100000 in
theorem bin_any {a : Option Addr} {b off len cap : Nat} {L : List ByteArray} {w : World} (h : SlS w a b off len cap L) (hs : srtL L = true) (hlen : len ≤ 2000000) (x : ByteArray) :
    Calls Tryd.prog 32 #[.slice a len cap, .string x] w (BinPost w (Lib.containsS L x)) := by
  obtain ⟨hl, ha, hb, hcap, hmax, hcell⟩ := h
  have HC := Lib.hid hcell
  have HL := Lib.hid hl
  have HU := Lib.hid (fun m hm => @low_up L x hs m hm)
  have HD := Lib.hid (fun m hm => @high_down L x hs m hm)
  have HE := Lib.hid (fun k => @bin_end L x hs k)
  obtain ⟨r, hr⟩ : ∃ r, Lib.containsS L x = r := ⟨_, rfl⟩
  rw [hr] at HE
  rw [hr]
  clear hr hl hcell hs
  unfold maxLen at hmax
  by_cases h0 : 0 < len
  · obtain rfl := ha h0
    clear ha hb
    go_enter Tryd.func32, Tryd.ntmps32
    go_wp2_with fail
    go_loop [7, 8] (fun s5 s6 => ∃ (i j : Nat), i ≤ j ∧ j ≤ len ∧ s5 = .int .i64 (i : Int) ∧ s6 = .int .i64 (j : Int) ∧ Hid (lowN L x i) ∧ Hid (highN L x j)) (fun s5 s6 => (intOf s6 - intOf s5).toNat)
    case atStart => exact ⟨0, len, Nat.zero_le _, Nat.le_refl _, rfl, rfl, Lib.hid (fun j _ h => absurd h (Nat.not_lt_zero j)), Lib.hid (fun j h1 h2 => by rw [HL.out] at h1; omega)⟩
    case round =>
      obtain ⟨i, j, hij, hj, rfl, rfl, HI, HJ⟩ := hrel
      by_cases hlt : i < j
      · have l1 : (i : Int) < (j : Int) := by omega
        have hmL : (i + j) / 2 < L.length := by rw [HL.out]; omega
        have c1 : w.cell? ⟨b, off + (i + j) / 2, none⟩ = some (.string (L[(i + j) / 2]'hmL)) := HC.out _ hmL
        go_wp2_with fail
        refine (less_any _ x _).mono ?_
        rintro e w1 ⟨rfl, rfl⟩
        cases hb : lessB (L[(i + j) / 2]'hmL) x with
        | true =>
          have HN := Lib.hid (HU.out _ hmL hb)
          go_wp2
          go_round
          case rel => exact ⟨(i + j) / 2 + 1, j, by omega, by omega, by go_num, rfl, HN, HJ⟩
          case measure => simp [intOf]; omega
        | false =>
          have HN := Lib.hid (HD.out _ hmL hb)
          go_wp2
          go_round
          case rel => exact ⟨i, (i + j) / 2, by omega, by omega, rfl, by go_num, HI, HN⟩
          case measure => simp [intOf]; omega
      · obtain rfl : i = j := by omega
        have l1 : ¬ (i : Int) < (i : Int) := by omega
        have HF := Lib.hid (HE.out i HI.out HJ.out)
        by_cases hi : i < len
        · have l2 : (i : Int) < (len : Int) := by omega
          have hiL : i < L.length := by rw [HL.out]; exact hi
          have c1 : w.cell? ⟨b, off + i, none⟩ = some (.string (L[i]'hiL)) := HC.out i hiL
          have HG := Lib.hid (HF.out.1 hiL)
          cases he : ((L[i]'hiL).toList == x.toList) with
          | true =>
            go_wp2
            go_ret2
            exact ⟨(i : Int), by rw [← HG.out, he]; rfl, rfl⟩
          | false =>
            go_wp2_with fail
            refine (snan_any _ _).mono ?_
            rintro e w1 ⟨rfl, rfl⟩
            go_wp2
            go_ret2
            exact ⟨(i : Int), by rw [← HG.out, he]; rfl, rfl⟩
        · have l2 : ¬ (i : Int) < (len : Int) := by omega
          have HG := Lib.hid (HF.out.2 (by rw [HL.out]; omega))
          go_wp2
          go_ret2
          exact ⟨(i : Int), by rw [HG.out]; rfl, rfl⟩
  · obtain rfl : len = 0 := by omega
    have HF := Lib.hid ((HE.out 0 (fun j _ h => absurd h (Nat.not_lt_zero j)) (fun j h _ => by rw [HL.out] at h; omega)).2 (by rw [HL.out]; exact Nat.le_refl 0))
    clear ha hb
    go_enter Tryd.func32, Tryd.ntmps32
    go_wp2_with fail
    refine wp_loop_rounds 1 ?_
    rw [rounds_succ]
    go_wp2
    go_ret2
    exact ⟨0, by rw [HF.out]; rfl, rfl⟩
end Go.Proofs.YtflpehpjemlphaaDoor
