/- Contracts of layer 4: the reference's Small and Begins. -/
import Derived.Test.YtflpehpjemlphaaDoorAwake
set_option linter.unusedSimpArgs false
set_option linter.unusedVariables false
namespace Go.Proofs.YtflpehpjemlphaaDoor
open Go.RowKit

def totL (L : List ByteArray) : Nat := (L.map ByteArray.size).sum
def smallB (L : List ByteArray) : Bool := (decide (L.length ≤ 60) && L.all (fun x => decide (x.size ≤ 1500))) && decide (totL L ≤ 1500)
theorem small_len {L : List ByteArray} (h : smallB L = true) : L.length ≤ 60 ∧ ∀ x ∈ L, x.size ≤ 1500 := by
  unfold smallB at h
  simp only [Bool.and_eq_true, decide_eq_true_eq, List.all_eq_true] at h
  exact h.1
theorem small_big {L : List ByteArray} {k : Nat} (h : k < L.length) (hb : 60 ≤ k) : smallB L = false := by
  unfold smallB
  rw [show decide (L.length ≤ 60) = false from decide_eq_false (by omega)]
  rfl
theorem small_long {L : List ByteArray} {k : Nat} (h : k < L.length) (hb : 1500 < (L[k]'h).size) : smallB L = false := by
  unfold smallB
  have : L.all (fun x => decide (x.size ≤ 1500)) = false := by
    rw [List.all_eq_false]
    exact ⟨L[k]'h, List.getElem_mem h, by simp; omega⟩
  rw [this]
  simp
theorem small_end {L : List ByteArray} (hl : L.length ≤ 60) (h : ∀ (j : Nat) (hj : j < L.length), (L[j]'hj).size ≤ 1500) : smallB L = decide ((totL L : Int) ≤ 1500) := by
  unfold smallB
  rw [show decide (L.length ≤ 60) = true from decide_eq_true hl]
  have : L.all (fun x => decide (x.size ≤ 1500)) = true := by
    rw [List.all_eq_true]
    intro x hx
    obtain ⟨j, hj, rfl⟩ := List.mem_iff_getElem.1 hx
    exact decide_eq_true (h j hj)
  rw [this, Bool.true_and, Bool.true_and, decide_eq_decide]
  omega
theorem tot_step (L : List ByteArray) (k : Nat) (h : k < L.length) : totL (L.take (k + 1)) = totL (L.take k) + (L[k]'h).size := by
  unfold totL
  rw [List.take_succ_eq_append_getElem h, List.map_append, List.sum_append]
  simp only [List.map_cons, List.map_nil, List.sum_cons, List.sum_nil, Nat.add_zero]
theorem tot_le {L : List ByteArray} : ∀ (k : Nat), k ≤ L.length → (∀ (j : Nat) (hj : j < L.length), j < k → (L[j]'hj).size ≤ 1500) → totL (L.take k) ≤ 1500 * k
  | 0, _, _ => by simp [totL]
  | k + 1, h, hs => by
    rw [tot_step L k h]
    have := tot_le k (by omega) (fun j hj hjk => hs j hj (by omega))
    have := hs k h (by omega)
    omega
set_option maxHeartbeats 1000000 in
set_option maxRecDepth 100000 in
theorem small_any {a : Option Addr} {b off len cap : Nat} {L : List ByteArray} {w : World} (h : SlS w a b off len cap L) :
    Calls Tryd.prog 5 #[.slice a len cap] w fun e w' => e = .returned (.bool (smallB L)) ∧ w' = w := by
  obtain ⟨hl, ha, hb, hcap, hmax, hcell⟩ := h
  unfold maxLen at hmax
  have HC := Lib.hid hcell
  have HL := Lib.hid hl
  have HBG := Lib.hid (fun k h hb => @small_big L k h hb)
  have HLG := Lib.hid (fun k h hb => @small_long L k h hb)
  have HEN := Lib.hid (@small_end L)
  have HTS := Lib.hid (tot_step L)
  have HTL := Lib.hid (@tot_le L)
  obtain ⟨r, hr⟩ : ∃ r, smallB L = r := ⟨_, rfl⟩
  rw [hr] at HBG HLG HEN
  rw [hr]
  clear hr hl hcell
  by_cases h0 : 0 < len
  · obtain rfl := ha h0
    clear ha hb
    go_enter Tryd.func5, Tryd.ntmps5
    go_wp2_with fail
    go_loop [3, 4] (fun s3 s4 => ∃ (k t : Nat), k ≤ len ∧ k ≤ 60 ∧ t ≤ 1500 * k ∧ s3 = .int .i64 (t : Int) ∧ s4 = .int .i64 (k : Int) ∧ Hid (totL (L.take k) = t) ∧ Hid (∀ (j : Nat) (hj : j < L.length), j < k → (L[j]'hj).size ≤ 1500)) (fun _ s4 => (len - (intOf s4)).toNat)
    case atStart => exact ⟨0, 0, by omega, by omega, by omega, rfl, rfl, Lib.hid rfl, Lib.hid (fun j _ h => absurd h (Nat.not_lt_zero j))⟩
    case round =>
      obtain ⟨k, t, hk, hk60, ht, rfl, rfl, HT, HK⟩ := hrel
      by_cases hlt : k < len
      · have l1 : (k : Int) < (len : Int) := by omega
        have hj : k < L.length := by rw [HL.out]; exact hlt
        have c1 : w.cell? ⟨b, off + k, none⟩ = some (.string (L[k]'hj)) := HC.out k hj
        by_cases h60 : 60 ≤ k
        · have l2 : decide ((k : Int) ≥ 60) = true := decide_eq_true (by omega)
          have HS := Lib.hid (HBG.out k hj h60)
          go_wp2
          go_ret
          exact ⟨by rw [HS.out]; rfl, rfl⟩
        · have l2 : decide ((k : Int) ≥ 60) = false := decide_eq_false (by omega)
          have HST := Lib.hid (HTS.out k hj)
          by_cases hz : 1500 < (L[k]'hj).size
          · have HS := Lib.hid (HLG.out k hj hz)
            generalize L[k]'hj = z at *
            have l3 : decide ((z.size : Int) > 1500) = true := decide_eq_true (by omega)
            go_wp2
            go_ret
            exact ⟨by rw [HS.out]; rfl, rfl⟩
          · have HZ := Lib.hid hz
            have HKK := Lib.hid (show ∀ (j : Nat) (hj : j < L.length), j < k + 1 → (L[j]'hj).size ≤ 1500 from fun j hj hjk => by
              by_cases e : j = k
              · subst e; omega
              · exact HK.out j hj (by omega))
            rw [HT.out] at HST
            generalize L[k]'hj = z at *
            have l3 : decide ((z.size : Int) > 1500) = false := decide_eq_false (by omega)
            go_wp2
            go_round
            case rel => exact ⟨k + 1, t + z.size, by omega, by omega, by omega, by go_num, by go_num, HST, HKK⟩
            case measure => simp [intOf]; omega
      · obtain rfl : k = len := by omega
        have HS := Lib.hid (show r = decide ((t : Int) ≤ 1500) by
          rw [HEN.out (by rw [HL.out]; exact hk60) (fun j hj => HK.out j hj (by rw [← HL.out]; exact hj)), ← HT.out, List.take_of_length_le (by rw [HL.out]; exact Nat.le_refl _)])
        go_wp2
        go_ret
        exact ⟨by rw [HS.out]; rfl, rfl⟩
  · have l1 : ¬ (0 : Int) < (len : Int) := by omega
    have HS := Lib.hid (show r = true by
      have hL0 : L = [] := List.eq_nil_of_length_eq_zero (by rw [HL.out]; omega)
      rw [HEN.out (by rw [hL0]; decide) (fun j hj => by rw [HL.out] at hj; omega), hL0]; rfl)
    clear ha hb
    go_enter Tryd.func5, Tryd.ntmps5
    go_wp2_with fail
    refine wp_loop_rounds 1 ?_
    rw [rounds_succ]
    go_wp2
    go_ret
    exact ⟨by rw [HS.out]; rfl, rfl⟩

/-- s begins with p -/
def begB (s p : ByteArray) : Bool := decide (p.size ≤ s.size) && ((s.extract 0 p.size).toList == p.toList)
end Go.Proofs.YtflpehpjemlphaaDoor
