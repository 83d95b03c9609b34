/- The law of Join: for every slice of tokens. -/
import Derived.Test.YtmokeegebbmdhaaGreatDoorAwk
import Derived.Test.YtmokeegebbmdhaaGreatDoorRefK
set_option linter.unusedSimpArgs false
set_option linter.unusedVariables false
namespace Go.Proofs.YtmokeegebbmdhaaGreatDoor
open Go.RowKit

set_option maxHeartbeats 4000000 in
set_option maxRecDepth 100000 in
theorem joins_walk {w : World} {a : Option Addr} {b o n c : Nat} {L : List Tk} (hA : SlT w a b o n c L) (hT : Tabs w) :
    Calls Tryz.prog 6 #[.slice a n c] w fun e w' => e = .returned (.bool true) ∧ Below w.heap.size w w' := by
  have HA := Lib.hid (fun W hW => awake_any W hW)
  have HT := Lib.hid hT
  have HS := Lib.hid hA
  have HL := Lib.hid hA.hl
  have hcap := hA.hcap
  have hmax := hA.hmax
  unfold maxLen at hmax
  clear hA hT
  by_cases hz : 40 < n
  · have k1 : decide ((n : Int) > 40) = true := decide_eq_true (by omega)
    have k2 : (40 : Int) < (n : Int) := by omega
    go_enter Tryz.func6, Tryz.ntmps6
    go_wp2_with fail
    refine (HA.out _ HT.out).mono ?_
    rintro e w1 ⟨rfl, hb1⟩
    go_wp2_with fail
    go_ret
    exact ⟨rfl, hb1⟩
  · have k1 : decide ((n : Int) > 40) = false := decide_eq_false (by omega)
    have k2 : ¬ (40 : Int) < (n : Int) := by omega
    go_enter Tryz.func6, Tryz.ntmps6
    go_wp2_with fail
    go_loop [3] (fun s3 => ∃ k : Nat, k ≤ n ∧ s3 = .int .i64 (k : Int) ∧ Hid (∀ (j : Nat) (h : j < L.length), j < k → (L[j]'h).t.size ≤ 100)) (fun s3 => (n - (intOf s3)).toNat)
    case atStart => exact ⟨0, Nat.zero_le _, rfl, Lib.hid (fun j _ h => absurd h (Nat.not_lt_zero j))⟩
    case round =>
      obtain ⟨k, hk, rfl, HK⟩ := hrel
      by_cases hlt : k < n
      · have hl : (k : Int) < (n : Int) := by omega
        have hkL : k < L.length := by rw [HL.out]; exact hlt
        have SA := HS.out
        obtain rfl := SA.ha (by omega)
        have ba := SA.hb (by omega)
        have ca1 := SA.c1 k hkL
        clear SA
        obtain ⟨x, hx⟩ : ∃ x, (L[k]'hkL).t = x := ⟨_, rfl⟩
        rw [hx] at ca1
        have HX := Lib.hid hx
        clear hx
        by_cases h100 : 100 < x.size
        · have d1 : decide ((x.size : Int) > 100) = true := decide_eq_true (by omega)
          have d2 : (100 : Int) < (x.size : Int) := by omega
          go_wp2_with fail
          refine (HA.out _ HT.out).mono ?_
          rintro e w1 ⟨rfl, hb1⟩
          go_wp2_with fail
          go_ret
          exact ⟨rfl, hb1⟩
        · have d1 : decide ((x.size : Int) > 100) = false := decide_eq_false (by omega)
          have d2 : ¬ (100 : Int) < (x.size : Int) := by omega
          go_wp2_with fail
          go_round
          case rel =>
            refine ⟨k + 1, by omega, by go_num, Lib.hid (fun j h hj => ?_)⟩
            by_cases e : j = k
            · subst e
              rw [HX.out]
              omega
            · exact HK.out j h (by omega)
          case measure => simp [intOf]; omega
      · obtain rfl : k = n := by omega
        have hl : ¬ (k : Int) < (k : Int) := by omega
        have hz : ∀ t ∈ L, t.t.size ≤ 100 := fun t ht => by
          obtain ⟨j, hj, rfl⟩ := List.getElem_of_mem ht
          exact HK.out j hj (by rw [HL.out] at hj; exact hj)
        have HJ := Lib.hid (joinT_any HS.out (by omega) (fun t ht => Nat.le_trans (hz t ht) (by omega)) HT.out)
        have HR := Lib.hid (fun (W : World) (hS : SlT W a b o k c L) hW => rjoin_any hS (by omega) (fun t ht => Nat.le_trans (hz t ht) (by omega)) hW)
        generalize joinS L = J at *
        obtain ⟨J1, J2⟩ := J
        simp only at HJ HR
        obtain ⟨D, hD⟩ : ∃ D, bs J1 = D := ⟨_, rfl⟩
        rw [hD] at HJ HR
        clear hz hD HK
        go_wp2_with fail
        refine HJ.out.mono ?_
        rintro e w1 ⟨rfl, hb1⟩
        have HB1 := Lib.hid hb1
        have HR1 := Lib.hid (HR.out w1 (HS.out.keep hb1) (HT.out.below hb1))
        clear hb1
        go_wp2_with fail
        refine HR1.out.mono ?_
        rintro e w2 ⟨rfl, hb2⟩
        have HB2 := Lib.hid (bel_by hb2 HB1.out.size HB1.out)
        have HT2 := Lib.hid (HT.out.below HB2.out)
        clear hb2
        go_wp2_with fail
        refine (HA.out _ HT2.out).mono ?_
        rintro e w3 ⟨rfl, hb3⟩
        have HB3 := Lib.hid (bel_by hb3 HB2.out.size HB2.out)
        clear hb3
        go_wp2_with fail
        go_ret
        exact ⟨by first | rfl | (simp; done), HB3.out⟩
end Go.Proofs.YtmokeegebbmdhaaGreatDoor
