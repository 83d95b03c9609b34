/- Contracts of package encode: decimal. -/
import Derived.Test.YtljeialaefmbmaaDoorDecN
set_option linter.unusedSimpArgs false
set_option linter.unusedVariables false
namespace Go.Proofs.YtljeialaefmbmaaDoor
open Go.RowKit

set_option maxHeartbeats 2000000 in
set_option maxRecDepth 100000 in
theorem dec_neg (r0 : Nat) (h1 : 1 ≤ r0) (h2 : r0 ≤ 9223372036854775808) (w : World) :
    Calls Tryd.prog 29 #[.int .i64 (-(r0 : Int))] w fun r w' => r = .returned (.string ⟨(45 :: decL r0).toArray⟩) ∧ Below w.heap.size w w' := by
  have y0 : (-(r0 : Int)) < 0 := by omega
  have y1 : IntKind.u64.wrap (-(r0 : Int)) = 18446744073709551616 - (r0 : Int) := by rw [IntKind.wrap_u64]; omega
  have y2 : IntKind.u64.wrap (0 - (18446744073709551616 - (r0 : Int))) = (r0 : Int) := by rw [IntKind.wrap_u64]; omega
  have y3 : IntKind.u64.wrap (-(18446744073709551616 - (r0 : Int))) = (r0 : Int) := by rw [IntKind.wrap_u64]; omega
  have hr0 : r0 < 18446744073709551616 := by omega
  have hm0 : IntKind.u64.wrap (48 + (r0 : Int) % 10) = 48 + (r0 : Int) % 10 := IntWalk.u64_in _ (by omega)
  have hm1 : IntKind.u8.wrap (48 + (r0 : Int) % 10) = 48 + (r0 : Int) % 10 := by rw [IntKind.wrap_u8]; omega
  have hm2 : (r0 : Int).tmod 10 = (r0 : Int) % 10 := Int.tmod_eq_emod_of_nonneg (by omega)
  go_enter Tryd.func29, Tryd.ntmps29
  go_wp2
  have hT0 : Tail (w.alloc (.cells #[.int .u8 0, .int .u8 0, .int .u8 0, .int .u8 0, .int .u8 0, .int .u8 0, .int .u8 0, .int .u8 0, .int .u8 0, .int .u8 0, .int .u8 0, .int .u8 0, .int .u8 0, .int .u8 0, .int .u8 0, .int .u8 0, .int .u8 0, .int .u8 0, .int .u8 0, .int .u8 (48 + (r0 : Int) % 10)] 70)) w.heap.size 70 19 [dig r0] := by
    refine ⟨rfl, _, World.rowIs_alloc w _ _ (fun i => (#[.int .u8 0, .int .u8 0, .int .u8 0, .int .u8 0, .int .u8 0, .int .u8 0, .int .u8 0, .int .u8 0, .int .u8 0, .int .u8 0, .int .u8 0, .int .u8 0, .int .u8 0, .int .u8 0, .int .u8 0, .int .u8 0, .int .u8 0, .int .u8 0, .int .u8 0, .int .u8 (48 + (r0 : Int) % 10)] : Array Value)[i]?.getD default) (fun i hi => by rw [Array.getElem?_eq_getElem hi]; rfl), fun j hj => ?_⟩
    obtain rfl : j = 0 := by simpa using hj
    simp [dig_nat]
  have hB0 : Below w.heap.size w (w.alloc (.cells #[.int .u8 0, .int .u8 0, .int .u8 0, .int .u8 0, .int .u8 0, .int .u8 0, .int .u8 0, .int .u8 0, .int .u8 0, .int .u8 0, .int .u8 0, .int .u8 0, .int .u8 0, .int .u8 0, .int .u8 0, .int .u8 0, .int .u8 0, .int .u8 0, .int .u8 0, .int .u8 (48 + (r0 : Int) % 10)] 70)) := (by repeat (first | with_reducible exact Below.refl _ _ | (with_reducible refine Below.setCell ?_ (by first | exact Nat.le_refl _ | omega | (simp; done) | (simp; omega)) _) | (with_reducible refine Below.alloc ?_ (by first | exact Nat.le_refl _ | omega | (simp; done) | (simp; omega)) _) | with_reducible refine Below.drew ?_ | with_reducible refine bel_drewN ?_ _ | (with_reducible refine bel_by (by with_reducible assumption) (by first | exact Nat.le_refl _ | omega | (simp; done) | (simp; omega)) ?_)))
  go_loopw [4, 5] (fun s4 s5 wr => ∃ (r k : Nat) (t : List UInt8), s4 = .int .u64 (r : Int) ∧ s5 = .int .i64 (k : Int) ∧ Hid (r < 10 ^ (k + 0)) ∧ (1 ≤ r0 → 1 ≤ r) ∧ r ≤ r0 ∧ Hid (decL r0 = decP r ++ t) ∧ Tail wr w.heap.size 70 k t ∧ Below w.heap.size w wr) (fun s4 _ _ => (intOf s4).toNat)
  case atStart => exact ⟨r0, 19, [dig r0], rfl, rfl, Lib.hid (by show r0 < 10 ^ _; omega), fun h => h, Nat.le_refl _, Lib.hid (decL_pre r0), hT0, hB0⟩
  case round =>
    clear hT0 hB0
    obtain ⟨r, k, t, rfl, rfl, hpw, hpos, hle, hdec, ht, hbel⟩ := hrel
    by_cases h10 : 10 ≤ r
    · obtain ⟨hk, hpw2⟩ := pow_lt_10 h10 hpw.out (by omega)
      obtain ⟨q, rfl⟩ : ∃ q, k = q + 1 := ⟨k - 1, by omega⟩
      have HP := Lib.hid hpw2
      have HT := Lib.hid (ht.put (dig (r / 10)))
      have hk20 : q < 20 := by have := ht.1; omega
      obtain ⟨v, hv⟩ := ht.cell q hk20
      have hf := ht.frozen q
      have hlt := ht.lt
      have HDD : Hid (decL r0 = decP (r / 10) ++ (dig (r / 10) :: t)) := Lib.hid (by
        rw [hdec.out, decP, if_neg (by omega), decL_pre (r / 10)]
        simp)
      have hd1 : (r : Int).tdiv 10 = ((r / 10 : Nat) : Int) := by rw [Int.tdiv_eq_ediv_of_nonneg (by omega)]; omega
      have hq9 : r / 10 ≤ r0 := by omega
      have hq1 : 1 ≤ r / 10 := by omega
      have hq2 : r / 10 < r := by omega
      have hq3 : (r : Int) / 10 = ((r / 10 : Nat) : Int) := by omega
      have x10 : (10 : Int) ≤ (r : Int) := by omega
      generalize hrr : r / 10 = rr at *
      clear hrr
      have hm3 : IntKind.u64.wrap (48 + (rr : Int) % 10) = 48 + (rr : Int) % 10 := IntWalk.u64_in _ (by omega)
      have hm4 : IntKind.u8.wrap (48 + (rr : Int) % 10) = 48 + (rr : Int) % 10 := by rw [IntKind.wrap_u8]; omega
      have hm5 : (rr : Int).tmod 10 = (rr : Int) % 10 := Int.tmod_eq_emod_of_nonneg (by omega)
      have hm6 : ((dig rr).toNat : Int) = 48 + (rr : Int) % 10 := by rw [dig_nat]; omega
      rw [hm6] at HT
      have hx20 : ¬ (20 : Int) ≤ (q : Int) := by omega
      clear hpos hle hpw hdec hpw2 ht
      go_wp2
      go_round
      case rel => exact ⟨rr, q, dig rr :: t, rfl, by go_num, HP, fun _ => hq1, hq9, HDD, HT.out, (by repeat (first | with_reducible exact Below.refl _ _ | (with_reducible refine Below.setCell ?_ (by first | exact Nat.le_refl _ | omega | (simp; done) | (simp; omega)) _) | (with_reducible refine Below.alloc ?_ (by first | exact Nat.le_refl _ | omega | (simp; done) | (simp; omega)) _) | with_reducible refine Below.drew ?_ | with_reducible refine bel_drewN ?_ _ | (with_reducible refine bel_by (by with_reducible assumption) (by first | exact Nat.le_refl _ | omega | (simp; done) | (simp; omega)) ?_)))⟩
      case measure => simp [intOf]; omega
    · have x10 : ¬ (10 : Int) ≤ (r : Int) := by omega
      have hfin : decL r0 = t := by rw [hdec.out, decP, if_pos (by omega)]; rfl
      have hk20 : k < 20 := by have := ht.1; have := congrArg List.length hfin; rw [decL_pre] at this; simp at this; omega
      have hpw := hpw.out
      obtain ⟨q, rfl⟩ : ∃ q, k = q + 1 := ⟨k - 1, by
        have : 1 ≤ k := by
          rcases Nat.eq_zero_or_pos k with h0 | h0
          · subst h0
            simp at hpw
            omega
          · exact h0
        omega⟩
      have ht2 : Tail (wr.setCell ⟨w.heap.size, q, none⟩ (.int .u8 45)) w.heap.size 70 q (45 :: t) := ht.put 45
      obtain ⟨v, hv⟩ := ht.cell q (by omega)
      have hf := ht.frozen q
      have hconv := ht2.text (P := Tryd.prog) 53 9 5 Tryd.underlying53 Tryd.underlying5 Tryd.underlying9 (20 - q) rfl
      have x2 : ¬ (20 : Int) < (q : Int) := by omega
      have hlt := ht.lt
      clear ht2
      have HFIN := Lib.hid hfin
      clear hpos hle hpw hdec ht hfin
      go_wp2
      go_ret
      exact ⟨by rw [HFIN.out]; rfl, (by repeat (first | with_reducible exact Below.refl _ _ | (with_reducible refine Below.setCell ?_ (by first | exact Nat.le_refl _ | omega | (simp; done) | (simp; omega)) _) | (with_reducible refine Below.alloc ?_ (by first | exact Nat.le_refl _ | omega | (simp; done) | (simp; omega)) _) | with_reducible refine Below.drew ?_ | with_reducible refine bel_drewN ?_ _ | (with_reducible refine bel_by (by with_reducible assumption) (by first | exact Nat.le_refl _ | omega | (simp; done) | (simp; omega)) ?_)))⟩
set_option maxHeartbeats 2000000 in
set_option maxRecDepth 100000 in
theorem dec_pos (r0 : Nat) (h2 : r0 ≤ 9223372036854775807) (w : World) :
    Calls Tryd.prog 29 #[.int .i64 ((r0 : Int))] w fun r w' => r = .returned (.string ⟨(decL r0).toArray⟩) ∧ Below w.heap.size w w' := by
  have y0 : ¬ ((r0 : Int)) < 0 := by omega
  have y1 : IntKind.u64.wrap (r0 : Int) = (r0 : Int) := IntWalk.u64_in _ (by omega)
  have hr0 : r0 < 18446744073709551616 := by omega
  have hm0 : IntKind.u64.wrap (48 + (r0 : Int) % 10) = 48 + (r0 : Int) % 10 := IntWalk.u64_in _ (by omega)
  have hm1 : IntKind.u8.wrap (48 + (r0 : Int) % 10) = 48 + (r0 : Int) % 10 := by rw [IntKind.wrap_u8]; omega
  have hm2 : (r0 : Int).tmod 10 = (r0 : Int) % 10 := Int.tmod_eq_emod_of_nonneg (by omega)
  go_enter Tryd.func29, Tryd.ntmps29
  go_wp2
  have hT0 : Tail (w.alloc (.cells #[.int .u8 0, .int .u8 0, .int .u8 0, .int .u8 0, .int .u8 0, .int .u8 0, .int .u8 0, .int .u8 0, .int .u8 0, .int .u8 0, .int .u8 0, .int .u8 0, .int .u8 0, .int .u8 0, .int .u8 0, .int .u8 0, .int .u8 0, .int .u8 0, .int .u8 0, .int .u8 (48 + (r0 : Int) % 10)] 70)) w.heap.size 70 19 [dig r0] := by
    refine ⟨rfl, _, World.rowIs_alloc w _ _ (fun i => (#[.int .u8 0, .int .u8 0, .int .u8 0, .int .u8 0, .int .u8 0, .int .u8 0, .int .u8 0, .int .u8 0, .int .u8 0, .int .u8 0, .int .u8 0, .int .u8 0, .int .u8 0, .int .u8 0, .int .u8 0, .int .u8 0, .int .u8 0, .int .u8 0, .int .u8 0, .int .u8 (48 + (r0 : Int) % 10)] : Array Value)[i]?.getD default) (fun i hi => by rw [Array.getElem?_eq_getElem hi]; rfl), fun j hj => ?_⟩
    obtain rfl : j = 0 := by simpa using hj
    simp [dig_nat]
  have hB0 : Below w.heap.size w (w.alloc (.cells #[.int .u8 0, .int .u8 0, .int .u8 0, .int .u8 0, .int .u8 0, .int .u8 0, .int .u8 0, .int .u8 0, .int .u8 0, .int .u8 0, .int .u8 0, .int .u8 0, .int .u8 0, .int .u8 0, .int .u8 0, .int .u8 0, .int .u8 0, .int .u8 0, .int .u8 0, .int .u8 (48 + (r0 : Int) % 10)] 70)) := (by repeat (first | with_reducible exact Below.refl _ _ | (with_reducible refine Below.setCell ?_ (by first | exact Nat.le_refl _ | omega | (simp; done) | (simp; omega)) _) | (with_reducible refine Below.alloc ?_ (by first | exact Nat.le_refl _ | omega | (simp; done) | (simp; omega)) _) | with_reducible refine Below.drew ?_ | with_reducible refine bel_drewN ?_ _ | (with_reducible refine bel_by (by with_reducible assumption) (by first | exact Nat.le_refl _ | omega | (simp; done) | (simp; omega)) ?_)))
  go_loopw [4, 5] (fun s4 s5 wr => ∃ (r k : Nat) (t : List UInt8), s4 = .int .u64 (r : Int) ∧ s5 = .int .i64 (k : Int) ∧ Hid (r < 10 ^ (k + 1)) ∧ (1 ≤ r0 → 1 ≤ r) ∧ r ≤ r0 ∧ Hid (decL r0 = decP r ++ t) ∧ Tail wr w.heap.size 70 k t ∧ Below w.heap.size w wr) (fun s4 _ _ => (intOf s4).toNat)
  case atStart => exact ⟨r0, 19, [dig r0], rfl, rfl, Lib.hid (by show r0 < 10 ^ _; omega), fun h => h, Nat.le_refl _, Lib.hid (decL_pre r0), hT0, hB0⟩
  case round =>
    clear hT0 hB0
    obtain ⟨r, k, t, rfl, rfl, hpw, hpos, hle, hdec, ht, hbel⟩ := hrel
    by_cases h10 : 10 ≤ r
    · obtain ⟨hk, hpw2⟩ := pow_lt_10 h10 hpw.out (by omega)
      obtain ⟨q, rfl⟩ : ∃ q, k = q + 1 := ⟨k - 1, by omega⟩
      have HP := Lib.hid hpw2
      have HT := Lib.hid (ht.put (dig (r / 10)))
      have hk20 : q < 20 := by have := ht.1; omega
      obtain ⟨v, hv⟩ := ht.cell q hk20
      have hf := ht.frozen q
      have hlt := ht.lt
      have HDD : Hid (decL r0 = decP (r / 10) ++ (dig (r / 10) :: t)) := Lib.hid (by
        rw [hdec.out, decP, if_neg (by omega), decL_pre (r / 10)]
        simp)
      have hd1 : (r : Int).tdiv 10 = ((r / 10 : Nat) : Int) := by rw [Int.tdiv_eq_ediv_of_nonneg (by omega)]; omega
      have hq9 : r / 10 ≤ r0 := by omega
      have hq1 : 1 ≤ r / 10 := by omega
      have hq2 : r / 10 < r := by omega
      have hq3 : (r : Int) / 10 = ((r / 10 : Nat) : Int) := by omega
      have x10 : (10 : Int) ≤ (r : Int) := by omega
      generalize hrr : r / 10 = rr at *
      clear hrr
      have hm3 : IntKind.u64.wrap (48 + (rr : Int) % 10) = 48 + (rr : Int) % 10 := IntWalk.u64_in _ (by omega)
      have hm4 : IntKind.u8.wrap (48 + (rr : Int) % 10) = 48 + (rr : Int) % 10 := by rw [IntKind.wrap_u8]; omega
      have hm5 : (rr : Int).tmod 10 = (rr : Int) % 10 := Int.tmod_eq_emod_of_nonneg (by omega)
      have hm6 : ((dig rr).toNat : Int) = 48 + (rr : Int) % 10 := by rw [dig_nat]; omega
      rw [hm6] at HT
      have hx20 : ¬ (20 : Int) ≤ (q : Int) := by omega
      clear hpos hle hpw hdec hpw2 ht
      go_wp2
      go_round
      case rel => exact ⟨rr, q, dig rr :: t, rfl, by go_num, HP, fun _ => hq1, hq9, HDD, HT.out, (by repeat (first | with_reducible exact Below.refl _ _ | (with_reducible refine Below.setCell ?_ (by first | exact Nat.le_refl _ | omega | (simp; done) | (simp; omega)) _) | (with_reducible refine Below.alloc ?_ (by first | exact Nat.le_refl _ | omega | (simp; done) | (simp; omega)) _) | with_reducible refine Below.drew ?_ | with_reducible refine bel_drewN ?_ _ | (with_reducible refine bel_by (by with_reducible assumption) (by first | exact Nat.le_refl _ | omega | (simp; done) | (simp; omega)) ?_)))⟩
      case measure => simp [intOf]; omega
    · have x10 : ¬ (10 : Int) ≤ (r : Int) := by omega
      have hfin : decL r0 = t := by rw [hdec.out, decP, if_pos (by omega)]; rfl
      have hk20 : k < 20 := by have := ht.1; have := congrArg List.length hfin; rw [decL_pre] at this; simp at this; omega
      have hpw := hpw.out
      have hconv := ht.text (P := Tryd.prog) 53 9 5 Tryd.underlying53 Tryd.underlying5 Tryd.underlying9 (20 - k) rfl
      have x2 : ¬ (20 : Int) < (k : Int) := by omega
      have HFIN := Lib.hid hfin
      clear hpos hle hpw hdec ht hfin
      go_wp2
      go_ret
      exact ⟨by rw [HFIN.out]; rfl, (by repeat (first | with_reducible exact Below.refl _ _ | (with_reducible refine Below.setCell ?_ (by first | exact Nat.le_refl _ | omega | (simp; done) | (simp; omega)) _) | (with_reducible refine Below.alloc ?_ (by first | exact Nat.le_refl _ | omega | (simp; done) | (simp; omega)) _) | with_reducible refine Below.drew ?_ | with_reducible refine bel_drewN ?_ _ | (with_reducible refine bel_by (by with_reducible assumption) (by first | exact Nat.le_refl _ | omega | (simp; done) | (simp; omega)) ?_)))⟩
end Go.Proofs.YtljeialaefmbmaaDoor
