/- The reference of fractions: numbers of two words. -/
import Derived.Test.YtigibomcaecbdaaGreatCmp
import Derived.Laws.BitsAllLaws
import Derived.Laws.Shifts
import Derived.Shelf.Spec.BitsCarry
import Derived.StillTailTactics
import Derived.WalkSmall
import Derived.BigRegion
import Derived.Deep.LoopGhost
import Derived.Deep.RegionHeld3
set_option linter.unusedSimpArgs false
set_option linter.unusedVariables false
namespace Go.Proofs.YtigibomcaecbdaaGreat
open Go.RowKit Go.Sort

def bor (x y : Int) : Int := if x < y then 1 else 0
theorem bor_0 (x y : Int) : 0 ≤ bor x y := by unfold bor; split <;> omega
theorem bor_1 (x y : Int) : bor x y ≤ 1 := by unfold bor; split <;> omega
theorem sub64 (x y c : Int) (hx : 0 ≤ x) (hx' : x ≤ 18446744073709551615) (hy : 0 ≤ y) (hy' : y ≤ 18446744073709551615) (hc0 : 0 ≤ c) (hc : c ≤ 1) (w : World) : (callFunc 150 #[.int .u64 x, .int .u64 y, .int .u64 c]).run Tryz.prog w =
    .ok (.value (.tuple #[.int .u64 (loW (x - y - c)), .int .u64 (bor x (y + c))])) w := by
  obtain ⟨x, rfl⟩ := Int.eq_ofNat_of_zero_le hx
  obtain ⟨y, rfl⟩ := Int.eq_ofNat_of_zero_le hy
  obtain ⟨c, rfl⟩ := Int.eq_ofNat_of_zero_le hc0
  rw [run_callFunc_extern (P := Tryz.prog) (f := 150) (fn := Tryz.f150) (by kernel_rfl) (by kernel_rfl) (by kernel_rfl) (by kernel_rfl) (e := sub64Entry) (by kernel_rfl), run_sub64 x y c (by omega)]
  simp only [Result.andThen, loW, bor]
  have e1 : (((x + 18446744073709551616 - y - c) % 18446744073709551616 : Nat) : Int) = ((x : Int) - y - c) % 18446744073709551616 := by omega
  have e2 : ((if x < y + c then 1 else 0 : Nat) : Int) = if (x : Int) < y + c then 1 else 0 := by split <;> split <;> omega
  rw [e1, e2]
theorem sub64_0 (x y : Int) (hx : 0 ≤ x) (hx' : x ≤ 18446744073709551615) (hy : 0 ≤ y) (hy' : y ≤ 18446744073709551615) (w : World) : (callFunc 150 #[.int .u64 x, .int .u64 y, .int .u64 0]).run Tryz.prog w =
    .ok (.value (.tuple #[.int .u64 (loW (x - y)), .int .u64 (bor x y)])) w := by
  have h := sub64 x y 0 hx hx' hy hy' (Int.le_refl 0) (by decide) w
  rwa [Int.sub_zero, Int.add_zero] at h

theorem undrew {W w1 : World} (hb : Below W.drew.heap.size W.drew w1) : Below W.heap.size W w1 := ⟨hb.os, hb.tape, hb.output, hb.size, hb.block⟩

theorem gcdI_pos (a b : Int) (hb : 0 < b) : 1 ≤ gcdI a b := by
  unfold gcdI
  have := Nat.gcd_pos_of_pos_right a.natAbs (n := b.natAbs) (by omega)
  omega
theorem gcdI_le (a b : Int) (hb : 0 < b) : gcdI a b ≤ b := by
  unfold gcdI
  have := Nat.gcd_le_right a.natAbs (n := b.natAbs) (by omega)
  omega

theorem rprod_any (a b : Int) (ha : 0 ≤ a) (ha' : a ≤ 18446744073709551615) (hb : 0 ≤ b) (hb' : b ≤ 18446744073709551615) (w : World) :
    Calls Tryz.prog 70 #[.int .u64 a, .int .u64 b] w fun e w' => e = .returned (.agg #[.int .u64 (hiW (a * b)), .int .u64 (loW (a * b))]) ∧ Below w.heap.size w w' := by
  go_enter Tryz.func70, Tryz.ntmps70
  go_wp2_with (go_at_call 96; refine (mul64 a b ha ha' hb hb' _).mono ?_; rintro e w' ⟨rfl, rfl⟩)
  simp [bodyPost, results, Tryz.results70, go_sem]
  exact (by repeat (first | with_reducible exact Below.refl _ _ | (with_reducible refine Below.setCell ?_ (by first | exact Nat.le_refl _ | omega | (simp; done) | (simp; omega)) _) | (with_reducible refine Below.alloc ?_ (by first | exact Nat.le_refl _ | omega | (simp; done) | (simp; omega)) _) | with_reducible refine Below.drew ?_ | with_reducible refine bel_drewN ?_ _ | (with_reducible refine bel_by (by with_reducible assumption) (by first | exact Nat.le_refl _ | omega | (simp; done) | (simp; omega)) ?_)))

theorem rminus_any (ph pl qh ql : Int) (h1 : 0 ≤ ph) (h1' : ph ≤ 18446744073709551615) (h2 : 0 ≤ pl) (h2' : pl ≤ 18446744073709551615) (h3 : 0 ≤ qh) (h3' : qh ≤ 18446744073709551615) (h4 : 0 ≤ ql) (h4' : ql ≤ 18446744073709551615)
    (hs : valW qh ql ≤ valW ph pl) (w : World) :
    Calls Tryz.prog 125 #[.agg #[.int .u64 ph, .int .u64 pl], .agg #[.int .u64 qh, .int .u64 ql]] w fun e w' =>
      e = .returned (.agg #[.int .u64 (hiW (valW ph pl - valW qh ql)), .int .u64 (loW (valW ph pl - valW qh ql))]) ∧ Below w.heap.size w w' := by
  have e1 : hiW (valW ph pl - valW qh ql) = loW (ph - qh - bor pl ql) := by unfold valW hiW loW bor at *; split <;> omega
  have e2 : loW (valW ph pl - valW qh ql) = loW (pl - ql) := by unfold valW loW; omega
  have c0 := bor_0 pl ql
  have c1 := bor_1 pl ql
  rw [e1, e2]
  clear e1 e2 hs
  go_enter Tryz.func125, Tryz.ntmps125
  go_wp2_with (first | simp only [sub64_0 pl ql h2 h2' h4 h4'] | simp only [sub64 ph qh _ h1 h1' h3 h3' c0 c1])
  simp [bodyPost, results, Tryz.results125, go_sem]
  exact (by repeat (first | with_reducible exact Below.refl _ _ | (with_reducible refine Below.setCell ?_ (by first | exact Nat.le_refl _ | omega | (simp; done) | (simp; omega)) _) | (with_reducible refine Below.alloc ?_ (by first | exact Nat.le_refl _ | omega | (simp; done) | (simp; omega)) _) | with_reducible refine Below.drew ?_ | with_reducible refine bel_drewN ?_ _ | (with_reducible refine bel_by (by with_reducible assumption) (by first | exact Nat.le_refl _ | omega | (simp; done) | (simp; omega)) ?_)))

theorem rless_any (ph pl qh ql : Int) (h1 : 0 ≤ ph) (h1' : ph ≤ 18446744073709551615) (h2 : 0 ≤ pl) (h2' : pl ≤ 18446744073709551615) (h3 : 0 ≤ qh) (h3' : qh ≤ 18446744073709551615) (h4 : 0 ≤ ql) (h4' : ql ≤ 18446744073709551615) (w : World) :
    Calls Tryz.prog 72 #[.agg #[.int .u64 ph, .int .u64 pl], .agg #[.int .u64 qh, .int .u64 ql]] w fun e w' =>
      e = .returned (.bool (decide (valW ph pl < valW qh ql))) ∧ Below w.heap.size w w' := by
  by_cases hl : ph < qh
  · have e1 : decide (valW ph pl < valW qh ql) = true := by unfold valW; simp only [decide_eq_true_eq]; omega
    rw [e1]; clear e1
    go_enter Tryz.func72, Tryz.ntmps72
    go_wp2
    go_ret
    exact ⟨rfl, (by repeat (first | with_reducible exact Below.refl _ _ | (with_reducible refine Below.setCell ?_ (by first | exact Nat.le_refl _ | omega | (simp; done) | (simp; omega)) _) | (with_reducible refine Below.alloc ?_ (by first | exact Nat.le_refl _ | omega | (simp; done) | (simp; omega)) _) | with_reducible refine Below.drew ?_ | with_reducible refine bel_drewN ?_ _ | (with_reducible refine bel_by (by with_reducible assumption) (by first | exact Nat.le_refl _ | omega | (simp; done) | (simp; omega)) ?_)))⟩
  · by_cases hh : ph = qh
    · subst hh
      have e1 : decide (valW ph pl < valW ph ql) = decide (pl < ql) := by unfold valW; simp only [decide_eq_decide]; omega
      rw [e1]; clear e1 hl
      go_enter Tryz.func72, Tryz.ntmps72
      go_wp2
      go_ret
      exact ⟨rfl, (by repeat (first | with_reducible exact Below.refl _ _ | (with_reducible refine Below.setCell ?_ (by first | exact Nat.le_refl _ | omega | (simp; done) | (simp; omega)) _) | (with_reducible refine Below.alloc ?_ (by first | exact Nat.le_refl _ | omega | (simp; done) | (simp; omega)) _) | with_reducible refine Below.drew ?_ | with_reducible refine bel_drewN ?_ _ | (with_reducible refine bel_by (by with_reducible assumption) (by first | exact Nat.le_refl _ | omega | (simp; done) | (simp; omega)) ?_)))⟩
    · have e1 : decide (valW ph pl < valW qh ql) = false := by unfold valW; simp only [decide_eq_false_iff_not]; omega
      rw [e1]; clear e1
      have t1 : (ph == qh) = false := by simpa using hh
      clear hh
      go_enter Tryz.func72, Tryz.ntmps72
      go_wp2
      go_ret
      exact ⟨rfl, (by repeat (first | with_reducible exact Below.refl _ _ | (with_reducible refine Below.setCell ?_ (by first | exact Nat.le_refl _ | omega | (simp; done) | (simp; omega)) _) | (with_reducible refine Below.alloc ?_ (by first | exact Nat.le_refl _ | omega | (simp; done) | (simp; omega)) _) | with_reducible refine Below.drew ?_ | with_reducible refine bel_drewN ?_ _ | (with_reducible refine bel_by (by with_reducible assumption) (by first | exact Nat.le_refl _ | omega | (simp; done) | (simp; omega)) ?_)))⟩

theorem rsize_any (n : Int) (h1 : -9223372036854775808 ≤ n) (h2 : n ≤ 9223372036854775807) (w : World) :
    Calls Tryz.prog 71 #[.int .i64 n] w fun e w' => e = .returned (.int .u64 (absI n)) ∧ w = w' := by
  by_cases hn : n < 0
  · rw [absI_neg hn]
    go_enter Tryz.func71, Tryz.ntmps71
    go_wp2
    go_ret
    refine ⟨?_, rfl⟩
    show Ending.returned (Value.int .u64 _) = _
    rw [show -(n + 1) + 1 = -n from by omega]
  · rw [absI_pos (by omega)]
    go_enter Tryz.func71, Tryz.ntmps71
    go_wp2
    go_ret
    exact ⟨rfl, rfl⟩
end Go.Proofs.YtigibomcaecbdaaGreat
/- Plain arithmetic of a long division, bit by bit. -/
namespace Go.Proofs.YtigibomcaecbdaaGreat
namespace Ld

/-- a round of the long division -/
theorem step (P bit b : Int) (hb : 0 < b) (h0 : 0 ≤ bit) (h1 : bit ≤ 1) :
    (P % b * 2 + bit < b → (P * 2 + bit) / b = P / b * 2 ∧ (P * 2 + bit) % b = P % b * 2 + bit) ∧
    (¬ P % b * 2 + bit < b → (P * 2 + bit) / b = P / b * 2 + 1 ∧ (P * 2 + bit) % b = P % b * 2 + bit - b) := by
  have e := Int.emod_add_mul_ediv P b
  have m0 := Int.emod_nonneg P (show b ≠ 0 by omega)
  have m1 := Int.emod_lt_of_pos P hb
  have key : ∀ q r : Int, P * 2 + bit = r + b * q → 0 ≤ r → r < b → (P * 2 + bit) / b = q ∧ (P * 2 + bit) % b = r := by
    intro q r h hr hr'
    rw [h]
    exact ⟨by rw [Int.add_mul_ediv_left _ _ (by omega), Int.ediv_eq_zero_of_lt hr hr']; omega, by rw [Int.add_mul_emod_self_left, Int.emod_eq_of_lt hr hr']⟩
  constructor
  · intro h
    exact key _ _ (by rw [← Int.mul_assoc]; omega) (by omega) h
  · intro h
    exact key _ _ (by rw [Int.mul_add, ← Int.mul_assoc]; omega) (by omega) (by omega)

/-- the bit number i of a number of two words -/
theorem bit_lo (ah al : Int) (i : Nat) (hi : i < 64) : (ah * 18446744073709551616 + al) / 2 ^ i = (ah * 18446744073709551616 + al) / 2 ^ (i + 1) * 2 + al / 2 ^ i % 2 := by
  have hp : (0 : Int) < 2 ^ i := Int.pow_pos (by decide)
  have e1 : (ah * 18446744073709551616 + al) / 2 ^ i = ah * 2 ^ (64 - i) + al / 2 ^ i := by
    rw [show (18446744073709551616 : Int) = 2 ^ (64 - i) * 2 ^ i from by rw [← Int.pow_add, show 64 - i + i = 64 from by omega]; rfl, ← Int.mul_assoc, Int.add_comm, Int.add_mul_ediv_right _ _ (by omega), Int.add_comm]
  have e2 : (2 : Int) ^ (64 - i) = 2 ^ (63 - i) * 2 := by rw [show 64 - i = (63 - i) + 1 from by omega, Int.pow_succ]
  rw [Int.pow_succ, ← Int.ediv_ediv_of_nonneg (by omega), e1, e2, ← Int.mul_assoc]
  omega
theorem bit_hi (ah al : Int) (i : Nat) (h0 : 0 ≤ al) (h1 : al ≤ 18446744073709551615) (hi : 64 ≤ i) : (ah * 18446744073709551616 + al) / 2 ^ i = (ah * 18446744073709551616 + al) / 2 ^ (i + 1) * 2 + ah / 2 ^ (i - 64) % 2 := by
  have e : ∀ j : Nat, 64 ≤ j → (ah * 18446744073709551616 + al) / 2 ^ j = ah / 2 ^ (j - 64) := by
    intro j hj
    rw [show (2 : Int) ^ j = 18446744073709551616 * 2 ^ (j - 64) from by rw [show (18446744073709551616 : Int) = 2 ^ 64 from rfl, ← Int.pow_add, show 64 + (j - 64) = j from by omega], ← Int.ediv_ediv_of_nonneg (by omega)]
    congr 1
    omega
  rw [e i hi, e (i + 1) (by omega), show i + 1 - 64 = i - 64 + 1 from by omega, Int.pow_succ, ← Int.ediv_ediv_of_nonneg (by have : (0 : Int) < 2 ^ (i - 64) := Int.pow_pos (by decide); omega)]
  omega
end Ld
end Go.Proofs.YtigibomcaecbdaaGreat
/- Contracts of the reference of fractions, second part: the long division. -/
namespace Go.Proofs.YtigibomcaecbdaaGreat
open Go.RowKit Go.Sort

/-- what the variables of the long division hold -/
structure LD (w wr : World) (ah al bh bl q r : Int) : Prop where
  ca0 : wr.cell? ⟨w.heap.size, 0, none⟩ = some (.int .u64 ah)
  ca1 : wr.cell? ⟨w.heap.size, 1, none⟩ = some (.int .u64 al)
  cb0 : wr.cell? ⟨w.heap.size + 1, 0, none⟩ = some (.int .u64 bh)
  cb1 : wr.cell? ⟨w.heap.size + 1, 1, none⟩ = some (.int .u64 bl)
  cx0 : wr.cell? ⟨w.heap.size + 1 + 1, 0, none⟩ = some (.int .u64 0)
  cx1 : wr.cell? ⟨w.heap.size + 1 + 1, 1, none⟩ = some (.int .u64 0)
  cy0 : wr.cell? ⟨w.heap.size + 1 + 1 + 1, 0, none⟩ = some (.int .u64 0)
  cy1 : wr.cell? ⟨w.heap.size + 1 + 1 + 1, 1, none⟩ = some (.int .u64 0)
  cq0 : wr.cell? ⟨w.heap.size + 1 + 1 + 1 + 1, 0, none⟩ = some (.int .u64 (hiW q))
  cq1 : wr.cell? ⟨w.heap.size + 1 + 1 + 1 + 1, 1, none⟩ = some (.int .u64 (loW q))
  cr0 : wr.cell? ⟨w.heap.size + 1 + 1 + 1 + 1 + 1, 0, none⟩ = some (.int .u64 (hiW r))
  cr1 : wr.cell? ⟨w.heap.size + 1 + 1 + 1 + 1 + 1, 1, none⟩ = some (.int .u64 (loW r))
  f20 : wr.frozen? ⟨w.heap.size + 1 + 1, 0, none⟩ = false
  f21 : wr.frozen? ⟨w.heap.size + 1 + 1, 1, none⟩ = false
  f30 : wr.frozen? ⟨w.heap.size + 1 + 1 + 1, 0, none⟩ = false
  f31 : wr.frozen? ⟨w.heap.size + 1 + 1 + 1, 1, none⟩ = false
  f40 : wr.frozen? ⟨w.heap.size + 1 + 1 + 1 + 1, 0, none⟩ = false
  f41 : wr.frozen? ⟨w.heap.size + 1 + 1 + 1 + 1, 1, none⟩ = false
  f50 : wr.frozen? ⟨w.heap.size + 1 + 1 + 1 + 1 + 1, 0, none⟩ = false
  f51 : wr.frozen? ⟨w.heap.size + 1 + 1 + 1 + 1 + 1, 1, none⟩ = false
  hz : w.heap.size + 6 ≤ wr.heap.size
  hw : Below w.heap.size w wr

theorem LD.below {w wr w' : World} {ah al bh bl q r : Int} (L : LD w wr ah al bh bl q r) (hb : Below wr.heap.size wr w') : LD w w' ah al bh bl q r where
  ca0 := (hb.cell (p := ⟨w.heap.size, 0, none⟩) (by have := L.hz; show w.heap.size < wr.heap.size; omega)).trans L.ca0
  ca1 := (hb.cell (p := ⟨w.heap.size, 1, none⟩) (by have := L.hz; show w.heap.size < wr.heap.size; omega)).trans L.ca1
  cb0 := (hb.cell (p := ⟨w.heap.size + 1, 0, none⟩) (by have := L.hz; show w.heap.size + 1 < wr.heap.size; omega)).trans L.cb0
  cb1 := (hb.cell (p := ⟨w.heap.size + 1, 1, none⟩) (by have := L.hz; show w.heap.size + 1 < wr.heap.size; omega)).trans L.cb1
  cx0 := (hb.cell (p := ⟨w.heap.size + 1 + 1, 0, none⟩) (by have := L.hz; show w.heap.size + 1 + 1 < wr.heap.size; omega)).trans L.cx0
  cx1 := (hb.cell (p := ⟨w.heap.size + 1 + 1, 1, none⟩) (by have := L.hz; show w.heap.size + 1 + 1 < wr.heap.size; omega)).trans L.cx1
  cy0 := (hb.cell (p := ⟨w.heap.size + 1 + 1 + 1, 0, none⟩) (by have := L.hz; show w.heap.size + 1 + 1 + 1 < wr.heap.size; omega)).trans L.cy0
  cy1 := (hb.cell (p := ⟨w.heap.size + 1 + 1 + 1, 1, none⟩) (by have := L.hz; show w.heap.size + 1 + 1 + 1 < wr.heap.size; omega)).trans L.cy1
  cq0 := (hb.cell (p := ⟨w.heap.size + 1 + 1 + 1 + 1, 0, none⟩) (by have := L.hz; show w.heap.size + 1 + 1 + 1 + 1 < wr.heap.size; omega)).trans L.cq0
  cq1 := (hb.cell (p := ⟨w.heap.size + 1 + 1 + 1 + 1, 1, none⟩) (by have := L.hz; show w.heap.size + 1 + 1 + 1 + 1 < wr.heap.size; omega)).trans L.cq1
  cr0 := (hb.cell (p := ⟨w.heap.size + 1 + 1 + 1 + 1 + 1, 0, none⟩) (by have := L.hz; show w.heap.size + 1 + 1 + 1 + 1 + 1 < wr.heap.size; omega)).trans L.cr0
  cr1 := (hb.cell (p := ⟨w.heap.size + 1 + 1 + 1 + 1 + 1, 1, none⟩) (by have := L.hz; show w.heap.size + 1 + 1 + 1 + 1 + 1 < wr.heap.size; omega)).trans L.cr1
  f20 := (hb.frozen (p := ⟨w.heap.size + 1 + 1, 0, none⟩) (by have := L.hz; show w.heap.size + 1 + 1 < wr.heap.size; omega)).trans L.f20
  f21 := (hb.frozen (p := ⟨w.heap.size + 1 + 1, 1, none⟩) (by have := L.hz; show w.heap.size + 1 + 1 < wr.heap.size; omega)).trans L.f21
  f30 := (hb.frozen (p := ⟨w.heap.size + 1 + 1 + 1, 0, none⟩) (by have := L.hz; show w.heap.size + 1 + 1 + 1 < wr.heap.size; omega)).trans L.f30
  f31 := (hb.frozen (p := ⟨w.heap.size + 1 + 1 + 1, 1, none⟩) (by have := L.hz; show w.heap.size + 1 + 1 + 1 < wr.heap.size; omega)).trans L.f31
  f40 := (hb.frozen (p := ⟨w.heap.size + 1 + 1 + 1 + 1, 0, none⟩) (by have := L.hz; show w.heap.size + 1 + 1 + 1 + 1 < wr.heap.size; omega)).trans L.f40
  f41 := (hb.frozen (p := ⟨w.heap.size + 1 + 1 + 1 + 1, 1, none⟩) (by have := L.hz; show w.heap.size + 1 + 1 + 1 + 1 < wr.heap.size; omega)).trans L.f41
  f50 := (hb.frozen (p := ⟨w.heap.size + 1 + 1 + 1 + 1 + 1, 0, none⟩) (by have := L.hz; show w.heap.size + 1 + 1 + 1 + 1 + 1 < wr.heap.size; omega)).trans L.f50
  f51 := (hb.frozen (p := ⟨w.heap.size + 1 + 1 + 1 + 1 + 1, 1, none⟩) (by have := L.hz; show w.heap.size + 1 + 1 + 1 + 1 + 1 < wr.heap.size; omega)).trans L.f51
  hz := Nat.le_trans L.hz hb.size
  hw := L.hw.trans (hb.mono L.hw.size)

set_option maxHeartbeats 2000000 in
theorem LD.shift {w wr : World} {ah al bh bl q r : Int} (q' r' : Int) (L : LD w wr ah al bh bl q r) : LD w ((((wr.setCell ⟨w.heap.size + 1 + 1 + 1 + 1 + 1, 0, none⟩ (.int .u64 (hiW r'))).setCell ⟨w.heap.size + 1 + 1 + 1 + 1 + 1, 1, none⟩ (.int .u64 (loW r'))).setCell ⟨w.heap.size + 1 + 1 + 1 + 1, 0, none⟩ (.int .u64 (hiW q'))).setCell ⟨w.heap.size + 1 + 1 + 1 + 1, 1, none⟩ (.int .u64 (loW q'))) ah al bh bl q' r' where
  ca0 := by simp [go_sem, L.ca0, L.ca1, L.cb0, L.cb1, L.cx0, L.cx1, L.cy0, L.cy1, L.cq0, L.cq1, L.cr0, L.cr1, L.f20, L.f21, L.f30, L.f31, L.f40, L.f41, L.f50, L.f51]
  ca1 := by simp [go_sem, L.ca0, L.ca1, L.cb0, L.cb1, L.cx0, L.cx1, L.cy0, L.cy1, L.cq0, L.cq1, L.cr0, L.cr1, L.f20, L.f21, L.f30, L.f31, L.f40, L.f41, L.f50, L.f51]
  cb0 := by simp [go_sem, L.ca0, L.ca1, L.cb0, L.cb1, L.cx0, L.cx1, L.cy0, L.cy1, L.cq0, L.cq1, L.cr0, L.cr1, L.f20, L.f21, L.f30, L.f31, L.f40, L.f41, L.f50, L.f51]
  cb1 := by simp [go_sem, L.ca0, L.ca1, L.cb0, L.cb1, L.cx0, L.cx1, L.cy0, L.cy1, L.cq0, L.cq1, L.cr0, L.cr1, L.f20, L.f21, L.f30, L.f31, L.f40, L.f41, L.f50, L.f51]
  cx0 := by simp [go_sem, L.ca0, L.ca1, L.cb0, L.cb1, L.cx0, L.cx1, L.cy0, L.cy1, L.cq0, L.cq1, L.cr0, L.cr1, L.f20, L.f21, L.f30, L.f31, L.f40, L.f41, L.f50, L.f51]
  cx1 := by simp [go_sem, L.ca0, L.ca1, L.cb0, L.cb1, L.cx0, L.cx1, L.cy0, L.cy1, L.cq0, L.cq1, L.cr0, L.cr1, L.f20, L.f21, L.f30, L.f31, L.f40, L.f41, L.f50, L.f51]
  cy0 := by simp [go_sem, L.ca0, L.ca1, L.cb0, L.cb1, L.cx0, L.cx1, L.cy0, L.cy1, L.cq0, L.cq1, L.cr0, L.cr1, L.f20, L.f21, L.f30, L.f31, L.f40, L.f41, L.f50, L.f51]
  cy1 := by simp [go_sem, L.ca0, L.ca1, L.cb0, L.cb1, L.cx0, L.cx1, L.cy0, L.cy1, L.cq0, L.cq1, L.cr0, L.cr1, L.f20, L.f21, L.f30, L.f31, L.f40, L.f41, L.f50, L.f51]
  cq0 := by simp [go_sem, L.ca0, L.ca1, L.cb0, L.cb1, L.cx0, L.cx1, L.cy0, L.cy1, L.cq0, L.cq1, L.cr0, L.cr1, L.f20, L.f21, L.f30, L.f31, L.f40, L.f41, L.f50, L.f51]
  cq1 := by simp [go_sem, L.ca0, L.ca1, L.cb0, L.cb1, L.cx0, L.cx1, L.cy0, L.cy1, L.cq0, L.cq1, L.cr0, L.cr1, L.f20, L.f21, L.f30, L.f31, L.f40, L.f41, L.f50, L.f51]
  cr0 := by simp [go_sem, L.ca0, L.ca1, L.cb0, L.cb1, L.cx0, L.cx1, L.cy0, L.cy1, L.cq0, L.cq1, L.cr0, L.cr1, L.f20, L.f21, L.f30, L.f31, L.f40, L.f41, L.f50, L.f51]
  cr1 := by simp [go_sem, L.ca0, L.ca1, L.cb0, L.cb1, L.cx0, L.cx1, L.cy0, L.cy1, L.cq0, L.cq1, L.cr0, L.cr1, L.f20, L.f21, L.f30, L.f31, L.f40, L.f41, L.f50, L.f51]
  f20 := by simp [go_sem, L.ca0, L.ca1, L.cb0, L.cb1, L.cx0, L.cx1, L.cy0, L.cy1, L.cq0, L.cq1, L.cr0, L.cr1, L.f20, L.f21, L.f30, L.f31, L.f40, L.f41, L.f50, L.f51]
  f21 := by simp [go_sem, L.ca0, L.ca1, L.cb0, L.cb1, L.cx0, L.cx1, L.cy0, L.cy1, L.cq0, L.cq1, L.cr0, L.cr1, L.f20, L.f21, L.f30, L.f31, L.f40, L.f41, L.f50, L.f51]
  f30 := by simp [go_sem, L.ca0, L.ca1, L.cb0, L.cb1, L.cx0, L.cx1, L.cy0, L.cy1, L.cq0, L.cq1, L.cr0, L.cr1, L.f20, L.f21, L.f30, L.f31, L.f40, L.f41, L.f50, L.f51]
  f31 := by simp [go_sem, L.ca0, L.ca1, L.cb0, L.cb1, L.cx0, L.cx1, L.cy0, L.cy1, L.cq0, L.cq1, L.cr0, L.cr1, L.f20, L.f21, L.f30, L.f31, L.f40, L.f41, L.f50, L.f51]
  f40 := by simp [go_sem, L.ca0, L.ca1, L.cb0, L.cb1, L.cx0, L.cx1, L.cy0, L.cy1, L.cq0, L.cq1, L.cr0, L.cr1, L.f20, L.f21, L.f30, L.f31, L.f40, L.f41, L.f50, L.f51]
  f41 := by simp [go_sem, L.ca0, L.ca1, L.cb0, L.cb1, L.cx0, L.cx1, L.cy0, L.cy1, L.cq0, L.cq1, L.cr0, L.cr1, L.f20, L.f21, L.f30, L.f31, L.f40, L.f41, L.f50, L.f51]
  f50 := by simp [go_sem, L.ca0, L.ca1, L.cb0, L.cb1, L.cx0, L.cx1, L.cy0, L.cy1, L.cq0, L.cq1, L.cr0, L.cr1, L.f20, L.f21, L.f30, L.f31, L.f40, L.f41, L.f50, L.f51]
  f51 := by simp [go_sem, L.ca0, L.ca1, L.cb0, L.cb1, L.cx0, L.cx1, L.cy0, L.cy1, L.cq0, L.cq1, L.cr0, L.cr1, L.f20, L.f21, L.f30, L.f31, L.f40, L.f41, L.f50, L.f51]
  hz := by have := L.hz; simp; omega
  hw := ((((L.hw.setCell (p := ⟨w.heap.size + 1 + 1 + 1 + 1 + 1, 0, none⟩) (show w.heap.size ≤ w.heap.size + 1 + 1 + 1 + 1 + 1 by omega) _).setCell (p := ⟨w.heap.size + 1 + 1 + 1 + 1 + 1, 1, none⟩) (show w.heap.size ≤ w.heap.size + 1 + 1 + 1 + 1 + 1 by omega) _).setCell (p := ⟨w.heap.size + 1 + 1 + 1 + 1, 0, none⟩) (show w.heap.size ≤ w.heap.size + 1 + 1 + 1 + 1 by omega) _).setCell (p := ⟨w.heap.size + 1 + 1 + 1 + 1, 1, none⟩) (show w.heap.size ≤ w.heap.size + 1 + 1 + 1 + 1 by omega) _)

set_option maxHeartbeats 2000000 in
theorem LD.minus {w wr : World} {ah al bh bl q r : Int} (q' r' : Int) (hq : hiW q = hiW q') (L : LD w wr ah al bh bl q r) : LD w (((wr.setCell ⟨w.heap.size + 1 + 1 + 1 + 1 + 1, 0, none⟩ (.int .u64 (hiW r'))).setCell ⟨w.heap.size + 1 + 1 + 1 + 1 + 1, 1, none⟩ (.int .u64 (loW r'))).setCell ⟨w.heap.size + 1 + 1 + 1 + 1, 1, none⟩ (.int .u64 (loW q'))) ah al bh bl q' r' where
  ca0 := by simp [go_sem, L.ca0, L.ca1, L.cb0, L.cb1, L.cx0, L.cx1, L.cy0, L.cy1, L.cq0, L.cq1, L.cr0, L.cr1, L.f20, L.f21, L.f30, L.f31, L.f40, L.f41, L.f50, L.f51]
  ca1 := by simp [go_sem, L.ca0, L.ca1, L.cb0, L.cb1, L.cx0, L.cx1, L.cy0, L.cy1, L.cq0, L.cq1, L.cr0, L.cr1, L.f20, L.f21, L.f30, L.f31, L.f40, L.f41, L.f50, L.f51]
  cb0 := by simp [go_sem, L.ca0, L.ca1, L.cb0, L.cb1, L.cx0, L.cx1, L.cy0, L.cy1, L.cq0, L.cq1, L.cr0, L.cr1, L.f20, L.f21, L.f30, L.f31, L.f40, L.f41, L.f50, L.f51]
  cb1 := by simp [go_sem, L.ca0, L.ca1, L.cb0, L.cb1, L.cx0, L.cx1, L.cy0, L.cy1, L.cq0, L.cq1, L.cr0, L.cr1, L.f20, L.f21, L.f30, L.f31, L.f40, L.f41, L.f50, L.f51]
  cx0 := by simp [go_sem, L.ca0, L.ca1, L.cb0, L.cb1, L.cx0, L.cx1, L.cy0, L.cy1, L.cq0, L.cq1, L.cr0, L.cr1, L.f20, L.f21, L.f30, L.f31, L.f40, L.f41, L.f50, L.f51]
  cx1 := by simp [go_sem, L.ca0, L.ca1, L.cb0, L.cb1, L.cx0, L.cx1, L.cy0, L.cy1, L.cq0, L.cq1, L.cr0, L.cr1, L.f20, L.f21, L.f30, L.f31, L.f40, L.f41, L.f50, L.f51]
  cy0 := by simp [go_sem, L.ca0, L.ca1, L.cb0, L.cb1, L.cx0, L.cx1, L.cy0, L.cy1, L.cq0, L.cq1, L.cr0, L.cr1, L.f20, L.f21, L.f30, L.f31, L.f40, L.f41, L.f50, L.f51]
  cy1 := by simp [go_sem, L.ca0, L.ca1, L.cb0, L.cb1, L.cx0, L.cx1, L.cy0, L.cy1, L.cq0, L.cq1, L.cr0, L.cr1, L.f20, L.f21, L.f30, L.f31, L.f40, L.f41, L.f50, L.f51]
  cq0 := by simp [go_sem, L.ca0, L.ca1, L.cb0, L.cb1, L.cx0, L.cx1, L.cy0, L.cy1, L.cq0, L.cq1, L.cr0, L.cr1, L.f20, L.f21, L.f30, L.f31, L.f40, L.f41, L.f50, L.f51, hq]
  cq1 := by simp [go_sem, L.ca0, L.ca1, L.cb0, L.cb1, L.cx0, L.cx1, L.cy0, L.cy1, L.cq0, L.cq1, L.cr0, L.cr1, L.f20, L.f21, L.f30, L.f31, L.f40, L.f41, L.f50, L.f51]
  cr0 := by simp [go_sem, L.ca0, L.ca1, L.cb0, L.cb1, L.cx0, L.cx1, L.cy0, L.cy1, L.cq0, L.cq1, L.cr0, L.cr1, L.f20, L.f21, L.f30, L.f31, L.f40, L.f41, L.f50, L.f51]
  cr1 := by simp [go_sem, L.ca0, L.ca1, L.cb0, L.cb1, L.cx0, L.cx1, L.cy0, L.cy1, L.cq0, L.cq1, L.cr0, L.cr1, L.f20, L.f21, L.f30, L.f31, L.f40, L.f41, L.f50, L.f51]
  f20 := by simp [go_sem, L.ca0, L.ca1, L.cb0, L.cb1, L.cx0, L.cx1, L.cy0, L.cy1, L.cq0, L.cq1, L.cr0, L.cr1, L.f20, L.f21, L.f30, L.f31, L.f40, L.f41, L.f50, L.f51]
  f21 := by simp [go_sem, L.ca0, L.ca1, L.cb0, L.cb1, L.cx0, L.cx1, L.cy0, L.cy1, L.cq0, L.cq1, L.cr0, L.cr1, L.f20, L.f21, L.f30, L.f31, L.f40, L.f41, L.f50, L.f51]
  f30 := by simp [go_sem, L.ca0, L.ca1, L.cb0, L.cb1, L.cx0, L.cx1, L.cy0, L.cy1, L.cq0, L.cq1, L.cr0, L.cr1, L.f20, L.f21, L.f30, L.f31, L.f40, L.f41, L.f50, L.f51]
  f31 := by simp [go_sem, L.ca0, L.ca1, L.cb0, L.cb1, L.cx0, L.cx1, L.cy0, L.cy1, L.cq0, L.cq1, L.cr0, L.cr1, L.f20, L.f21, L.f30, L.f31, L.f40, L.f41, L.f50, L.f51]
  f40 := by simp [go_sem, L.ca0, L.ca1, L.cb0, L.cb1, L.cx0, L.cx1, L.cy0, L.cy1, L.cq0, L.cq1, L.cr0, L.cr1, L.f20, L.f21, L.f30, L.f31, L.f40, L.f41, L.f50, L.f51]
  f41 := by simp [go_sem, L.ca0, L.ca1, L.cb0, L.cb1, L.cx0, L.cx1, L.cy0, L.cy1, L.cq0, L.cq1, L.cr0, L.cr1, L.f20, L.f21, L.f30, L.f31, L.f40, L.f41, L.f50, L.f51]
  f50 := by simp [go_sem, L.ca0, L.ca1, L.cb0, L.cb1, L.cx0, L.cx1, L.cy0, L.cy1, L.cq0, L.cq1, L.cr0, L.cr1, L.f20, L.f21, L.f30, L.f31, L.f40, L.f41, L.f50, L.f51]
  f51 := by simp [go_sem, L.ca0, L.ca1, L.cb0, L.cb1, L.cx0, L.cx1, L.cy0, L.cy1, L.cq0, L.cq1, L.cr0, L.cr1, L.f20, L.f21, L.f30, L.f31, L.f40, L.f41, L.f50, L.f51]
  hz := by have := L.hz; simp; omega
  hw := (((L.hw.setCell (p := ⟨w.heap.size + 1 + 1 + 1 + 1 + 1, 0, none⟩) (show w.heap.size ≤ w.heap.size + 1 + 1 + 1 + 1 + 1 by omega) _).setCell (p := ⟨w.heap.size + 1 + 1 + 1 + 1 + 1, 1, none⟩) (show w.heap.size ≤ w.heap.size + 1 + 1 + 1 + 1 + 1 by omega) _).setCell (p := ⟨w.heap.size + 1 + 1 + 1 + 1, 1, none⟩) (show w.heap.size ≤ w.heap.size + 1 + 1 + 1 + 1 by omega) _)

theorem and_one (x : Int) (h : 0 ≤ x) (h' : x ≤ 18446744073709551615) : bits .and .u64 x 1 = x % 2 := by
  obtain ⟨n, rfl⟩ := Int.eq_ofNat_of_zero_le h
  rw [show (1 : Int) = ((1 : Nat) : Int) from rfl, u64_and_nat _ _ (by omega) (by omega), Nat.and_one_is_mod]
  omega
theorem or_one (x B : Int) (h : 0 ≤ x) (h' : x ≤ 9223372036854775807) (B0 : 0 ≤ B) (B1 : B ≤ 1) : bits .or .u64 (x * 2) B = x * 2 + B := by
  obtain ⟨n, rfl⟩ := Int.eq_ofNat_of_zero_le h
  obtain ⟨m, rfl⟩ := Int.eq_ofNat_of_zero_le B0
  rw [show (n : Int) * 2 = ((n * 2 : Nat) : Int) from by omega, u64_or_nat _ _ (by omega) (by omega)]
  have e : n * 2 ||| m = n * 2 + m := by
    have h2 := Nat.shiftLeft_add_eq_or_of_lt (i := 1) (b := m) (by omega) n
    rw [Nat.shiftLeft_eq] at h2
    simpa using h2.symm
  rw [e]; omega

theorem shl_or {x B : Int} (x0 : 0 ≤ x) (x1 : x < 170141183460469231731687303715884105728) (B0 : 0 ≤ B) (B1 : B ≤ 1) :
    bits .or .u64 (IntKind.u64.wrap (hiW x * 2)) (loW x / 9223372036854775808) = hiW (x * 2 + B) ∧ bits .or .u64 (IntKind.u64.wrap (loW x * 2)) B = loW (x * 2 + B) ∧ IntKind.u64.wrap (loW x * 2) = loW (x * 2) := by
  have e1 : IntKind.u64.wrap (hiW x * 2) = hiW x * 2 := IntWalk.u64_in _ (by unfold hiW; omega)
  have e2 : IntKind.u64.wrap (loW x * 2) = loW x % 9223372036854775808 * 2 := by rw [IntKind.wrap_u64]; unfold loW; omega
  have o1 := or_one (hiW x) (loW x / 9223372036854775808) (by unfold hiW; omega) (by unfold hiW; omega) (by unfold loW; omega) (by unfold loW; omega)
  have o2 := or_one (loW x % 9223372036854775808) B (by omega) (by omega) B0 B1
  rw [e1, e2, o1, o2]
  unfold hiW loW
  omega

set_option maxHeartbeats 8000000 in
set_option maxRecDepth 100000 in
theorem rdivide_any (ah al bh bl : Int) (h1 : 0 ≤ ah) (h1' : ah ≤ 18446744073709551615) (h2 : 0 ≤ al) (h2' : al ≤ 18446744073709551615) (h3 : 0 ≤ bh) (h3' : bh ≤ 9223372036854775807) (h4 : 0 ≤ bl) (h4' : bl ≤ 18446744073709551615)
    (hb : 0 < valW bh bl) (w : World) :
    Calls Tryz.prog 97 #[.agg #[.int .u64 ah, .int .u64 al], .agg #[.int .u64 bh, .int .u64 bl]] w fun e w' =>
      e = .returned (.tuple #[.agg #[.int .u64 (hiW (valW ah al / valW bh bl)), .int .u64 (loW (valW ah al / valW bh bl))], .agg #[.int .u64 (hiW (valW ah al % valW bh bl)), .int .u64 (loW (valW ah al % valW bh bl))]]) ∧ Below w.heap.size w w' := by
  obtain ⟨A, hA⟩ : ∃ A, A = valW ah al := ⟨_, rfl⟩
  obtain ⟨b, hbv⟩ : ∃ b, b = valW bh bl := ⟨_, rfl⟩
  rw [← hA, ← hbv]
  rw [← hbv] at hb
  have b128 : b < 170141183460469231731687303715884105728 := by rw [hbv]; unfold valW; omega
  have HA := Lib.hid hA
  have HB := Lib.hid hbv
  clear hA hbv
  go_enter Tryz.func97, Tryz.ntmps97
  go_wp2_with fail
  go_loopw [8] (fun s8 wr => ∃ (i : Int) (q r : Int), s8 = .int .i64 i ∧ -1 ≤ i ∧ i ≤ 127 ∧ Hid (q = A / 2 ^ (i + 1).toNat / b) ∧ Hid (r = A / 2 ^ (i + 1).toNat % b) ∧ Hid (LD w wr ah al bh bl q r)) (fun s8 _ => (intOf s8 + 1).toNat)
  case atStart =>
    have z0 : A / 2 ^ ((127 : Int) + 1).toNat = 0 := by
      apply Int.ediv_eq_zero_of_lt
      · rw [HA.out]; exact valW_0 h1 h2
      · rw [HA.out]; exact valW_1 h1' h2'
    have y0 : Hid ((0 : Int) = A / 2 ^ ((127 : Int) + 1).toNat / b) := Lib.hid (by rw [z0]; simp)
    have y1 : Hid ((0 : Int) = A / 2 ^ ((127 : Int) + 1).toNat % b) := Lib.hid (by rw [z0]; simp)
    refine ⟨127, 0, 0, rfl, by omega, by omega, y0, y1, Lib.hid ?_⟩
    exact ⟨by simp [go_sem], by simp [go_sem], by simp [go_sem], by simp [go_sem], by simp [go_sem], by simp [go_sem], by simp [go_sem], by simp [go_sem], by simp [go_sem]; rfl, by simp [go_sem]; rfl, by simp [go_sem]; rfl, by simp [go_sem]; rfl, by simp [go_sem], by simp [go_sem], by simp [go_sem], by simp [go_sem], by simp [go_sem], by simp [go_sem], by simp [go_sem], by simp [go_sem], by simp, (by repeat (first | with_reducible exact Below.refl _ _ | (with_reducible refine Below.setCell ?_ (by first | exact Nat.le_refl _ | omega | (simp; done) | (simp; omega)) _) | (with_reducible refine Below.alloc ?_ (by first | exact Nat.le_refl _ | omega | (simp; done) | (simp; omega)) _) | with_reducible refine Below.drew ?_ | with_reducible refine bel_drewN ?_ _ | (with_reducible refine bel_by (by with_reducible assumption) (by first | exact Nat.le_refl _ | omega | (simp; done) | (simp; omega)) ?_)))⟩
  case round =>
    obtain ⟨i, q, r, rfl, i0, i1, HQ, HR, HL⟩ := hrel
    by_cases hi : i = -1
    · subst hi
      have L := HL.out
      have ca0 := L.ca0
      have ca1 := L.ca1
      have cb0 := L.cb0
      have cb1 := L.cb1
      have cx0 := L.cx0
      have cx1 := L.cx1
      have cy0 := L.cy0
      have cy1 := L.cy1
      have cq0 := L.cq0
      have cq1 := L.cq1
      have cr0 := L.cr0
      have cr1 := L.cr1
      have f20 := L.f20
      have f21 := L.f21
      have f30 := L.f30
      have f31 := L.f31
      have f40 := L.f40
      have f41 := L.f41
      have f50 := L.f50
      have f51 := L.f51
      have hW := L.hw
      have hzw := L.hz
      clear L
      have e0 : q = A / b := by rw [HQ.out]; simp
      have e1 : r = A % b := by rw [HR.out]; simp
      have E0 := Lib.hid e0
      have E1 := Lib.hid e1
      clear e0 e1
      go_wp2_with fail
      go_region
      all_goals
        go_wp2
        refine bodyPost_ret (v := .tuple #[.agg #[.int .u64 (hiW q), .int .u64 (loW q)], .agg #[.int .u64 (hiW r), .int .u64 (loW r)]]) (by simp [results, Tryz.results97, go_sem, ca0, ca1, cb0, cb1, cx0, cx1, cy0, cy1, cq0, cq1, cr0, cr1, f20, f21, f30, f31, f40, f41, f50, f51]) rfl ⟨by rw [← E0.out, ← E1.out], (by repeat (first | with_reducible exact Below.refl _ _ | (with_reducible refine Below.setCell ?_ (by first | exact Nat.le_refl _ | omega | (simp; done) | (simp; omega)) _) | (with_reducible refine Below.alloc ?_ (by first | exact Nat.le_refl _ | omega | (simp; done) | (simp; omega)) _) | with_reducible refine Below.drew ?_ | with_reducible refine bel_drewN ?_ _ | (with_reducible refine bel_by (by with_reducible assumption) (by first | exact Nat.le_refl _ | omega | (simp; done) | (simp; omega)) ?_)))⟩
    · have r0 : 0 ≤ r := by rw [HR.out]; exact Int.emod_nonneg _ (by omega)
      have r1 : r < b := by rw [HR.out]; exact Int.emod_lt_of_pos _ hb
      have i2 : 0 ≤ i := by omega
      clear i0 hi
      obtain ⟨n, rfl⟩ := Int.eq_ofNat_of_zero_le i2
      have A0 : 0 ≤ A := by rw [HA.out]; exact valW_0 h1 h2
      have A1 : A < B128 := by rw [HA.out]; exact valW_1 h1' h2'
      have q0 : 0 ≤ q := by rw [HQ.out]; exact Int.ediv_nonneg (Int.ediv_nonneg A0 (Int.le_of_lt (Int.pow_pos (by decide)))) (by omega)
      have q1 : q < 170141183460469231731687303715884105728 := by
        rw [HQ.out]
        refine Int.lt_of_le_of_lt (Int.ediv_le_self _ (Int.ediv_nonneg A0 (Int.le_of_lt (Int.pow_pos (by decide))))) ?_
        rw [show ((n : Int) + 1).toNat = n + 1 from by omega, Int.pow_succ, ← Int.ediv_ediv_of_nonneg (Int.le_of_lt (Int.pow_pos (by decide)))]
        have : A / 2 ^ n ≤ A := Int.ediv_le_self _ A0
        unfold B128 at A1
        omega
      have ways : ∃ B : Int, Hid (A / 2 ^ n = A / 2 ^ (n + 1) * 2 + B) ∧ 0 ≤ B ∧ B ≤ 1 ∧ ((n : Int) < 64 ∧ bits .and .u64 (al / 2 ^ (n % 64)) 1 = B ∨ 64 ≤ (n : Int) ∧ bits .and .u64 (ah / 2 ^ (n % 64)) 1 = B) := by
        by_cases t : n < 64
        · refine ⟨al / 2 ^ n % 2, Lib.hid ?_, by omega, by omega, .inl ⟨by omega, ?_⟩⟩
          · rw [HA.out]; exact Ld.bit_lo ah al n t
          · rw [Nat.mod_eq_of_lt t]; exact and_one _ (Int.ediv_nonneg h2 (Int.le_of_lt (Int.pow_pos (by decide)))) (Int.le_trans (Int.ediv_le_self _ h2) h2')
        · refine ⟨ah / 2 ^ (n - 64) % 2, Lib.hid ?_, by omega, by omega, .inr ⟨by omega, ?_⟩⟩
          · rw [HA.out]; exact Ld.bit_hi ah al n h2 h2' (by omega)
          · rw [show n % 64 = n - 64 from by omega]; exact and_one _ (Int.ediv_nonneg h1 (Int.le_of_lt (Int.pow_pos (by decide)))) (Int.le_trans (Int.ediv_le_self _ h1) h1')
      obtain ⟨Bt, HBit, B0, B1, ways⟩ := ways
      obtain ⟨R1, R2, -⟩ := shl_or r0 (show r < 170141183460469231731687303715884105728 by omega) B0 B1
      obtain ⟨R3, -, R4⟩ := shl_or q0 q1 (Int.le_refl 0) (show (0 : Int) ≤ 1 by decide)
      rw [Int.add_zero] at R3
      obtain ⟨st1, st2⟩ := Ld.step (A / 2 ^ (n + 1)) Bt b hb B0 B1
      have en : ((n : Int) + 1).toNat = n + 1 := by omega
      have en2 : ((n : Int) - 1 + 1).toNat = n := by omega
      rw [← HBit.out, show A / 2 ^ (n + 1) % b = r from by rw [HR.out, en], show A / 2 ^ (n + 1) / b = q from by rw [HQ.out, en]] at st1 st2
      have HL2 := Lib.hid (HL.out.shift (q * 2) (r * 2 + Bt))
      have rr0 : 0 ≤ r * 2 + Bt := by omega
      have rr1 : r * 2 + Bt < B128 := by unfold B128; omega
      have rr2 : r * 2 + Bt < b * 2 := by omega
      have qq1 : hiW (q * 2) = hiW (q * 2 + 1) ∧ bits .or .u64 (loW (q * 2)) 1 = loW (q * 2 + 1) := by
        have o := or_one (q % 9223372036854775808) 1 (by omega) (by omega) (by decide) (by decide)
        rw [show q % 9223372036854775808 * 2 = loW (q * 2) from by unfold loW; omega] at o
        rw [o]
        unfold hiW loW
        omega
      generalize r * 2 + Bt = rr at *
      generalize q * 2 = qq at *
      have ST1 := Lib.hid st1
      have ST2 := Lib.hid st2
      obtain ⟨qq1, R5⟩ := qq1
      have QQ1 := Lib.hid qq1
      have bh0 : hiW b = bh := by rw [HB.out]; exact hiW_valW h4 h4'
      have bl0 : loW b = bl := by rw [HB.out]; exact loW_valW h4 h4'
      have LS := Lib.hid (fun W => rless_any (hiW rr) (loW rr) bh bl (hiW_0 rr0) (hiW_1 rr1) (loW_0 _) (loW_1 _) h3 (by omega) h4 h4' W)
      have MN := Lib.hid (fun (h : b ≤ rr) W => rminus_any (hiW rr) (loW rr) bh bl (hiW_0 rr0) (hiW_1 rr1) (loW_0 _) (loW_1 _) h3 (by omega) h4 h4' (by rw [valW_words, ← HB.out]; exact h) W)
      rw [valW_words, ← HB.out] at LS MN
      clear st1 st2 en en2 qq1 bh0 bl0 rr0 rr1 rr2 q0 q1 r0 r1 A0 A1 b128 B0 B1
      have L := HL.out
      have ca0 := L.ca0
      have ca1 := L.ca1
      have cb0 := L.cb0
      have cb1 := L.cb1
      have cx0 := L.cx0
      have cx1 := L.cx1
      have cy0 := L.cy0
      have cy1 := L.cy1
      have cq0 := L.cq0
      have cq1 := L.cq1
      have cr0 := L.cr0
      have cr1 := L.cr1
      have f20 := L.f20
      have f21 := L.f21
      have f30 := L.f30
      have f31 := L.f31
      have f40 := L.f40
      have f41 := L.f41
      have f50 := L.f50
      have f51 := L.f51
      clear L
      by_cases hlt : rr < b
      · rw [show decide (rr < b) = true from by simpa using hlt] at LS
        have HST := Lib.hid (ST1.out hlt)
        clear MN R5
        have HLT := Lib.hid hlt
        clear hlt
        rcases ways with ⟨t, E⟩ | ⟨t, E⟩
        all_goals
          go_upto_region 10 with fail
          clear ca0 ca1 cb0 cb1 cx0 cx1 cy0 cy1 cq0 cq1 cr0 cr1 f20 f21 f30 f31 f40 f41 f50 f51
          have L := HL2.out
          have ca0 := L.ca0
          have ca1 := L.ca1
          have cb0 := L.cb0
          have cb1 := L.cb1
          have cx0 := L.cx0
          have cx1 := L.cx1
          have cy0 := L.cy0
          have cy1 := L.cy1
          have cq0 := L.cq0
          have cq1 := L.cq1
          have cr0 := L.cr0
          have cr1 := L.cr1
          have f20 := L.f20
          have f21 := L.f21
          have f30 := L.f30
          have f31 := L.f31
          have f40 := L.f40
          have f41 := L.f41
          have f50 := L.f50
          have f51 := L.f51
          have hzr := L.hz
          generalize ((((wr.setCell ⟨w.heap.size + 1 + 1 + 1 + 1 + 1, 0, none⟩ (.int .u64 (hiW rr))).setCell ⟨w.heap.size + 1 + 1 + 1 + 1 + 1, 1, none⟩ (.int .u64 (loW rr))).setCell ⟨w.heap.size + 1 + 1 + 1 + 1, 0, none⟩ (.int .u64 (hiW qq))).setCell ⟨w.heap.size + 1 + 1 + 1 + 1, 1, none⟩ (.int .u64 (loW qq))) = wD at L ca0 ca1 cb0 cb1 cx0 cx1 cy0 cy1 cq0 cq1 cr0 cr1 f20 f21 f30 f31 f40 f41 f50 f51 hzr ⊢
          have HL3 := Lib.hid L
          clear L
          go_wp2_with fail
          refine (LS.out _).mono ?_
          rintro e w7 ⟨rfl, hb7⟩
          have L7 := Lib.hid (HL3.out.below hb7)
          clear HL3 ca0 ca1 cb0 cb1 cx0 cx1 cy0 cy1 cq0 cq1 cr0 cr1 f20 f21 f30 f31 f40 f41 f50 f51 hzr hb7
          go_wp2
          go_roundw
          case rel => exact ⟨(n : Int) - 1, qq, rr, rfl, by omega, by omega, Lib.hid (by rw [show ((n : Int) - 1 + 1).toNat = n from by omega, HST.out.1]), Lib.hid (by rw [show ((n : Int) - 1 + 1).toNat = n from by omega, HST.out.2]), L7⟩
          case measure => first | (simp [intOf]; done) | (simp [intOf]; omega)
      · rw [show decide (rr < b) = false from by simpa using hlt] at LS
        have HST := Lib.hid (ST2.out hlt)
        have MN2 := Lib.hid (MN.out (by omega))
        clear MN
        have HLT := Lib.hid hlt
        clear hlt
        rcases ways with ⟨t, E⟩ | ⟨t, E⟩
        all_goals
          go_upto_region 10 with fail
          clear ca0 ca1 cb0 cb1 cx0 cx1 cy0 cy1 cq0 cq1 cr0 cr1 f20 f21 f30 f31 f40 f41 f50 f51
          have L := HL2.out
          have ca0 := L.ca0
          have ca1 := L.ca1
          have cb0 := L.cb0
          have cb1 := L.cb1
          have cx0 := L.cx0
          have cx1 := L.cx1
          have cy0 := L.cy0
          have cy1 := L.cy1
          have cq0 := L.cq0
          have cq1 := L.cq1
          have cr0 := L.cr0
          have cr1 := L.cr1
          have f20 := L.f20
          have f21 := L.f21
          have f30 := L.f30
          have f31 := L.f31
          have f40 := L.f40
          have f41 := L.f41
          have f50 := L.f50
          have f51 := L.f51
          have hzr := L.hz
          generalize ((((wr.setCell ⟨w.heap.size + 1 + 1 + 1 + 1 + 1, 0, none⟩ (.int .u64 (hiW rr))).setCell ⟨w.heap.size + 1 + 1 + 1 + 1 + 1, 1, none⟩ (.int .u64 (loW rr))).setCell ⟨w.heap.size + 1 + 1 + 1 + 1, 0, none⟩ (.int .u64 (hiW qq))).setCell ⟨w.heap.size + 1 + 1 + 1 + 1, 1, none⟩ (.int .u64 (loW qq))) = wD at L ca0 ca1 cb0 cb1 cx0 cx1 cy0 cy1 cq0 cq1 cr0 cr1 f20 f21 f30 f31 f40 f41 f50 f51 hzr ⊢
          have HL3 := Lib.hid L
          clear L
          go_wp2_with fail
          refine (LS.out _).mono ?_
          rintro e w7 ⟨rfl, hb7⟩
          have L7 := HL3.out.below hb7
          clear HL3 ca0 ca1 cb0 cb1 cx0 cx1 cy0 cy1 cq0 cq1 cr0 cr1 f20 f21 f30 f31 f40 f41 f50 f51 hzr hb7
          have L := L7
          have ca0 := L.ca0
          have ca1 := L.ca1
          have cb0 := L.cb0
          have cb1 := L.cb1
          have cx0 := L.cx0
          have cx1 := L.cx1
          have cy0 := L.cy0
          have cy1 := L.cy1
          have cq0 := L.cq0
          have cq1 := L.cq1
          have cr0 := L.cr0
          have cr1 := L.cr1
          have f20 := L.f20
          have f21 := L.f21
          have f30 := L.f30
          have f31 := L.f31
          have f40 := L.f40
          have f41 := L.f41
          have f50 := L.f50
          have f51 := L.f51
          have hzr := L.hz
          have HL7 := Lib.hid L7
          clear L L7
          go_wp2_with fail
          refine (MN2.out _).mono ?_
          rintro e w8 ⟨rfl, hb8⟩
          have L8 := HL7.out.below hb8
          clear HL7 ca0 ca1 cb0 cb1 cx0 cx1 cy0 cy1 cq0 cq1 cr0 cr1 f20 f21 f30 f31 f40 f41 f50 f51 hzr hb8
          have L := L8
          have ca0 := L.ca0
          have ca1 := L.ca1
          have cb0 := L.cb0
          have cb1 := L.cb1
          have cx0 := L.cx0
          have cx1 := L.cx1
          have cy0 := L.cy0
          have cy1 := L.cy1
          have cq0 := L.cq0
          have cq1 := L.cq1
          have cr0 := L.cr0
          have cr1 := L.cr1
          have f20 := L.f20
          have f21 := L.f21
          have f30 := L.f30
          have f31 := L.f31
          have f40 := L.f40
          have f41 := L.f41
          have f50 := L.f50
          have f51 := L.f51
          have hzr := L.hz
          have HL8 := Lib.hid L8
          clear L L8
          go_wp2
          go_roundw
          case rel => exact ⟨(n : Int) - 1, qq + 1, rr - b, rfl, by omega, by omega, Lib.hid (by rw [show ((n : Int) - 1 + 1).toNat = n from by omega, HST.out.1]), Lib.hid (by rw [show ((n : Int) - 1 + 1).toNat = n from by omega, HST.out.2]), Lib.hid (HL8.out.minus (qq + 1) (rr - b) QQ1.out)⟩
          case measure => first | (simp [intOf]; done) | (simp [intOf]; omega)
end Go.Proofs.YtigibomcaecbdaaGreat
/- Contracts of the reference of fractions, third part: divisor. -/
namespace Go.Proofs.YtigibomcaecbdaaGreat
open Go.RowKit Go.Sort

theorem gcdI_symm_zero (a : Int) (h : 0 ≤ a) : gcdI a 0 = a := gcdI_zero a h

/-- what the variables of Euclid's loop hold -/
structure RD (w wr : World) (x y : Int) : Prop where
  x0 : wr.cell? ⟨w.heap.size, 0, none⟩ = some (.int .u64 (hiW x))
  x1 : wr.cell? ⟨w.heap.size, 1, none⟩ = some (.int .u64 (loW x))
  y0 : wr.cell? ⟨w.heap.size + 1, 0, none⟩ = some (.int .u64 (hiW y))
  y1 : wr.cell? ⟨w.heap.size + 1, 1, none⟩ = some (.int .u64 (loW y))
  z0 : wr.cell? ⟨w.heap.size + 1 + 1, 0, none⟩ = some (.int .u64 0)
  z1 : wr.cell? ⟨w.heap.size + 1 + 1, 1, none⟩ = some (.int .u64 0)
  f00 : wr.frozen? ⟨w.heap.size, 0, none⟩ = false
  f01 : wr.frozen? ⟨w.heap.size, 1, none⟩ = false
  f10 : wr.frozen? ⟨w.heap.size + 1, 0, none⟩ = false
  f11 : wr.frozen? ⟨w.heap.size + 1, 1, none⟩ = false
  f20 : wr.frozen? ⟨w.heap.size + 1 + 1, 0, none⟩ = false
  f21 : wr.frozen? ⟨w.heap.size + 1 + 1, 1, none⟩ = false
  hz : w.heap.size + 3 ≤ wr.heap.size
  hw : Below w.heap.size w wr

theorem RD.below {w wr w' : World} {x y : Int} (L : RD w wr x y) (hb : Below wr.heap.size wr w') : RD w w' x y where
  x0 := (hb.cell (p := ⟨w.heap.size, 0, none⟩) (by have := L.hz; show w.heap.size < wr.heap.size; omega)).trans L.x0
  x1 := (hb.cell (p := ⟨w.heap.size, 1, none⟩) (by have := L.hz; show w.heap.size < wr.heap.size; omega)).trans L.x1
  y0 := (hb.cell (p := ⟨w.heap.size + 1, 0, none⟩) (by have := L.hz; show w.heap.size + 1 < wr.heap.size; omega)).trans L.y0
  y1 := (hb.cell (p := ⟨w.heap.size + 1, 1, none⟩) (by have := L.hz; show w.heap.size + 1 < wr.heap.size; omega)).trans L.y1
  z0 := (hb.cell (p := ⟨w.heap.size + 1 + 1, 0, none⟩) (by have := L.hz; show w.heap.size + 1 + 1 < wr.heap.size; omega)).trans L.z0
  z1 := (hb.cell (p := ⟨w.heap.size + 1 + 1, 1, none⟩) (by have := L.hz; show w.heap.size + 1 + 1 < wr.heap.size; omega)).trans L.z1
  f00 := (hb.frozen (p := ⟨w.heap.size, 0, none⟩) (by have := L.hz; show w.heap.size < wr.heap.size; omega)).trans L.f00
  f01 := (hb.frozen (p := ⟨w.heap.size, 1, none⟩) (by have := L.hz; show w.heap.size < wr.heap.size; omega)).trans L.f01
  f10 := (hb.frozen (p := ⟨w.heap.size + 1, 0, none⟩) (by have := L.hz; show w.heap.size + 1 < wr.heap.size; omega)).trans L.f10
  f11 := (hb.frozen (p := ⟨w.heap.size + 1, 1, none⟩) (by have := L.hz; show w.heap.size + 1 < wr.heap.size; omega)).trans L.f11
  f20 := (hb.frozen (p := ⟨w.heap.size + 1 + 1, 0, none⟩) (by have := L.hz; show w.heap.size + 1 + 1 < wr.heap.size; omega)).trans L.f20
  f21 := (hb.frozen (p := ⟨w.heap.size + 1 + 1, 1, none⟩) (by have := L.hz; show w.heap.size + 1 + 1 < wr.heap.size; omega)).trans L.f21
  hz := Nat.le_trans L.hz hb.size
  hw := L.hw.trans (hb.mono L.hw.size)

set_option maxHeartbeats 8000000 in
set_option maxRecDepth 100000 in
theorem rdivisor_any (a b : Int) (h1 : 0 ≤ a) (h1' : a < 170141183460469231731687303715884105728) (h2 : 0 ≤ b) (h2' : b < 170141183460469231731687303715884105728) (w : World) :
    Calls Tryz.prog 77 #[.agg #[.int .u64 (hiW a), .int .u64 (loW a)], .agg #[.int .u64 (hiW b), .int .u64 (loW b)]] w fun e w' =>
      e = .returned (.agg #[.int .u64 (hiW (gcdI a b)), .int .u64 (loW (gcdI a b))]) ∧ Below w.heap.size w w' := by
  go_enter Tryz.func77, Tryz.ntmps77
  go_wp2_with fail
  go_loopg [5] b.toNat (fun g s5 wr => ∃ x y : Int, 0 ≤ x ∧ x < 170141183460469231731687303715884105728 ∧ 0 ≤ y ∧ y < 170141183460469231731687303715884105728 ∧ y.toNat = g ∧ Hid (gcdI x y = gcdI a b) ∧ Hid (RD w wr x y))
  case atStart =>
    refine ⟨a, b, h1, h1', h2, h2', rfl, Lib.hid rfl, Lib.hid ?_⟩
    exact ⟨by simp [go_sem], by simp [go_sem], by simp [go_sem], by simp [go_sem], by simp [go_sem], by simp [go_sem], by simp [go_sem], by simp [go_sem], by simp [go_sem], by simp [go_sem], by simp [go_sem], by simp [go_sem], by simp, (by repeat (first | with_reducible exact Below.refl _ _ | (with_reducible refine Below.setCell ?_ (by first | exact Nat.le_refl _ | omega | (simp; done) | (simp; omega)) _) | (with_reducible refine Below.alloc ?_ (by first | exact Nat.le_refl _ | omega | (simp; done) | (simp; omega)) _) | with_reducible refine Below.drew ?_ | with_reducible refine bel_drewN ?_ _ | (with_reducible refine bel_by (by with_reducible assumption) (by first | exact Nat.le_refl _ | omega | (simp; done) | (simp; omega)) ?_)))⟩
  case round =>
    obtain ⟨x, y, x0, x1, y0, y1, hg, HG, HR⟩ := hrel
    have hgk := Lib.hid hg
    clear hg
    have L := HR.out
    have c0 := L.x0
    have c1 := L.x1
    have c2 := L.y0
    have c3 := L.y1
    have c4 := L.z0
    have c5 := L.z1
    have f0 := L.f00
    have f1 := L.f01
    have f2 := L.f10
    have f3 := L.f11
    have f4 := L.f20
    have f5 := L.f21
    have hz := L.hz
    have hW := L.hw
    clear L
    by_cases hy : y = 0
    · subst hy
      have e0 : hiW 0 = 0 := rfl
      have e1 : loW 0 = 0 := rfl
      have hx : x = gcdI a b := by rw [← HG.out, gcdI_zero x x0]
      have HX := Lib.hid hx
      clear hx
      go_wp2
      refine bodyPost_ret (v := .agg #[.int .u64 (hiW x), .int .u64 (loW x)]) (by simp [results, Tryz.results77, go_sem, c0, c1, c4, c5, f4, f5]) rfl ⟨by rw [← HX.out], (by repeat (first | with_reducible exact Below.refl _ _ | (with_reducible refine Below.setCell ?_ (by first | exact Nat.le_refl _ | omega | (simp; done) | (simp; omega)) _) | (with_reducible refine Below.alloc ?_ (by first | exact Nat.le_refl _ | omega | (simp; done) | (simp; omega)) _) | with_reducible refine Below.drew ?_ | with_reducible refine bel_drewN ?_ _ | (with_reducible refine bel_by (by with_reducible assumption) (by first | exact Nat.le_refl _ | omega | (simp; done) | (simp; omega)) ?_)))⟩
    · have y2 : 0 < y := by omega
      have hv : valW (hiW y) (loW y) = y := valW_words y
      have DV := Lib.hid (fun W => rdivide_any (hiW x) (loW x) (hiW y) (loW y) (hiW_0 x0) (hiW_1 (by unfold B128; omega)) (loW_0 x) (loW_1 x) (hiW_0 y0) (by unfold hiW; omega) (loW_0 y) (loW_1 y) (by rw [valW_words]; exact y2) W)
      rw [valW_words, valW_words] at DV
      clear hv
      have m0 : 0 ≤ x % y := Int.emod_nonneg _ hy
      have m1 : x % y < y := Int.emod_lt_of_pos _ y2
      have ty : (hiW y == 0) = false ∨ ((hiW y == 0) = true ∧ (loW y == 0) = false) := by
        by_cases h : hiW y = 0
        · refine .inr ⟨by simpa using h, ?_⟩
          simp
          intro h'
          exact hy (by rw [← valW_words y, h, h']; rfl)
        · exact .inl (by simpa using h)
      have HGS := Lib.hid (gcdI_step x y x0 y2)
      clear hy
      have Y0 : 0 ≤ x % y ∧ x % y < 170141183460469231731687303715884105728 := ⟨m0, by omega⟩
      rcases ty with t | ⟨t, t'⟩
      all_goals
        go_wp2_with fail
        refine (DV.out _).mono ?_
        rintro e w7 ⟨rfl, hb7⟩
        have L7 := HR.out.below hb7
        clear c0 c1 c2 c3 c4 c5 f0 f1 f2 f3 f4 f5 hz hW hb7
        have HL7 := Lib.hid L7
        clear L7
        go_upto_region 3 with fail
        have L8 := HL7.out.below (w' := (w7.alloc (.cells #[.int .u64 (hiW (x / y)), .int .u64 (loW (x / y))] 86)).alloc (.cells #[.int .u64 (hiW (x % y)), .int .u64 (loW (x % y))] 86)) (by repeat (first | with_reducible exact Below.refl _ _ | (with_reducible refine Below.setCell ?_ (by first | exact Nat.le_refl _ | omega | (simp; done) | (simp; omega)) _) | (with_reducible refine Below.alloc ?_ (by first | exact Nat.le_refl _ | omega | (simp; done) | (simp; omega)) _) | with_reducible refine Below.drew ?_ | with_reducible refine bel_drewN ?_ _ | (with_reducible refine bel_by (by with_reducible assumption) (by first | exact Nat.le_refl _ | omega | (simp; done) | (simp; omega)) ?_)))
        have g0 : ((w7.alloc (.cells #[.int .u64 (hiW (x / y)), .int .u64 (loW (x / y))] 86)).alloc (.cells #[.int .u64 (hiW (x % y)), .int .u64 (loW (x % y))] 86)).cell? ⟨w7.heap.size + 1, 0, none⟩ = some (.int .u64 (hiW (x % y))) := by simp [go_sem]
        have g1 : ((w7.alloc (.cells #[.int .u64 (hiW (x / y)), .int .u64 (loW (x / y))] 86)).alloc (.cells #[.int .u64 (hiW (x % y)), .int .u64 (loW (x % y))] 86)).cell? ⟨w7.heap.size + 1, 1, none⟩ = some (.int .u64 (loW (x % y))) := by simp [go_sem]
        generalize (w7.alloc (.cells #[.int .u64 (hiW (x / y)), .int .u64 (loW (x / y))] 86)).alloc (.cells #[.int .u64 (hiW (x % y)), .int .u64 (loW (x % y))] 86) = wD at L8 g0 g1 ⊢
        have hz7 : w.heap.size + 3 ≤ w7.heap.size := HL7.out.hz
        have c0 := L8.x0
        have c1 := L8.x1
        have c2 := L8.y0
        have c3 := L8.y1
        have c4 := L8.z0
        have c5 := L8.z1
        have f0 := L8.f00
        have f1 := L8.f01
        have f2 := L8.f10
        have f3 := L8.f11
        have f4 := L8.f20
        have f5 := L8.f21
        have hz := L8.hz
        have hW := L8.hw
        clear L8
        go_region
        all_goals
          go_wp2
          go_roundg (x % y).toNat
          case measure => have := hgk.out; omega
          case rel =>
            refine ⟨y, x % y, y0, y1, m0, Y0.2, rfl, Lib.hid (by rw [← HG.out, HGS.out]), Lib.hid ?_⟩

            exact ⟨by simp [go_sem, c0, c1, c2, c3], by simp [go_sem, c0, c1, c2, c3], by simp [go_sem, c0, c1, c2, c3], by simp [go_sem, c0, c1, c2, c3], by simp [go_sem, c4], by simp [go_sem, c5],
              by simp [go_sem, f0], by simp [go_sem, f1], by simp [go_sem, f2], by simp [go_sem, f3], by simp [go_sem, f4], by simp [go_sem, f5], by simp; omega, (by repeat (first | with_reducible exact Below.refl _ _ | (with_reducible refine Below.setCell ?_ (by first | exact Nat.le_refl _ | omega | (simp; done) | (simp; omega)) _) | (with_reducible refine Below.alloc ?_ (by first | exact Nat.le_refl _ | omega | (simp; done) | (simp; omega)) _) | with_reducible refine Below.drew ?_ | with_reducible refine bel_drewN ?_ _ | (with_reducible refine bel_by (by with_reducible assumption) (by first | exact Nat.le_refl _ | omega | (simp; done) | (simp; omega)) ?_)))⟩
end Go.Proofs.YtigibomcaecbdaaGreat
/- The reference of fractions: Valid. -/
namespace Go.Proofs.YtigibomcaecbdaaGreat
open Go.RowKit Go.Sort

theorem undrew' {W w1 : World} (hb : Below W.drew.heap.size W.drew w1) : Below W.heap.size W w1 := ⟨hb.os, hb.tape, hb.output, hb.size, hb.block⟩

theorem w64 {a : Int} (h : 0 ≤ a) (h' : a ≤ 18446744073709551615) : hiW a = 0 ∧ loW a = a := by unfold hiW loW; omega

/-- the reference's divisor and build at numbers of one word -/
theorem rdivisor_one (a b : Int) (h1 : 0 ≤ a) (h1' : a ≤ 18446744073709551615) (h2 : 0 < b) (h2' : b ≤ 18446744073709551615) (w : World) :
    Calls Tryz.prog 77 #[.agg #[.int .u64 0, .int .u64 a], .agg #[.int .u64 0, .int .u64 b]] w fun e w' =>
      e = .returned (.agg #[.int .u64 0, .int .u64 (gcdI a b)]) ∧ Below w.heap.size w w' := by
  have h := rdivisor_any a b h1 (by omega) (by omega) (by omega) w
  have g1 := gcdI_pos a b h2
  have g2 := gcdI_le a b h2
  rwa [(w64 h1 h1').1, (w64 h1 h1').2, (w64 (by omega) h2').1, (w64 (by omega) h2').2, (w64 (a := gcdI a b) (by omega) (by omega)).1, (w64 (a := gcdI a b) (by omega) (by omega)).2] at h
set_option maxHeartbeats 1000000 in
set_option maxRecDepth 100000 in
theorem rvalid_any (n d : Int) (h1 : -9223372036854775808 ≤ n) (h1' : n ≤ 9223372036854775807) (h2 : -9223372036854775808 ≤ d) (h2' : d ≤ 9223372036854775807) (w : World) :
    Calls Tryz.prog 47 #[.agg #[.int .i64 n, .int .i64 d]] w fun e w' => e = .returned (.bool (vldI n d)) ∧ Below w.heap.size w w' := by
  by_cases hr : 1 ≤ d ∧ d ≤ 1000000000000000000 ∧ -1000000000000000000 ≤ n ∧ n ≤ 1000000000000000000
  · obtain ⟨d0, d1, n0, n1⟩ := hr
    have hv : vldI n d = (gcdI n d == 1) := by unfold vldI; rw [Bool.eq_iff_iff]; simp; omega
    rw [hv]; clear hv
    have a0 := absI_0 n
    have a1 := absI_1 h1 h1'
    have M1 := fun W => rsize_any n h1 h1' W
    have G := fun W => rdivisor_one (absI n) d a0 (by omega) (by omega) (by omega) W
    rw [gcdI_abs] at G
    generalize absI n = x at *
    generalize gcdI n d = g at *
    have HM := Lib.hid M1
    have HG := Lib.hid G
    clear M1 G
    have qd : IntKind.u64.wrap d = d := IntWalk.u64_in _ (by omega)
    by_cases hg : g = 1
    · subst hg
      go_enter Tryz.func47, Tryz.ntmps47
      go_wp2_with fail
      go_region_held3 (fun w' => w'.cell? ⟨w.heap.size, 0, none⟩ = some (.int .i64 n) ∧ w'.cell? ⟨w.heap.size, 1, none⟩ = some (.int .i64 d)) ((first | (simp [go_sem]; done) | (simp [go_sem, hc2]; done)))
        (first
          | (go_at_call 71; refine (HM.out _).mono ?_; rintro e w1 ⟨rfl, rfl⟩)
          | (go_at_call 77; refine (HG.out _).mono ?_; rintro e w2 ⟨rfl, hb2⟩; (try (with_reducible replace hb2 := undrew' hb2)); obtain ⟨hc2, hf2⟩ := bcell hb2; have hz2 := bsize hb2; (try simp at hz2)))
      all_goals
        go_wp2
        go_ret
        exact ⟨rfl, (by repeat (first | with_reducible exact Below.refl _ _ | (with_reducible refine Below.setCell ?_ (by first | exact Nat.le_refl _ | omega | (simp; done) | (simp; omega)) _) | (with_reducible refine Below.alloc ?_ (by first | exact Nat.le_refl _ | omega | (simp; done) | (simp; omega)) _) | with_reducible refine Below.drew ?_ | with_reducible refine bel_drewN ?_ _ | (with_reducible refine bel_by (by with_reducible assumption) (by first | exact Nat.le_refl _ | omega | (simp; done) | (simp; omega)) ?_)))⟩
    · have tg : (g == 1) = false := by simpa using hg
      rw [tg]
      go_enter Tryz.func47, Tryz.ntmps47
      go_wp2_with fail
      go_region_held3 (fun w' => w'.cell? ⟨w.heap.size, 0, none⟩ = some (.int .i64 n) ∧ w'.cell? ⟨w.heap.size, 1, none⟩ = some (.int .i64 d)) ((first | (simp [go_sem]; done) | (simp [go_sem, hc2]; done)))
        (first
          | (go_at_call 71; refine (HM.out _).mono ?_; rintro e w1 ⟨rfl, rfl⟩)
          | (go_at_call 77; refine (HG.out _).mono ?_; rintro e w2 ⟨rfl, hb2⟩; (try (with_reducible replace hb2 := undrew' hb2)); obtain ⟨hc2, hf2⟩ := bcell hb2; have hz2 := bsize hb2; (try simp at hz2)))
      all_goals
        go_wp2
        go_ret
        exact ⟨rfl, (by repeat (first | with_reducible exact Below.refl _ _ | (with_reducible refine Below.setCell ?_ (by first | exact Nat.le_refl _ | omega | (simp; done) | (simp; omega)) _) | (with_reducible refine Below.alloc ?_ (by first | exact Nat.le_refl _ | omega | (simp; done) | (simp; omega)) _) | with_reducible refine Below.drew ?_ | with_reducible refine bel_drewN ?_ _ | (with_reducible refine bel_by (by with_reducible assumption) (by first | exact Nat.le_refl _ | omega | (simp; done) | (simp; omega)) ?_)))⟩
  · have hv : vldI n d = false := by unfold vldI; simp; omega
    rw [hv]; clear hv
    have hk : (decide (d < 1) || decide (1000000000000000000 < d) || decide (n < -1000000000000000000) || decide (1000000000000000000 < n)) = true := by simp; omega
    clear hr
    go_enter Tryz.func47, Tryz.ntmps47
    go_wp2_with fail
    all_goals
      go_ret
      exact ⟨rfl, (by repeat (first | with_reducible exact Below.refl _ _ | (with_reducible refine Below.setCell ?_ (by first | exact Nat.le_refl _ | omega | (simp; done) | (simp; omega)) _) | (with_reducible refine Below.alloc ?_ (by first | exact Nat.le_refl _ | omega | (simp; done) | (simp; omega)) _) | with_reducible refine Below.drew ?_ | with_reducible refine bel_drewN ?_ _ | (with_reducible refine bel_by (by with_reducible assumption) (by first | exact Nat.le_refl _ | omega | (simp; done) | (simp; omega)) ?_)))⟩

end Go.Proofs.YtigibomcaecbdaaGreat
