/- Contracts of the small functions of package fraction: greatest common divisor, magnitude, numbers of two words. -/
import Derived.Test.YtbjmibaepccbeaaRows
import Derived.Test.YtbjmibaepccbeaaMath
import Derived.WalkKit
import Derived.WalkSpells
import Derived.LoopTactic
import Derived.RegionTactic
import Derived.BigQuiet
import Derived.Below
import Derived.Lib.Hide
import Derived.Outline
import Derived.Deep.QuietTactic
import Derived.Deep.Draws
import Derived.Shelf.Spec.BitsCarry
import Derived.Laws.Pointers
import Derived.Test.YtbjmibaepccbeaaShelf
set_option linter.unusedSimpArgs false
set_option linter.unusedVariables false
namespace Go.Proofs.Ytbjmibaepccbeaa
open Go.RowKit

theorem bel_drewN {B : Nat} {a w : World} (h : Below B a w) (n : Nat) : Below B a (w.drewN n) := ⟨h.os, h.tape, h.output, h.size, h.block⟩

/-- what a callee leaves behind new blocks of the caller -/
theorem bel_after {B : Nat} {a w w1 : World} (h : Below B a w) (hB : B ≤ w.heap.size) (hb : Below w.heap.size w w1) : Below B a w1 := h.trans (hb.mono hB)
theorem bel_by {B : Nat} {a w w1 : World} (hb : Below w.heap.size w w1) (hB : B ≤ w.heap.size) (h : Below B a w) : Below B a w1 := h.trans (hb.mono hB)
/-- all that lay there before a callee reads as before -/
theorem bcell {W w1 : World} (hb : Below W.heap.size W w1) : (∀ b o, b < W.heap.size → w1.cell? ⟨b, o, none⟩ = W.cell? ⟨b, o, none⟩) ∧ (∀ b o, b < W.heap.size → w1.frozen? ⟨b, o, none⟩ = W.frozen? ⟨b, o, none⟩) :=
  ⟨fun b o h => hb.cell (p := ⟨b, o, none⟩) h, fun b o h => hb.frozen (p := ⟨b, o, none⟩) h⟩
theorem bsize {W w1 : World} (hb : Below W.heap.size W w1) : W.heap.size ≤ w1.heap.size := hb.size

/-- two words as one number -/
def valW (h l : Int) : Int := h * 18446744073709551616 + l
def hiW (v : Int) : Int := v / 18446744073709551616
def loW (v : Int) : Int := v % 18446744073709551616
def B128 : Int := 340282366920938463463374607431768211456
theorem hiW_0 {v : Int} (h : 0 ≤ v) : 0 ≤ hiW v := by unfold hiW; omega
theorem hiW_1 {v : Int} (h : v < B128) : hiW v ≤ 18446744073709551615 := by unfold hiW; unfold B128 at h; omega
theorem loW_0 (v : Int) : 0 ≤ loW v := by unfold loW; omega
theorem loW_1 (v : Int) : loW v ≤ 18446744073709551615 := by unfold loW; omega
theorem valW_words (v : Int) : valW (hiW v) (loW v) = v := by unfold valW hiW loW; omega
theorem valW_0 {h l : Int} (hh : 0 ≤ h) (hl : 0 ≤ l) : 0 ≤ valW h l := by unfold valW; omega
theorem valW_1 {h l : Int} (hh : h ≤ 18446744073709551615) (hl : l ≤ 18446744073709551615) : valW h l < B128 := by unfold valW B128; omega
theorem hiW_valW {h l : Int} (hl : 0 ≤ l) (hl' : l ≤ 18446744073709551615) : hiW (valW h l) = h := by unfold valW hiW; omega
theorem loW_valW {h l : Int} (hl : 0 ≤ l) (hl' : l ≤ 18446744073709551615) : loW (valW h l) = l := by unfold valW loW; omega

theorem add64 (x y c : Int) (hx : 0 ≤ x) (hx' : x ≤ 18446744073709551615) (hy : 0 ≤ y) (hy' : y ≤ 18446744073709551615) (hc0 : 0 ≤ c) (hc : c ≤ 1) (w : World) : (callFunc 78 #[.int .u64 x, .int .u64 y, .int .u64 c]).run Try.prog w =
    .ok (.value (.tuple #[.int .u64 (loW (x + y + c)), .int .u64 (hiW (x + y + c))])) w := by
  obtain ⟨x, rfl⟩ := Int.eq_ofNat_of_zero_le hx
  obtain ⟨y, rfl⟩ := Int.eq_ofNat_of_zero_le hy
  obtain ⟨c, rfl⟩ := Int.eq_ofNat_of_zero_le hc0
  rw [run_callFunc_extern (P := Try.prog) (f := 78) (fn := Try.f78) (by kernel_rfl) (by kernel_rfl) (by kernel_rfl) (by kernel_rfl) (e := add64Entry) (by kernel_rfl), run_add64 x y c (by omega) (by omega) (by omega) (by omega)]
  simp only [Result.andThen, loW, hiW]

def bor (x y : Int) : Int := if x < y then 1 else 0
theorem bor_0 (x y : Int) : 0 ≤ bor x y := by unfold bor; split <;> omega
theorem bor_1 (x y : Int) : bor x y ≤ 1 := by unfold bor; split <;> omega
theorem sub64 (x y c : Int) (hx : 0 ≤ x) (hx' : x ≤ 18446744073709551615) (hy : 0 ≤ y) (hy' : y ≤ 18446744073709551615) (hc0 : 0 ≤ c) (hc : c ≤ 1) (w : World) : (callFunc 79 #[.int .u64 x, .int .u64 y, .int .u64 c]).run Try.prog w =
    .ok (.value (.tuple #[.int .u64 (loW (x - y - c)), .int .u64 (bor x (y + c))])) w := by
  obtain ⟨x, rfl⟩ := Int.eq_ofNat_of_zero_le hx
  obtain ⟨y, rfl⟩ := Int.eq_ofNat_of_zero_le hy
  obtain ⟨c, rfl⟩ := Int.eq_ofNat_of_zero_le hc0
  rw [run_callFunc_extern (P := Try.prog) (f := 79) (fn := Try.f79) (by kernel_rfl) (by kernel_rfl) (by kernel_rfl) (by kernel_rfl) (e := sub64Entry) (by kernel_rfl), run_sub64 x y c (by omega)]
  simp only [Result.andThen, loW, bor]
  have e1 : (((x + 18446744073709551616 - y - c) % 18446744073709551616 : Nat) : Int) = ((x : Int) - y - c) % 18446744073709551616 := by omega
  have e2 : ((if x < y + c then 1 else 0 : Nat) : Int) = if (x : Int) < y + c then 1 else 0 := by split <;> split <;> omega
  rw [e1, e2]
theorem add64_0 (x y : Int) (hx : 0 ≤ x) (hx' : x ≤ 18446744073709551615) (hy : 0 ≤ y) (hy' : y ≤ 18446744073709551615) (w : World) : (callFunc 78 #[.int .u64 x, .int .u64 y, .int .u64 0]).run Try.prog w =
    .ok (.value (.tuple #[.int .u64 (loW (x + y)), .int .u64 (hiW (x + y))])) w := by
  have h := add64 x y 0 hx hx' hy hy' (Int.le_refl 0) (by decide) w
  rwa [Int.add_zero] at h
theorem sub64_0 (x y : Int) (hx : 0 ≤ x) (hx' : x ≤ 18446744073709551615) (hy : 0 ≤ y) (hy' : y ≤ 18446744073709551615) (w : World) : (callFunc 79 #[.int .u64 x, .int .u64 y, .int .u64 0]).run Try.prog w =
    .ok (.value (.tuple #[.int .u64 (loW (x - y)), .int .u64 (bor x y)])) w := by
  have h := sub64 x y 0 hx hx' hy hy' (Int.le_refl 0) (by decide) w
  rwa [Int.sub_zero, Int.add_zero] at h

theorem mul64 (a b : Int) (ha : 0 ≤ a) (ha' : a ≤ 18446744073709551615) (hb : 0 ≤ b) (hb' : b ≤ 18446744073709551615) (w : World) :
    Calls Try.prog 72 #[.int .u64 a, .int .u64 b] w fun e w' => e = .returned (.tuple #[.int .u64 (hiW (a * b)), .int .u64 (loW (a * b))]) ∧ w = w' := by
  obtain ⟨a, rfl⟩ := Int.eq_ofNat_of_zero_le ha
  obtain ⟨b, rfl⟩ := Int.eq_ofNat_of_zero_le hb
  refine (Try.bits_Mul64 a b (by omega) (by omega) w).mono ?_
  rintro e w' ⟨rfl, rfl⟩
  refine ⟨?_, rfl⟩
  simp only [hiW, loW]
  rfl

theorem mul_128 {a b : Int} (ha : 0 ≤ a) (ha' : a ≤ 18446744073709551615) (hb : 0 ≤ b) (hb' : b ≤ 18446744073709551615) : a * b < B128 := by
  have h1 : a * b ≤ a * 18446744073709551615 := Int.mul_le_mul_of_nonneg_left hb' ha
  unfold B128; omega
theorem mul_nonneg' {a b : Int} (ha : 0 ≤ a) (hb : 0 ≤ b) : 0 ≤ a * b := Int.mul_nonneg ha hb

/-- fraction.magnitude -/
def absI (n : Int) : Int := (n.natAbs : Int)
theorem absI_pos {n : Int} (h : 0 ≤ n) : absI n = n := by unfold absI; omega
theorem absI_neg {n : Int} (h : n < 0) : absI n = -n := by unfold absI; omega
theorem magnitude_any (n : Int) (h1 : -9223372036854775808 ≤ n) (h2 : n ≤ 9223372036854775807) (w : World) :
    Calls Try.prog 59 #[.int .i64 n] w fun e w' => e = .returned (.int .u64 (absI n)) ∧ w = w' := by
  by_cases hn : n < 0
  · rw [absI_neg hn]
    go_enter Try.func59, Try.ntmps59
    go_wp2
    go_ret
    refine ⟨?_, rfl⟩
    show Ending.returned (Value.int .u64 (IntKind.u64.wrap (-IntKind.u64.wrap n))) = _
    rw [show IntKind.u64.wrap (-IntKind.u64.wrap n) = -n from by rw [IntKind.wrap_u64, IntKind.wrap_u64]; omega]
  · rw [absI_pos (by omega)]
    go_enter Try.func59, Try.ntmps59
    go_wp2
    go_ret
    exact ⟨rfl, rfl⟩

/-- fraction.multiply -/
theorem multiply_any (a b : Int) (ha : 0 ≤ a) (ha' : a ≤ 18446744073709551615) (hb : 0 ≤ b) (hb' : b ≤ 18446744073709551615) (w : World) :
    Calls Try.prog 61 #[.int .u64 a, .int .u64 b] w fun e w' => e = .returned (.agg #[.int .u64 (hiW (a * b)), .int .u64 (loW (a * b))]) ∧ Below w.heap.size w w' := by
  go_enter Try.func61, Try.ntmps61
  go_wp2_with (go_at_call 72; refine (mul64 a b ha ha' hb hb' _).mono ?_; rintro e w' ⟨rfl, rfl⟩)
  simp [bodyPost, results, Try.results61, go_sem]
  exact (by repeat (first | with_reducible exact Below.refl _ _ | (with_reducible refine Below.setCell ?_ (by first | exact Nat.le_refl _ | omega | (simp; done) | (simp; omega)) _) | (with_reducible refine Below.alloc ?_ (by first | exact Nat.le_refl _ | omega | (simp; done) | (simp; omega)) _) | with_reducible refine Below.drew ?_ | with_reducible refine bel_drewN ?_ _ | (with_reducible refine bel_by (by with_reducible assumption) (by first | exact Nat.le_refl _ | omega | (simp; done) | (simp; omega)) ?_)))

/-- (fraction.product).plus -/
theorem pplus_any (ph pl qh ql : Int) (h1 : 0 ≤ ph) (h1' : ph ≤ 18446744073709551615) (h2 : 0 ≤ pl) (h2' : pl ≤ 18446744073709551615) (h3 : 0 ≤ qh) (h3' : qh ≤ 18446744073709551615) (h4 : 0 ≤ ql) (h4' : ql ≤ 18446744073709551615)
    (hs : valW ph pl + valW qh ql < B128) (w : World) :
    Calls Try.prog 83 #[.agg #[.int .u64 ph, .int .u64 pl], .agg #[.int .u64 qh, .int .u64 ql]] w fun e w' =>
      e = .returned (.agg #[.int .u64 (hiW (valW ph pl + valW qh ql)), .int .u64 (loW (valW ph pl + valW qh ql))]) ∧ Below w.heap.size w w' := by
  have e1 : hiW (valW ph pl + valW qh ql) = ph + qh + hiW (pl + ql) := by unfold valW hiW; omega
  have e2 : loW (valW ph pl + valW qh ql) = loW (pl + ql) := by unfold valW loW; omega
  have c0 : 0 ≤ hiW (pl + ql) := by unfold hiW; omega
  have c1 : hiW (pl + ql) ≤ 1 := by unfold hiW; omega
  have b1 : ph + qh + hiW (pl + ql) ≤ 18446744073709551615 := by rw [← e1]; exact hiW_1 hs
  rw [e1, e2]
  clear e1 e2 hs
  go_enter Try.func83, Try.ntmps83
  go_wp2_with (simp only [add64_0 pl ql h2 h2' h4 h4'])
  simp [bodyPost, results, Try.results83, go_sem]
  exact (by repeat (first | with_reducible exact Below.refl _ _ | (with_reducible refine Below.setCell ?_ (by first | exact Nat.le_refl _ | omega | (simp; done) | (simp; omega)) _) | (with_reducible refine Below.alloc ?_ (by first | exact Nat.le_refl _ | omega | (simp; done) | (simp; omega)) _) | with_reducible refine Below.drew ?_ | with_reducible refine bel_drewN ?_ _ | (with_reducible refine bel_by (by with_reducible assumption) (by first | exact Nat.le_refl _ | omega | (simp; done) | (simp; omega)) ?_)))

/-- (fraction.product).minus -/
theorem pminus_any (ph pl qh ql : Int) (h1 : 0 ≤ ph) (h1' : ph ≤ 18446744073709551615) (h2 : 0 ≤ pl) (h2' : pl ≤ 18446744073709551615) (h3 : 0 ≤ qh) (h3' : qh ≤ 18446744073709551615) (h4 : 0 ≤ ql) (h4' : ql ≤ 18446744073709551615)
    (hs : valW qh ql ≤ valW ph pl) (w : World) :
    Calls Try.prog 84 #[.agg #[.int .u64 ph, .int .u64 pl], .agg #[.int .u64 qh, .int .u64 ql]] w fun e w' =>
      e = .returned (.agg #[.int .u64 (hiW (valW ph pl - valW qh ql)), .int .u64 (loW (valW ph pl - valW qh ql))]) ∧ Below w.heap.size w w' := by
  have e1 : hiW (valW ph pl - valW qh ql) = ph - qh - bor pl ql := by unfold valW hiW bor; split <;> omega
  have e2 : loW (valW ph pl - valW qh ql) = loW (pl - ql) := by unfold valW loW; omega
  have c0 := bor_0 pl ql
  have c1 := bor_1 pl ql
  have b1 : 0 ≤ ph - qh - bor pl ql := by rw [← e1]; exact hiW_0 (by omega)
  rw [e1, e2]
  clear e1 e2 hs
  go_enter Try.func84, Try.ntmps84
  go_wp2_with (simp only [sub64_0 pl ql h2 h2' h4 h4'])
  simp [bodyPost, results, Try.results84, go_sem]
  exact (by repeat (first | with_reducible exact Below.refl _ _ | (with_reducible refine Below.setCell ?_ (by first | exact Nat.le_refl _ | omega | (simp; done) | (simp; omega)) _) | (with_reducible refine Below.alloc ?_ (by first | exact Nat.le_refl _ | omega | (simp; done) | (simp; omega)) _) | with_reducible refine Below.drew ?_ | with_reducible refine bel_drewN ?_ _ | (with_reducible refine bel_by (by with_reducible assumption) (by first | exact Nat.le_refl _ | omega | (simp; done) | (simp; omega)) ?_)))

/-- (fraction.product).less -/
theorem pless_any (ph pl qh ql : Int) (h1 : 0 ≤ ph) (h1' : ph ≤ 18446744073709551615) (h2 : 0 ≤ pl) (h2' : pl ≤ 18446744073709551615) (h3 : 0 ≤ qh) (h3' : qh ≤ 18446744073709551615) (h4 : 0 ≤ ql) (h4' : ql ≤ 18446744073709551615) (w : World) :
    Calls Try.prog 80 #[.agg #[.int .u64 ph, .int .u64 pl], .agg #[.int .u64 qh, .int .u64 ql]] w fun e w' =>
      e = .returned (.bool (decide (valW ph pl < valW qh ql))) ∧ Below w.heap.size w w' := by
  by_cases hh : ph = qh
  · subst hh
    have e1 : decide (valW ph pl < valW ph ql) = decide (pl < ql) := by unfold valW; simp only [decide_eq_decide]; omega
    rw [e1]; clear e1
    have t1 : (ph != ph) = false := by simp
    go_enter Try.func80, Try.ntmps80
    go_wp2
    go_ret
    exact ⟨rfl, (by repeat (first | with_reducible exact Below.refl _ _ | (with_reducible refine Below.setCell ?_ (by first | exact Nat.le_refl _ | omega | (simp; done) | (simp; omega)) _) | (with_reducible refine Below.alloc ?_ (by first | exact Nat.le_refl _ | omega | (simp; done) | (simp; omega)) _) | with_reducible refine Below.drew ?_ | with_reducible refine bel_drewN ?_ _ | (with_reducible refine bel_by (by with_reducible assumption) (by first | exact Nat.le_refl _ | omega | (simp; done) | (simp; omega)) ?_)))⟩
  · have e1 : decide (valW ph pl < valW qh ql) = decide (ph < qh) := by unfold valW; simp only [decide_eq_decide]; omega
    rw [e1]; clear e1
    have t1 : (ph != qh) = true := by simpa using hh
    clear hh
    go_enter Try.func80, Try.ntmps80
    go_wp2
    go_ret
    exact ⟨rfl, (by repeat (first | with_reducible exact Below.refl _ _ | (with_reducible refine Below.setCell ?_ (by first | exact Nat.le_refl _ | omega | (simp; done) | (simp; omega)) _) | (with_reducible refine Below.alloc ?_ (by first | exact Nat.le_refl _ | omega | (simp; done) | (simp; omega)) _) | with_reducible refine Below.drew ?_ | with_reducible refine bel_drewN ?_ _ | (with_reducible refine bel_by (by with_reducible assumption) (by first | exact Nat.le_refl _ | omega | (simp; done) | (simp; omega)) ?_)))⟩

/-- (fraction.product).atMost -/
theorem patMost_any (ph pl q : Int) (h1 : 0 ≤ ph) (h1' : ph ≤ 18446744073709551615) (h2 : 0 ≤ pl) (h2' : pl ≤ 18446744073709551615) (h3 : 0 ≤ q) (h3' : q ≤ 18446744073709551615) (w : World) :
    Calls Try.prog 73 #[.agg #[.int .u64 ph, .int .u64 pl], .int .u64 q] w fun e w' =>
      e = .returned (.bool (decide (valW ph pl ≤ q))) ∧ Below w.heap.size w w' := by
  by_cases hh : ph = 0
  · subst hh
    have e1 : decide (valW 0 pl ≤ q) = decide (pl ≤ q) := by unfold valW; simp only [decide_eq_decide]; omega
    rw [e1]; clear e1
    go_enter Try.func73, Try.ntmps73
    go_wp2
    go_ret
    exact ⟨rfl, (by repeat (first | with_reducible exact Below.refl _ _ | (with_reducible refine Below.setCell ?_ (by first | exact Nat.le_refl _ | omega | (simp; done) | (simp; omega)) _) | (with_reducible refine Below.alloc ?_ (by first | exact Nat.le_refl _ | omega | (simp; done) | (simp; omega)) _) | with_reducible refine Below.drew ?_ | with_reducible refine bel_drewN ?_ _ | (with_reducible refine bel_by (by with_reducible assumption) (by first | exact Nat.le_refl _ | omega | (simp; done) | (simp; omega)) ?_)))⟩
  · have e1 : decide (valW ph pl ≤ q) = false := by unfold valW; simp only [decide_eq_false_iff_not]; omega
    rw [e1]; clear e1
    have t1 : (ph == 0) = false := by simpa using hh
    clear hh
    go_enter Try.func73, Try.ntmps73
    go_wp2
    go_ret
    exact ⟨rfl, (by repeat (first | with_reducible exact Below.refl _ _ | (with_reducible refine Below.setCell ?_ (by first | exact Nat.le_refl _ | omega | (simp; done) | (simp; omega)) _) | (with_reducible refine Below.alloc ?_ (by first | exact Nat.le_refl _ | omega | (simp; done) | (simp; omega)) _) | with_reducible refine Below.drew ?_ | with_reducible refine bel_drewN ?_ _ | (with_reducible refine bel_by (by with_reducible assumption) (by first | exact Nat.le_refl _ | omega | (simp; done) | (simp; omega)) ?_)))⟩

def gcdI (a b : Int) : Int := ((a.natAbs.gcd b.natAbs : Nat) : Int)
theorem gcdI_zero (a : Int) (h : 0 ≤ a) : gcdI a 0 = a := by unfold gcdI; simp; omega
theorem gcdI_step (a b : Int) (ha : 0 ≤ a) (hb : 0 < b) : gcdI b (a % b) = gcdI a b := by
  obtain ⟨x, rfl⟩ := Int.eq_ofNat_of_zero_le ha
  obtain ⟨y, rfl⟩ := Int.eq_ofNat_of_zero_le (Int.le_of_lt hb)
  unfold gcdI
  rw [← Int.natCast_emod]
  simp only [Int.natAbs_natCast]
  rw [Nat.gcd_comm y, ← Nat.gcd_rec, Nat.gcd_comm]

set_option maxHeartbeats 400000 in
theorem divisor_any (a b : Int) (ha : 0 ≤ a) (ha' : a ≤ 18446744073709551615) (hb : 0 ≤ b) (hb' : b ≤ 18446744073709551615) (w : World) :
    Calls Try.prog 60 #[.int .u64 a, .int .u64 b] w fun e w' => e = .returned (.int .u64 (gcdI a b)) ∧ ∃ n, w' = w.drewN n := by
  go_enter Try.func60, Try.ntmps60
  go_wp2
  go_loopw [0, 1] (fun s0 s1 wr => ∃ x y : Int, 0 ≤ x ∧ x ≤ 18446744073709551615 ∧ 0 ≤ y ∧ y ≤ 18446744073709551615 ∧ gcdI x y = gcdI a b ∧ s0 = .int .u64 x ∧ s1 = .int .u64 y ∧ ∃ n, wr = w.drewN n) (fun _ s1 _ => (intOf s1).toNat)
  case atStart => exact ⟨a, b, ha, ha', hb, hb', rfl, rfl, rfl, 0, rfl⟩
  case round =>
    obtain ⟨x, y, hx, hx', hy, hy', hg, rfl, rfl, n, rfl⟩ := hrel
    have HG := Lib.hid hg
    clear hg
    by_cases h0 : y = 0
    · subst h0
      go_wp2
      go_ret
      refine ⟨?_, n, rfl⟩
      rw [← HG.out, gcdI_zero x hx]
      rfl
    · have hy0 : 0 < y := by omega
      have m0 : 0 ≤ x % y := Int.emod_nonneg _ h0
      have m1 : x % y < y := Int.emod_lt_of_pos _ hy0
      have b0 : (y != 0) = true := by simpa using h0
      clear h0
      go_wp2
      go_quiet (fail)
      go_roundw
      case rel => (repeat apply Exists.intro); exact ⟨⟨y, x % y, by omega, by omega, by omega, by omega, by rw [← HG.out, gcdI_step x y hx hy0], rfl, rfl, _, World.drewN_drewN _ _ _⟩, rfl⟩
      case measure => simp [intOf]; omega
end Go.Proofs.Ytbjmibaepccbeaa
