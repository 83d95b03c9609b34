/- Contracts of package fraction that rankings call: greatest common divisor, magnitude, multiply, order, Valid, compare, Cmp; each says that the world has only gone on. -/
import Derived.Test.YtogdkgcgckdehaaGreatRows
import Derived.Test.YtogdkgcgckdehaaGreatGrw
import Derived.Test.YtogdkgcgckdehaaGreatShelf
import Derived.WalkKit
import Derived.WalkSpells
import Derived.WalkLawsBesides
import Derived.LoopTactic
import Derived.RegionTactic
import Derived.BigQuiet
import Derived.BigGuard
import Derived.Lib.Hide
import Derived.Outline
import Derived.Deep.QuietTactic
import Derived.Deep.Draws
import Derived.Deep.CutBlock
import Derived.Deep.DeepCutAuto
import Derived.Deep.DeepFit
import Derived.IntWalk
import Derived.Laws.Pointers
set_option linter.unusedSimpArgs false
set_option linter.unusedVariables false
namespace Go.Proofs.YtogdkgcgckdehaaGreat
open Go.RowKit Go.Sort

theorem bel_drewN {B : Nat} {a w : World} (h : Below B a w) (n : Nat) : Below B a (w.drewN n) := ⟨h.os, h.tape, h.output, h.size, h.block⟩
theorem bel_by {B : Nat} {a w w1 : World} (hb : Below w.heap.size w w1) (hB : B ≤ w.heap.size) (h : Below B a w) : Below B a w1 := h.trans (hb.mono hB)
theorem bcell {W w1 : World} (hb : Below W.heap.size W w1) : (∀ b o, b < W.heap.size → w1.cell? ⟨b, o, none⟩ = W.cell? ⟨b, o, none⟩) ∧ (∀ b o, b < W.heap.size → w1.frozen? ⟨b, o, none⟩ = W.frozen? ⟨b, o, none⟩) :=
  ⟨fun b o h => hb.cell (p := ⟨b, o, none⟩) h, fun b o h => hb.frozen (p := ⟨b, o, none⟩) h⟩
theorem bsize {W w1 : World} (hb : Below W.heap.size W w1) : W.heap.size ≤ w1.heap.size := hb.size
theorem ret_bool {a b : Bool} (h : a = b) : Ending.returned (.bool a) = .returned (.bool b) := by rw [h]
theorem ret_int {k : IntKind} {a b : Int} (h : a = b) : Ending.returned (.int k a) = .returned (.int k b) := by rw [h]

theorem mix : Tryz.prog.follows .mixedOrders = true := by kernel_rfl
/-- two words as one number -/
def valW (h l : Int) : Int := h * 18446744073709551616 + l
def hiW (v : Int) : Int := v / 18446744073709551616
def loW (v : Int) : Int := v % 18446744073709551616
def B128 : Int := 340282366920938463463374607431768211456
theorem hiW_0 {v : Int} (h : 0 ≤ v) : 0 ≤ hiW v := by unfold hiW; omega
theorem hiW_1 {v : Int} (h : v < B128) : hiW v ≤ 18446744073709551615 := by unfold hiW; unfold B128 at h; omega
theorem loW_0 (v : Int) : 0 ≤ loW v := by unfold loW; omega
theorem loW_1 (v : Int) : loW v ≤ 18446744073709551615 := by unfold loW; omega
theorem valW_words (v : Int) : valW (hiW v) (loW v) = v := by unfold valW hiW loW; omega
theorem valW_0 {h l : Int} (hh : 0 ≤ h) (hl : 0 ≤ l) : 0 ≤ valW h l := by unfold valW; omega
theorem valW_1 {h l : Int} (hh : h ≤ 18446744073709551615) (hl : l ≤ 18446744073709551615) : valW h l < B128 := by unfold valW B128; omega
theorem hiW_valW {h l : Int} (hl : 0 ≤ l) (hl' : l ≤ 18446744073709551615) : hiW (valW h l) = h := by unfold valW hiW; omega
theorem loW_valW {h l : Int} (hl : 0 ≤ l) (hl' : l ≤ 18446744073709551615) : loW (valW h l) = l := by unfold valW loW; omega

theorem mul64 (a b : Int) (ha : 0 ≤ a) (ha' : a ≤ 18446744073709551615) (hb : 0 ≤ b) (hb' : b ≤ 18446744073709551615) (w : World) :
    Calls Tryz.prog 109 #[.int .u64 a, .int .u64 b] w fun e w' => e = .returned (.tuple #[.int .u64 (hiW (a * b)), .int .u64 (loW (a * b))]) ∧ w = w' := by
  obtain ⟨a, rfl⟩ := Int.eq_ofNat_of_zero_le ha
  obtain ⟨b, rfl⟩ := Int.eq_ofNat_of_zero_le hb
  refine (Tryz.bits_Mul64 a b (by omega) (by omega) w).mono ?_
  rintro e w' ⟨rfl, rfl⟩
  refine ⟨?_, rfl⟩
  simp only [hiW, loW]
  rfl

theorem mul_128 {a b : Int} (ha : 0 ≤ a) (ha' : a ≤ 18446744073709551615) (hb : 0 ≤ b) (hb' : b ≤ 18446744073709551615) : a * b < B128 := by
  have h1 : a * b ≤ a * 18446744073709551615 := Int.mul_le_mul_of_nonneg_left hb' ha
  unfold B128; omega
theorem mul_nonneg' {a b : Int} (ha : 0 ≤ a) (hb : 0 ≤ b) : 0 ≤ a * b := Int.mul_nonneg ha hb

/-- fraction.magnitude -/
def absI (n : Int) : Int := (n.natAbs : Int)
theorem absI_pos {n : Int} (h : 0 ≤ n) : absI n = n := by unfold absI; omega
theorem absI_neg {n : Int} (h : n < 0) : absI n = -n := by unfold absI; omega
theorem magnitude_any (n : Int) (h1 : -9223372036854775808 ≤ n) (h2 : n ≤ 9223372036854775807) (w : World) :
    Calls Tryz.prog 31 #[.int .i64 n] w fun e w' => e = .returned (.int .u64 (absI n)) ∧ w = w' := by
  by_cases hn : n < 0
  · rw [absI_neg hn]
    go_enter Tryz.func31, Tryz.ntmps31
    go_wp2
    go_ret
    refine ⟨?_, rfl⟩
    show Ending.returned (Value.int .u64 (IntKind.u64.wrap (-IntKind.u64.wrap n))) = _
    rw [show IntKind.u64.wrap (-IntKind.u64.wrap n) = -n from by rw [IntKind.wrap_u64, IntKind.wrap_u64]; omega]
  · rw [absI_pos (by omega)]
    go_enter Tryz.func31, Tryz.ntmps31
    go_wp2
    go_ret
    exact ⟨rfl, rfl⟩

/-- fraction.multiply -/
theorem multiply_any (a b : Int) (ha : 0 ≤ a) (ha' : a ≤ 18446744073709551615) (hb : 0 ≤ b) (hb' : b ≤ 18446744073709551615) (w : World) :
    Calls Tryz.prog 72 #[.int .u64 a, .int .u64 b] w fun e w' => e = .returned (.agg #[.int .u64 (hiW (a * b)), .int .u64 (loW (a * b))]) ∧ Grw w w' := by
  go_enter Tryz.func72, Tryz.ntmps72
  go_wp2_with (go_at_call 109; refine (mul64 a b ha ha' hb hb' _).mono ?_; rintro e w' ⟨rfl, rfl⟩)
  simp [bodyPost, results, Tryz.results72, go_sem]
  exact (by repeat (first | with_reducible exact Grw.refl _ | (with_reducible refine Grw.setCell ?_ (by first | exact Nat.le_refl _ | omega | (simp; done) | (simp; omega)) _) | (with_reducible refine Grw.alloc ?_ _) | with_reducible refine Grw.drew ?_ | with_reducible refine Grw.drewN ?_ _ | with_reducible refine Grw.grow ?_ _ | (with_reducible refine Grw.trans ?_ (by with_reducible assumption))))

/-- (fraction.product).less -/
theorem pless_any (ph pl qh ql : Int) (h1 : 0 ≤ ph) (h1' : ph ≤ 18446744073709551615) (h2 : 0 ≤ pl) (h2' : pl ≤ 18446744073709551615) (h3 : 0 ≤ qh) (h3' : qh ≤ 18446744073709551615) (h4 : 0 ≤ ql) (h4' : ql ≤ 18446744073709551615) (w : World) :
    Calls Tryz.prog 108 #[.agg #[.int .u64 ph, .int .u64 pl], .agg #[.int .u64 qh, .int .u64 ql]] w fun e w' =>
      e = .returned (.bool (decide (valW ph pl < valW qh ql))) ∧ Grw w w' := by
  by_cases hh : ph = qh
  · subst hh
    have e1 : decide (valW ph pl < valW ph ql) = decide (pl < ql) := by unfold valW; simp only [decide_eq_decide]; omega
    rw [e1]; clear e1
    have t1 : (ph != ph) = false := by simp
    go_enter Tryz.func108, Tryz.ntmps108
    go_wp2
    go_ret
    exact ⟨rfl, (by repeat (first | with_reducible exact Grw.refl _ | (with_reducible refine Grw.setCell ?_ (by first | exact Nat.le_refl _ | omega | (simp; done) | (simp; omega)) _) | (with_reducible refine Grw.alloc ?_ _) | with_reducible refine Grw.drew ?_ | with_reducible refine Grw.drewN ?_ _ | with_reducible refine Grw.grow ?_ _ | (with_reducible refine Grw.trans ?_ (by with_reducible assumption))))⟩
  · have e1 : decide (valW ph pl < valW qh ql) = decide (ph < qh) := by unfold valW; simp only [decide_eq_decide]; omega
    rw [e1]; clear e1
    have t1 : (ph != qh) = true := by simpa using hh
    clear hh
    go_enter Tryz.func108, Tryz.ntmps108
    go_wp2
    go_ret
    exact ⟨rfl, (by repeat (first | with_reducible exact Grw.refl _ | (with_reducible refine Grw.setCell ?_ (by first | exact Nat.le_refl _ | omega | (simp; done) | (simp; omega)) _) | (with_reducible refine Grw.alloc ?_ _) | with_reducible refine Grw.drew ?_ | with_reducible refine Grw.drewN ?_ _ | with_reducible refine Grw.grow ?_ _ | (with_reducible refine Grw.trans ?_ (by with_reducible assumption))))⟩

def gcdI (a b : Int) : Int := ((a.natAbs.gcd b.natAbs : Nat) : Int)
theorem gcdI_zero (a : Int) (h : 0 ≤ a) : gcdI a 0 = a := by unfold gcdI; simp; omega
theorem gcdI_step (a b : Int) (ha : 0 ≤ a) (hb : 0 < b) : gcdI b (a % b) = gcdI a b := by
  obtain ⟨x, rfl⟩ := Int.eq_ofNat_of_zero_le ha
  obtain ⟨y, rfl⟩ := Int.eq_ofNat_of_zero_le (Int.le_of_lt hb)
  unfold gcdI
  rw [← Int.natCast_emod]
  simp only [Int.natAbs_natCast]
  rw [Nat.gcd_comm y, ← Nat.gcd_rec, Nat.gcd_comm]

set_option maxHeartbeats 400000 in
theorem divisor_any (a b : Int) (ha : 0 ≤ a) (ha' : a ≤ 18446744073709551615) (hb : 0 ≤ b) (hb' : b ≤ 18446744073709551615) (w : World) :
    Calls Tryz.prog 30 #[.int .u64 a, .int .u64 b] w fun e w' => e = .returned (.int .u64 (gcdI a b)) ∧ ∃ n, w' = w.drewN n := by
  go_enter Tryz.func30, Tryz.ntmps30
  go_wp2
  go_loopw [0, 1] (fun s0 s1 wr => ∃ x y : Int, 0 ≤ x ∧ x ≤ 18446744073709551615 ∧ 0 ≤ y ∧ y ≤ 18446744073709551615 ∧ gcdI x y = gcdI a b ∧ s0 = .int .u64 x ∧ s1 = .int .u64 y ∧ ∃ n, wr = w.drewN n) (fun _ s1 _ => (intOf s1).toNat)
  case atStart => exact ⟨a, b, ha, ha', hb, hb', rfl, rfl, rfl, 0, rfl⟩
  case round =>
    obtain ⟨x, y, hx, hx', hy, hy', hg, rfl, rfl, n, rfl⟩ := hrel
    have HG := Lib.hid hg
    clear hg
    by_cases h0 : y = 0
    · subst h0
      go_wp2
      go_ret
      refine ⟨?_, n, rfl⟩
      rw [← HG.out, gcdI_zero x hx]
      rfl
    · have hy0 : 0 < y := by omega
      have m0 : 0 ≤ x % y := Int.emod_nonneg _ h0
      have m1 : x % y < y := Int.emod_lt_of_pos _ hy0
      have b0 : (y != 0) = true := by simpa using h0
      clear h0
      go_wp2
      go_quiet (fail)
      go_roundw
      case rel => (repeat apply Exists.intro); exact ⟨⟨y, x % y, by omega, by omega, by omega, by omega, by rw [← HG.out, gcdI_step x y hx hy0], rfl, rfl, _, World.drewN_drewN _ _ _⟩, rfl⟩
      case measure => simp [intOf]; omega
/-- fraction.order -/
theorem order_any (ph pl qh ql : Int) (h1 : 0 ≤ ph) (h1' : ph ≤ 18446744073709551615) (h2 : 0 ≤ pl) (h2' : pl ≤ 18446744073709551615) (h3 : 0 ≤ qh) (h3' : qh ≤ 18446744073709551615) (h4 : 0 ≤ ql) (h4' : ql ≤ 18446744073709551615) (w : World) :
    Calls Tryz.prog 71 #[.agg #[.int .u64 ph, .int .u64 pl], .agg #[.int .u64 qh, .int .u64 ql]] w fun e w' =>
      e = .returned (.int .i64 (if valW ph pl < valW qh ql then -1 else if valW ph pl = valW qh ql then 0 else 1)) ∧ Grw w w' := by
  by_cases he : ph = qh ∧ pl = ql
  · obtain ⟨rfl, rfl⟩ := he
    rw [if_neg (by omega), if_pos rfl]
    go_enter Tryz.func71, Tryz.ntmps71
    go_wp2
    go_ret
    exact ⟨rfl, (by repeat (first | with_reducible exact Grw.refl _ | (with_reducible refine Grw.setCell ?_ (by first | exact Nat.le_refl _ | omega | (simp; done) | (simp; omega)) _) | (with_reducible refine Grw.alloc ?_ _) | with_reducible refine Grw.drew ?_ | with_reducible refine Grw.drewN ?_ _ | with_reducible refine Grw.grow ?_ _ | (with_reducible refine Grw.trans ?_ (by with_reducible assumption))))⟩
  · have hne : valW ph pl ≠ valW qh ql := by unfold valW; omega
    rw [if_neg hne]
    have L := pless_any ph pl qh ql h1 h1' h2 h2' h3 h3' h4 h4'
    have hx : (ph == qh) = false ∨ ph = qh ∧ (pl == ql) = false := by
      by_cases h : ph = qh
      · exact .inr ⟨h, by simp; intro hh; exact he ⟨h, hh⟩⟩
      · exact .inl (by simpa using h)
    clear he
    by_cases hl : valW ph pl < valW qh ql
    · rw [if_pos hl]
      have d1 : decide (valW ph pl < valW qh ql) = true := by simpa using hl
      rw [d1] at L
      clear d1 hl hne
      have HL := Lib.hid L
      clear L
      rcases hx with hx | ⟨rfl, hx⟩
      all_goals
        go_enter Tryz.func71, Tryz.ntmps71
        go_wp2_with (go_at_call 108; refine (HL.out _).mono ?_; rintro e w' ⟨rfl, hb⟩)
        go_ret
        exact ⟨rfl, (by repeat (first | with_reducible exact Grw.refl _ | (with_reducible refine Grw.setCell ?_ (by first | exact Nat.le_refl _ | omega | (simp; done) | (simp; omega)) _) | (with_reducible refine Grw.alloc ?_ _) | with_reducible refine Grw.drew ?_ | with_reducible refine Grw.drewN ?_ _ | with_reducible refine Grw.grow ?_ _ | (with_reducible refine Grw.trans ?_ (by with_reducible assumption))))⟩
    · rw [if_neg hl]
      have d1 : decide (valW ph pl < valW qh ql) = false := by simpa using hl
      rw [d1] at L
      clear d1 hl hne
      have HL := Lib.hid L
      clear L
      rcases hx with hx | ⟨rfl, hx⟩
      all_goals
        go_enter Tryz.func71, Tryz.ntmps71
        go_wp2_with (go_at_call 108; refine (HL.out _).mono ?_; rintro e w' ⟨rfl, hb⟩)
        go_ret
        exact ⟨rfl, (by repeat (first | with_reducible exact Grw.refl _ | (with_reducible refine Grw.setCell ?_ (by first | exact Nat.le_refl _ | omega | (simp; done) | (simp; omega)) _) | (with_reducible refine Grw.alloc ?_ _) | with_reducible refine Grw.drew ?_ | with_reducible refine Grw.drewN ?_ _ | with_reducible refine Grw.grow ?_ _ | (with_reducible refine Grw.trans ?_ (by with_reducible assumption))))⟩

/-- is n / d a fraction in normalized form within the bounds -/
def vldI (n d : Int) : Bool := decide (1 ≤ d ∧ d ≤ 1000000000000000000 ∧ -1000000000000000000 ≤ n ∧ n ≤ 1000000000000000000 ∧ gcdI n d = 1)
theorem vldI_out {n d : Int} (h : vldI n d = true) : 1 ≤ d ∧ d ≤ 1000000000000000000 ∧ -1000000000000000000 ≤ n ∧ n ≤ 1000000000000000000 ∧ gcdI n d = 1 := by
  unfold vldI at h; simpa using h
theorem absI_0 (n : Int) : 0 ≤ absI n := by unfold absI; omega
theorem absI_1 {n : Int} (h1 : -9223372036854775808 ≤ n) (h2 : n ≤ 9223372036854775807) : absI n ≤ 9223372036854775808 := by unfold absI; omega
theorem gcdI_abs (n d : Int) : gcdI (absI n) d = gcdI n d := by unfold gcdI absI; simp
theorem q_same {P : Program} {f : FuncId} {args : Array Value} {w : World} {v : Value} (h : Calls P f args w fun e w' => e = .returned v ∧ w = w') :
    Calls P f args w fun e w' => e = .returned v ∧ ∃ n, w' = w.drewN n := h.mono fun _ _ ⟨he, hw⟩ => ⟨he, 0, hw.symm⟩
set_option maxHeartbeats 1000000 in
theorem valid_any (n d : Int) (h1 : -9223372036854775808 ≤ n) (h1' : n ≤ 9223372036854775807) (h2 : -9223372036854775808 ≤ d) (h2' : d ≤ 9223372036854775807) (w : World) :
    Calls Tryz.prog 13 #[.agg #[.int .i64 n, .int .i64 d]] w fun e w' => e = .returned (.bool (vldI n d)) ∧ Grw w w' := by
  by_cases hr : 1 ≤ d ∧ d ≤ 1000000000000000000 ∧ -1000000000000000000 ≤ n ∧ n ≤ 1000000000000000000
  · obtain ⟨d0, d1, n0, n1⟩ := hr
    have hv : vldI n d = (gcdI n d == 1) := by unfold vldI; rw [Bool.eq_iff_iff]; simp; omega
    rw [hv]; clear hv
    have a0 := absI_0 n
    have a1 := absI_1 h1 h1'
    have M1 := fun W => magnitude_any n h1 h1' W
    have G := fun W => divisor_any (absI n) d a0 (by omega) (by omega) (by omega) W
    rw [gcdI_abs] at G
    generalize absI n = x at *
    generalize gcdI n d = g at *
    have HM := Lib.hid M1
    have HG := Lib.hid G
    clear M1 G
    go_enter Tryz.func13, Tryz.ntmps13
    go_wp2_with fail
    go_quiet ((first | (go_at_call 31; exact Calls.quiet_of (q_same (HM.out _))) | (go_at_call 30; exact Calls.quiet_of (HG.out _))))
    go_wp2
    go_ret
    exact ⟨rfl, (by repeat (first | with_reducible exact Grw.refl _ | (with_reducible refine Grw.setCell ?_ (by first | exact Nat.le_refl _ | omega | (simp; done) | (simp; omega)) _) | (with_reducible refine Grw.alloc ?_ _) | with_reducible refine Grw.drew ?_ | with_reducible refine Grw.drewN ?_ _ | with_reducible refine Grw.grow ?_ _ | (with_reducible refine Grw.trans ?_ (by with_reducible assumption))))⟩
  · have hv : vldI n d = false := by unfold vldI; simp; omega
    rw [hv]; clear hv
    have hk : (decide (d < 1) || decide (1000000000000000000 < d) || decide (n < -1000000000000000000) || decide (1000000000000000000 < n)) = true := by simp; omega
    clear hr
    go_enter Tryz.func13, Tryz.ntmps13
    go_wp2_with fail
    all_goals
      go_ret
      exact ⟨rfl, (by repeat (first | with_reducible exact Grw.refl _ | (with_reducible refine Grw.setCell ?_ (by first | exact Nat.le_refl _ | omega | (simp; done) | (simp; omega)) _) | (with_reducible refine Grw.alloc ?_ _) | with_reducible refine Grw.drew ?_ | with_reducible refine Grw.drewN ?_ _ | with_reducible refine Grw.grow ?_ _ | (with_reducible refine Grw.trans ?_ (by with_reducible assumption))))⟩
end Go.Proofs.YtogdkgcgckdehaaGreat
