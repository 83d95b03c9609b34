/- Contracts of the reference of fractions, first part: numbers of two words. -/
import Derived.Test.YtbjmibaepccbeaaNumC
import Derived.Laws.BitsAllLaws
import Derived.Laws.Shifts
set_option linter.unusedSimpArgs false
set_option linter.unusedVariables false
namespace Go.Proofs.Ytbjmibaepccbeaa
open Go.RowKit

theorem rprod_any (a b : Int) (ha : 0 ≤ a) (ha' : a ≤ 18446744073709551615) (hb : 0 ≤ b) (hb' : b ≤ 18446744073709551615) (w : World) :
    Calls Try.prog 63 #[.int .u64 a, .int .u64 b] w fun e w' => e = .returned (.agg #[.int .u64 (hiW (a * b)), .int .u64 (loW (a * b))]) ∧ Below w.heap.size w w' := by
  go_enter Try.func63, Try.ntmps63
  go_wp2_with (go_at_call 72; refine (mul64 a b ha ha' hb hb' _).mono ?_; rintro e w' ⟨rfl, rfl⟩)
  simp [bodyPost, results, Try.results63, go_sem]
  exact (by repeat (first | with_reducible exact Below.refl _ _ | (with_reducible refine Below.setCell ?_ (by first | exact Nat.le_refl _ | omega | (simp; done) | (simp; omega)) _) | (with_reducible refine Below.alloc ?_ (by first | exact Nat.le_refl _ | omega | (simp; done) | (simp; omega)) _) | with_reducible refine Below.drew ?_ | with_reducible refine bel_drewN ?_ _ | (with_reducible refine bel_by (by with_reducible assumption) (by first | exact Nat.le_refl _ | omega | (simp; done) | (simp; omega)) ?_)))

theorem rplus_any (ph pl qh ql : Int) (h1 : 0 ≤ ph) (h1' : ph ≤ 18446744073709551615) (h2 : 0 ≤ pl) (h2' : pl ≤ 18446744073709551615) (h3 : 0 ≤ qh) (h3' : qh ≤ 18446744073709551615) (h4 : 0 ≤ ql) (h4' : ql ≤ 18446744073709551615)
    (hs : valW ph pl + valW qh ql < B128) (w : World) :
    Calls Try.prog 70 #[.agg #[.int .u64 ph, .int .u64 pl], .agg #[.int .u64 qh, .int .u64 ql]] w fun e w' =>
      e = .returned (.agg #[.int .u64 (hiW (valW ph pl + valW qh ql)), .int .u64 (loW (valW ph pl + valW qh ql))]) ∧ Below w.heap.size w w' := by
  have e1 : hiW (valW ph pl + valW qh ql) = loW (ph + qh + hiW (pl + ql)) := by
    have := hiW_1 hs
    unfold valW hiW loW at *; omega
  have e2 : loW (valW ph pl + valW qh ql) = loW (pl + ql) := by unfold valW loW; omega
  have c0 : 0 ≤ hiW (pl + ql) := by unfold hiW; omega
  have c1 : hiW (pl + ql) ≤ 1 := by unfold hiW; omega
  rw [e1, e2]
  clear e1 e2 hs
  go_enter Try.func70, Try.ntmps70
  go_wp2_with (first | simp only [add64_0 pl ql h2 h2' h4 h4'] | simp only [add64 ph qh _ h1 h1' h3 h3' c0 c1])
  simp [bodyPost, results, Try.results70, go_sem]
  exact (by repeat (first | with_reducible exact Below.refl _ _ | (with_reducible refine Below.setCell ?_ (by first | exact Nat.le_refl _ | omega | (simp; done) | (simp; omega)) _) | (with_reducible refine Below.alloc ?_ (by first | exact Nat.le_refl _ | omega | (simp; done) | (simp; omega)) _) | with_reducible refine Below.drew ?_ | with_reducible refine bel_drewN ?_ _ | (with_reducible refine bel_by (by with_reducible assumption) (by first | exact Nat.le_refl _ | omega | (simp; done) | (simp; omega)) ?_)))

theorem rminus_any (ph pl qh ql : Int) (h1 : 0 ≤ ph) (h1' : ph ≤ 18446744073709551615) (h2 : 0 ≤ pl) (h2' : pl ≤ 18446744073709551615) (h3 : 0 ≤ qh) (h3' : qh ≤ 18446744073709551615) (h4 : 0 ≤ ql) (h4' : ql ≤ 18446744073709551615)
    (hs : valW qh ql ≤ valW ph pl) (w : World) :
    Calls Try.prog 71 #[.agg #[.int .u64 ph, .int .u64 pl], .agg #[.int .u64 qh, .int .u64 ql]] w fun e w' =>
      e = .returned (.agg #[.int .u64 (hiW (valW ph pl - valW qh ql)), .int .u64 (loW (valW ph pl - valW qh ql))]) ∧ Below w.heap.size w w' := by
  have e1 : hiW (valW ph pl - valW qh ql) = loW (ph - qh - bor pl ql) := by unfold valW hiW loW bor at *; split <;> omega
  have e2 : loW (valW ph pl - valW qh ql) = loW (pl - ql) := by unfold valW loW; omega
  have c0 := bor_0 pl ql
  have c1 := bor_1 pl ql
  rw [e1, e2]
  clear e1 e2 hs
  go_enter Try.func71, Try.ntmps71
  go_wp2_with (first | simp only [sub64_0 pl ql h2 h2' h4 h4'] | simp only [sub64 ph qh _ h1 h1' h3 h3' c0 c1])
  simp [bodyPost, results, Try.results71, go_sem]
  exact (by repeat (first | with_reducible exact Below.refl _ _ | (with_reducible refine Below.setCell ?_ (by first | exact Nat.le_refl _ | omega | (simp; done) | (simp; omega)) _) | (with_reducible refine Below.alloc ?_ (by first | exact Nat.le_refl _ | omega | (simp; done) | (simp; omega)) _) | with_reducible refine Below.drew ?_ | with_reducible refine bel_drewN ?_ _ | (with_reducible refine bel_by (by with_reducible assumption) (by first | exact Nat.le_refl _ | omega | (simp; done) | (simp; omega)) ?_)))

theorem rless_any (ph pl qh ql : Int) (h1 : 0 ≤ ph) (h1' : ph ≤ 18446744073709551615) (h2 : 0 ≤ pl) (h2' : pl ≤ 18446744073709551615) (h3 : 0 ≤ qh) (h3' : qh ≤ 18446744073709551615) (h4 : 0 ≤ ql) (h4' : ql ≤ 18446744073709551615) (w : World) :
    Calls Try.prog 65 #[.agg #[.int .u64 ph, .int .u64 pl], .agg #[.int .u64 qh, .int .u64 ql]] w fun e w' =>
      e = .returned (.bool (decide (valW ph pl < valW qh ql))) ∧ Below w.heap.size w w' := by
  by_cases hl : ph < qh
  · have e1 : decide (valW ph pl < valW qh ql) = true := by unfold valW; simp only [decide_eq_true_eq]; omega
    rw [e1]; clear e1
    go_enter Try.func65, Try.ntmps65
    go_wp2
    go_ret
    exact ⟨rfl, (by repeat (first | with_reducible exact Below.refl _ _ | (with_reducible refine Below.setCell ?_ (by first | exact Nat.le_refl _ | omega | (simp; done) | (simp; omega)) _) | (with_reducible refine Below.alloc ?_ (by first | exact Nat.le_refl _ | omega | (simp; done) | (simp; omega)) _) | with_reducible refine Below.drew ?_ | with_reducible refine bel_drewN ?_ _ | (with_reducible refine bel_by (by with_reducible assumption) (by first | exact Nat.le_refl _ | omega | (simp; done) | (simp; omega)) ?_)))⟩
  · by_cases hh : ph = qh
    · subst hh
      have e1 : decide (valW ph pl < valW ph ql) = decide (pl < ql) := by unfold valW; simp only [decide_eq_decide]; omega
      rw [e1]; clear e1 hl
      go_enter Try.func65, Try.ntmps65
      go_wp2
      go_ret
      exact ⟨rfl, (by repeat (first | with_reducible exact Below.refl _ _ | (with_reducible refine Below.setCell ?_ (by first | exact Nat.le_refl _ | omega | (simp; done) | (simp; omega)) _) | (with_reducible refine Below.alloc ?_ (by first | exact Nat.le_refl _ | omega | (simp; done) | (simp; omega)) _) | with_reducible refine Below.drew ?_ | with_reducible refine bel_drewN ?_ _ | (with_reducible refine bel_by (by with_reducible assumption) (by first | exact Nat.le_refl _ | omega | (simp; done) | (simp; omega)) ?_)))⟩
    · have e1 : decide (valW ph pl < valW qh ql) = false := by unfold valW; simp only [decide_eq_false_iff_not]; omega
      rw [e1]; clear e1
      have t1 : (ph == qh) = false := by simpa using hh
      clear hh
      go_enter Try.func65, Try.ntmps65
      go_wp2
      go_ret
      exact ⟨rfl, (by repeat (first | with_reducible exact Below.refl _ _ | (with_reducible refine Below.setCell ?_ (by first | exact Nat.le_refl _ | omega | (simp; done) | (simp; omega)) _) | (with_reducible refine Below.alloc ?_ (by first | exact Nat.le_refl _ | omega | (simp; done) | (simp; omega)) _) | with_reducible refine Below.drew ?_ | with_reducible refine bel_drewN ?_ _ | (with_reducible refine bel_by (by with_reducible assumption) (by first | exact Nat.le_refl _ | omega | (simp; done) | (simp; omega)) ?_)))⟩

theorem rsmall_any (ph pl : Int) (h1 : 0 ≤ ph) (h2 : 0 ≤ pl) (h2' : pl ≤ 18446744073709551615) (w : World) :
    Calls Try.prog 77 #[.agg #[.int .u64 ph, .int .u64 pl]] w fun e w' => e = .returned (.bool (decide (valW ph pl ≤ 1000000000000000000))) ∧ Below w.heap.size w w' := by
  by_cases hh : ph = 0
  · subst hh
    have e1 : decide (valW 0 pl ≤ 1000000000000000000) = decide (pl ≤ 1000000000000000000) := by unfold valW; simp only [decide_eq_decide]; omega
    rw [e1]; clear e1
    go_enter Try.func77, Try.ntmps77
    go_wp2
    go_ret
    exact ⟨rfl, (by repeat (first | with_reducible exact Below.refl _ _ | (with_reducible refine Below.setCell ?_ (by first | exact Nat.le_refl _ | omega | (simp; done) | (simp; omega)) _) | (with_reducible refine Below.alloc ?_ (by first | exact Nat.le_refl _ | omega | (simp; done) | (simp; omega)) _) | with_reducible refine Below.drew ?_ | with_reducible refine bel_drewN ?_ _ | (with_reducible refine bel_by (by with_reducible assumption) (by first | exact Nat.le_refl _ | omega | (simp; done) | (simp; omega)) ?_)))⟩
  · have e1 : decide (valW ph pl ≤ 1000000000000000000) = false := by unfold valW; simp only [decide_eq_false_iff_not]; omega
    rw [e1]; clear e1
    have t1 : (ph == 0) = false := by simpa using hh
    clear hh
    go_enter Try.func77, Try.ntmps77
    go_wp2
    go_ret
    exact ⟨rfl, (by repeat (first | with_reducible exact Below.refl _ _ | (with_reducible refine Below.setCell ?_ (by first | exact Nat.le_refl _ | omega | (simp; done) | (simp; omega)) _) | (with_reducible refine Below.alloc ?_ (by first | exact Nat.le_refl _ | omega | (simp; done) | (simp; omega)) _) | with_reducible refine Below.drew ?_ | with_reducible refine bel_drewN ?_ _ | (with_reducible refine bel_by (by with_reducible assumption) (by first | exact Nat.le_refl _ | omega | (simp; done) | (simp; omega)) ?_)))⟩

theorem rsize_any (n : Int) (h1 : -9223372036854775808 ≤ n) (h2 : n ≤ 9223372036854775807) (w : World) :
    Calls Try.prog 64 #[.int .i64 n] w fun e w' => e = .returned (.int .u64 (absI n)) ∧ w = w' := by
  by_cases hn : n < 0
  · rw [absI_neg hn]
    go_enter Try.func64, Try.ntmps64
    go_wp2
    go_ret
    refine ⟨?_, rfl⟩
    show Ending.returned (Value.int .u64 _) = _
    rw [show -(n + 1) + 1 = -n from by omega]
  · rw [absI_pos (by omega)]
    go_enter Try.func64, Try.ntmps64
    go_wp2
    go_ret
    exact ⟨rfl, rfl⟩
end Go.Proofs.Ytbjmibaepccbeaa
