/- Intervals: the program's Inside, Contains, Make. -/
import Derived.Test.YtbjmibaepccbeaaIvO
set_option linter.unusedSimpArgs false
set_option linter.unusedVariables false
namespace Go.Proofs.Ytbjmibaepccbeaa
open Go.RowKit
open Iv

set_option maxHeartbeats 4000000 in
set_option maxRecDepth 100000 in
theorem iinside_any (a b : V) (ha : WfV a) (hb : WfV b) (w : World) :
    Calls Try.prog 16 #[(.agg #[.int .i64 (a).1.1, .int .i64 (a).1.2, .int .i64 (a).2.1, .int .i64 (a).2.2]), (.agg #[.int .i64 (b).1.1, .int .i64 (b).1.2, .int .i64 (b).2.1, .int .i64 (b).2.2])] w fun e w' => e = .returned (.bool (insV a b)) ∧ Below w.heap.size w w' := by
  have HV := Lib.hid (ivalid2_any a b ha hb)
  have C1 := Lib.hid (cmF_any b.1 a.1 hb.l ha.l)
  have C2 := Lib.hid (cmF_any a.2 b.2 ha.h hb.h)
  clear ha hb
  unfold insV
  cases hv : (okV a && okV b)
  all_goals
    rw [hv] at HV
    clear hv
  · obtain ⟨⟨a1, a2⟩, ⟨a3, a4⟩⟩ := a
    obtain ⟨⟨b1, b2⟩, ⟨b3, b4⟩⟩ := b
    simp only at *
    clear C1 C2
    go_enter Try.func16, Try.ntmps16
    go_wp2_with fail
    refine (HV.out _ _ ?_ ?_).mono ?_
    · simp
    · exact vs_two (by simp [go_sem]) (by simp [go_sem]) (by simp [go_sem]) (by simp [go_sem]) (by simp [go_sem]) (by simp [go_sem]) (by simp [go_sem]) (by simp [go_sem])
    rintro e w1 ⟨rfl, hb1⟩
    obtain ⟨hc1, hf1⟩ := bcell hb1
    have hz1 := bsize hb1
    (try simp at hz1)
    have k1a : w.heap.size < w1.heap.size := by omega
    have k1b : w.heap.size + 1 < w1.heap.size := by omega
    go_wp2
    go_ret
    exact ⟨rfl, (by repeat (first | with_reducible exact Below.refl _ _ | (with_reducible refine Below.setCell ?_ (by first | exact Nat.le_refl _ | omega | (simp; done) | (simp; omega)) _) | (with_reducible refine Below.alloc ?_ (by first | exact Nat.le_refl _ | omega | (simp; done) | (simp; omega)) _) | with_reducible refine Below.drew ?_ | with_reducible refine bel_drewN ?_ _ | (with_reducible refine bel_by (by with_reducible assumption) (by first | exact Nat.le_refl _ | omega | (simp; done) | (simp; omega)) ?_)))⟩
  · generalize cmF b.1 a.1 = c at *
    generalize cmF a.2 b.2 = d at *
    obtain ⟨⟨a1, a2⟩, ⟨a3, a4⟩⟩ := a
    obtain ⟨⟨b1, b2⟩, ⟨b3, b4⟩⟩ := b
    simp only at *
    by_cases h1 : c ≤ 0
    · rw [decide_eq_true h1]
      have e1 : decide (c ≤ 0) = true := decide_eq_true h1
      go_enter Try.func16, Try.ntmps16
      go_wp2_with fail
      refine (HV.out _ _ ?_ ?_).mono ?_
      · simp
      · exact vs_two (by simp [go_sem]) (by simp [go_sem]) (by simp [go_sem]) (by simp [go_sem]) (by simp [go_sem]) (by simp [go_sem]) (by simp [go_sem]) (by simp [go_sem])
      rintro e w1 ⟨rfl, hb1⟩
      obtain ⟨hc1, hf1⟩ := bcell hb1
      have hz1 := bsize hb1
      (try simp at hz1)
      have k1a : w.heap.size < w1.heap.size := by omega
      have k1b : w.heap.size + 1 < w1.heap.size := by omega
      go_wp2_with fail
      refine (C1.out _).mono ?_
      rintro e w2 ⟨rfl, hb2⟩
      obtain ⟨hc2, hf2⟩ := bcell hb2
      have hz2 := bsize hb2
      (try simp at hz2)
      have k2a : w.heap.size < w2.heap.size := by omega
      have k2b : w.heap.size + 1 < w2.heap.size := by omega
      go_wp2_with fail
      refine (C2.out _).mono ?_
      rintro e w3 ⟨rfl, hb3⟩
      obtain ⟨hc3, hf3⟩ := bcell hb3
      have hz3 := bsize hb3
      (try simp at hz3)
      have k3a : w.heap.size < w3.heap.size := by omega
      have k3b : w.heap.size + 1 < w3.heap.size := by omega
      go_wp2
      go_ret
      exact ⟨rfl, (by repeat (first | with_reducible exact Below.refl _ _ | (with_reducible refine Below.setCell ?_ (by first | exact Nat.le_refl _ | omega | (simp; done) | (simp; omega)) _) | (with_reducible refine Below.alloc ?_ (by first | exact Nat.le_refl _ | omega | (simp; done) | (simp; omega)) _) | with_reducible refine Below.drew ?_ | with_reducible refine bel_drewN ?_ _ | (with_reducible refine bel_by (by with_reducible assumption) (by first | exact Nat.le_refl _ | omega | (simp; done) | (simp; omega)) ?_)))⟩
    · rw [decide_eq_false h1]
      have e1 : decide (c ≤ 0) = false := decide_eq_false h1
      clear C2
      go_enter Try.func16, Try.ntmps16
      go_wp2_with fail
      refine (HV.out _ _ ?_ ?_).mono ?_
      · simp
      · exact vs_two (by simp [go_sem]) (by simp [go_sem]) (by simp [go_sem]) (by simp [go_sem]) (by simp [go_sem]) (by simp [go_sem]) (by simp [go_sem]) (by simp [go_sem])
      rintro e w1 ⟨rfl, hb1⟩
      obtain ⟨hc1, hf1⟩ := bcell hb1
      have hz1 := bsize hb1
      (try simp at hz1)
      have k1a : w.heap.size < w1.heap.size := by omega
      have k1b : w.heap.size + 1 < w1.heap.size := by omega
      go_wp2_with fail
      refine (C1.out _).mono ?_
      rintro e w2 ⟨rfl, hb2⟩
      obtain ⟨hc2, hf2⟩ := bcell hb2
      have hz2 := bsize hb2
      (try simp at hz2)
      have k2a : w.heap.size < w2.heap.size := by omega
      have k2b : w.heap.size + 1 < w2.heap.size := by omega
      go_wp2
      go_ret
      exact ⟨rfl, (by repeat (first | with_reducible exact Below.refl _ _ | (with_reducible refine Below.setCell ?_ (by first | exact Nat.le_refl _ | omega | (simp; done) | (simp; omega)) _) | (with_reducible refine Below.alloc ?_ (by first | exact Nat.le_refl _ | omega | (simp; done) | (simp; omega)) _) | with_reducible refine Below.drew ?_ | with_reducible refine bel_drewN ?_ _ | (with_reducible refine bel_by (by with_reducible assumption) (by first | exact Nat.le_refl _ | omega | (simp; done) | (simp; omega)) ?_)))⟩
set_option maxHeartbeats 1000000 in
theorem icontains_any (a : V) (f : F) (ha : WfV a) (hf : Wf64 f) (w : World) :
    Calls Try.prog 14 #[(.agg #[.int .i64 (a).1.1, .int .i64 (a).1.2, .int .i64 (a).2.1, .int .i64 (a).2.2]), (.agg #[.int .i64 (f).1, .int .i64 (f).2])] w fun e w' => e = .returned (.bool (conV a f)) ∧ Below w.heap.size w w' := by
  have H := Lib.hid (iinside_any (f, f) a ⟨hf, hf⟩ ha)
  rw [con_ins] at H
  clear ha hf
  generalize conV a f = v at *
  obtain ⟨⟨a1, a2⟩, ⟨a3, a4⟩⟩ := a
  obtain ⟨f1, f2⟩ := f
  simp only at *
  go_enter Try.func14, Try.ntmps14
  go_wp2_with fail
  refine (H.out _).mono ?_
  rintro e w1 ⟨rfl, hb1⟩
  go_wp2
  go_ret
  exact ⟨rfl, (by repeat (first | with_reducible exact Below.refl _ _ | (with_reducible refine Below.setCell ?_ (by first | exact Nat.le_refl _ | omega | (simp; done) | (simp; omega)) _) | (with_reducible refine Below.alloc ?_ (by first | exact Nat.le_refl _ | omega | (simp; done) | (simp; omega)) _) | with_reducible refine Below.drew ?_ | with_reducible refine bel_drewN ?_ _ | (with_reducible refine bel_by (by with_reducible assumption) (by first | exact Nat.le_refl _ | omega | (simp; done) | (simp; omega)) ?_)))⟩
def makeV (lo hi : F) : V × Int := if okV (lo, hi) = true then ((lo, hi), 0) else (zV, 1)
set_option maxHeartbeats 1000000 in
theorem imake_any (f g : F) (hf : Wf64 f) (hg : Wf64 g) (w : World) :
    Calls Try.prog 11 #[(.agg #[.int .i64 (f).1, .int .i64 (f).2]), (.agg #[.int .i64 (g).1, .int .i64 (g).2])] w fun e w' => e = .returned (.tuple #[(.agg #[.int .i64 ((makeV f g).1).1.1, .int .i64 ((makeV f g).1).1.2, .int .i64 ((makeV f g).1).2.1, .int .i64 ((makeV f g).1).2.2]), .int .i64 (makeV f g).2]) ∧ Below w.heap.size w w' := by
  have H := Lib.hid (iok_any (f, g) ⟨hf, hg⟩)
  unfold makeV
  clear hf hg
  cases hv : okV (f, g)
  all_goals
    rw [hv] at H
    clear hv
    obtain ⟨f1, f2⟩ := f
    obtain ⟨g1, g2⟩ := g
    simp only at *
  · rw [if_neg (by simp)]
    go_enter Try.func11, Try.ntmps11
    go_wp2_with fail
    refine (H.out _).mono ?_
    rintro e w1 ⟨rfl, hb1⟩
    obtain ⟨hc1, hf1⟩ := bcell hb1
    have hz1 := bsize hb1
    (try simp at hz1)
    have k1a : w.heap.size < w1.heap.size := by omega
    have k1b : w.heap.size + 1 < w1.heap.size := by omega
    have k1c : w.heap.size + 1 + 1 < w1.heap.size := by omega
    go_wp2
    refine bodyPost_ret (v := .tuple #[.agg #[.int .i64 0, .int .i64 0, .int .i64 0, .int .i64 0], .int .i64 1]) (by simp [results, Try.results11, go_sem, hc1, hf1, k1a, k1b, k1c]) rfl ⟨rfl, (by repeat (first | with_reducible exact Below.refl _ _ | (with_reducible refine Below.setCell ?_ (by first | exact Nat.le_refl _ | omega | (simp; done) | (simp; omega)) _) | (with_reducible refine Below.alloc ?_ (by first | exact Nat.le_refl _ | omega | (simp; done) | (simp; omega)) _) | with_reducible refine Below.drew ?_ | with_reducible refine bel_drewN ?_ _ | (with_reducible refine bel_by (by with_reducible assumption) (by first | exact Nat.le_refl _ | omega | (simp; done) | (simp; omega)) ?_)))⟩
  · simp only [if_true]
    go_enter Try.func11, Try.ntmps11
    go_wp2_with fail
    refine (H.out _).mono ?_
    rintro e w1 ⟨rfl, hb1⟩
    obtain ⟨hc1, hf1⟩ := bcell hb1
    have hz1 := bsize hb1
    (try simp at hz1)
    have k1a : w.heap.size < w1.heap.size := by omega
    have k1b : w.heap.size + 1 < w1.heap.size := by omega
    have k1c : w.heap.size + 1 + 1 < w1.heap.size := by omega
    have k1d : w.heap.size + 1 + 1 + 1 < w1.heap.size := by omega
    go_wp2
    refine bodyPost_ret (v := .tuple #[.agg #[.int .i64 f1, .int .i64 f2, .int .i64 g1, .int .i64 g2], .int .i64 0]) (by simp [results, Try.results11, go_sem, hc1, hf1, k1a, k1b, k1c, k1d]) rfl ⟨rfl, (by repeat (first | with_reducible exact Below.refl _ _ | (with_reducible refine Below.setCell ?_ (by first | exact Nat.le_refl _ | omega | (simp; done) | (simp; omega)) _) | (with_reducible refine Below.alloc ?_ (by first | exact Nat.le_refl _ | omega | (simp; done) | (simp; omega)) _) | with_reducible refine Below.drew ?_ | with_reducible refine bel_drewN ?_ _ | (with_reducible refine bel_by (by with_reducible assumption) (by first | exact Nat.le_refl _ | omega | (simp; done) | (simp; omega)) ?_)))⟩
end Go.Proofs.Ytbjmibaepccbeaa
