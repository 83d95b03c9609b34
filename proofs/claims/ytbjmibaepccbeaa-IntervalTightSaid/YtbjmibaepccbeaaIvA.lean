/- Intervals: the program's Valid, lesser, greater. -/
import Derived.Test.YtbjmibaepccbeaaIvQ
set_option linter.unusedSimpArgs false
set_option linter.unusedVariables false
namespace Go.Proofs.Ytbjmibaepccbeaa
open Go.RowKit
open Iv

structure WfV (v : V) : Prop where
  l : Wf64 v.1
  h : Wf64 v.2
theorem okF_any (f : F) (h : Wf64 f) (w : World) : Calls Try.prog 40 #[(.agg #[.int .i64 (f).1, .int .i64 (f).2])] w fun e w' => e = .returned (.bool (okF f)) ∧ Below w.heap.size w w' := valid_any f.1 f.2 h.1 h.2.1 h.2.2.1 h.2.2.2 w
theorem cmF_any (f g : F) (h : Wf64 f) (h' : Wf64 g) (w : World) : Calls Try.prog 41 #[(.agg #[.int .i64 (f).1, .int .i64 (f).2]), (.agg #[.int .i64 (g).1, .int .i64 (g).2])] w fun e w' => e = .returned (.int .i64 (cmF f g)) ∧ Below w.heap.size w w' := cmp_any f.1 f.2 g.1 g.2 h h' w
theorem les_wf {f g : F} (h : Wf64 f) (h' : Wf64 g) : Wf64 (les f g) := by rcases les_mem f g with e | e <;> rw [e] <;> assumption
theorem gre_wf {f g : F} (h : Wf64 f) (h' : Wf64 g) : Wf64 (gre f g) := by rcases gre_mem f g with e | e <;> rw [e] <;> assumption
set_option maxHeartbeats 1000000 in
set_option maxRecDepth 100000 in
theorem iok_any (v : V) (h : WfV v) (w : World) :
    Calls Try.prog 13 #[(.agg #[.int .i64 (v).1.1, .int .i64 (v).1.2, .int .i64 (v).2.1, .int .i64 (v).2.2])] w fun e w' => e = .returned (.bool (okV v)) ∧ Below w.heap.size w w' := by
  have V1 := fun W => okF_any v.1 h.l W
  have V2 := fun W => okF_any v.2 h.h W
  have C := Lib.hid (fun W => cmF_any v.1 v.2 h.l h.h W)
  unfold okV
  clear h
  obtain ⟨⟨a, b⟩, ⟨c, d⟩⟩ := v
  simp only at *
  generalize okF (a, b) = p at *
  generalize okF (c, d) = r at *
  generalize cmF (a, b) (c, d) = m at *
  have HV1 := Lib.hid V1
  have HV2 := Lib.hid V2
  clear V1 V2
  cases p with
  | false =>
    go_enter Try.func13, Try.ntmps13
    go_wp2_with fail
    refine (HV1.out _).mono ?_
    rintro e w1 ⟨rfl, hb1⟩
    obtain ⟨hc1, hf1⟩ := bcell hb1
    have hz1 := bsize hb1
    (try simp at hz1)
    have k1a : w.heap.size < w1.heap.size := by omega
    go_wp2
    go_ret
    exact ⟨rfl, (by repeat (first | with_reducible exact Below.refl _ _ | (with_reducible refine Below.setCell ?_ (by first | exact Nat.le_refl _ | omega | (simp; done) | (simp; omega)) _) | (with_reducible refine Below.alloc ?_ (by first | exact Nat.le_refl _ | omega | (simp; done) | (simp; omega)) _) | with_reducible refine Below.drew ?_ | with_reducible refine bel_drewN ?_ _ | (with_reducible refine bel_by (by with_reducible assumption) (by first | exact Nat.le_refl _ | omega | (simp; done) | (simp; omega)) ?_)))⟩
  | true =>
    cases r with
    | false =>
      go_enter Try.func13, Try.ntmps13
      go_wp2_with fail
      refine (HV1.out _).mono ?_
      rintro e w1 ⟨rfl, hb1⟩
      obtain ⟨hc1, hf1⟩ := bcell hb1
      have hz1 := bsize hb1
      (try simp at hz1)
      have k1a : w.heap.size < w1.heap.size := by omega
      go_wp2_with fail
      refine (HV2.out _).mono ?_
      rintro e w2 ⟨rfl, hb2⟩
      obtain ⟨hc2, hf2⟩ := bcell hb2
      have hz2 := bsize hb2
      (try simp at hz2)
      have k2a : w.heap.size < w2.heap.size := by omega
      go_wp2
      go_ret
      exact ⟨rfl, (by repeat (first | with_reducible exact Below.refl _ _ | (with_reducible refine Below.setCell ?_ (by first | exact Nat.le_refl _ | omega | (simp; done) | (simp; omega)) _) | (with_reducible refine Below.alloc ?_ (by first | exact Nat.le_refl _ | omega | (simp; done) | (simp; omega)) _) | with_reducible refine Below.drew ?_ | with_reducible refine bel_drewN ?_ _ | (with_reducible refine bel_by (by with_reducible assumption) (by first | exact Nat.le_refl _ | omega | (simp; done) | (simp; omega)) ?_)))⟩
    | true =>
      go_enter Try.func13, Try.ntmps13
      go_wp2_with fail
      refine (HV1.out _).mono ?_
      rintro e w1 ⟨rfl, hb1⟩
      obtain ⟨hc1, hf1⟩ := bcell hb1
      have hz1 := bsize hb1
      (try simp at hz1)
      have k1a : w.heap.size < w1.heap.size := by omega
      go_wp2_with fail
      refine (HV2.out _).mono ?_
      rintro e w2 ⟨rfl, hb2⟩
      obtain ⟨hc2, hf2⟩ := bcell hb2
      have hz2 := bsize hb2
      (try simp at hz2)
      have k2a : w.heap.size < w2.heap.size := by omega
      go_wp2_with fail
      refine (C.out _).mono ?_
      rintro e w3 ⟨rfl, hb3⟩
      obtain ⟨hc3, hf3⟩ := bcell hb3
      have hz3 := bsize hb3
      (try simp at hz3)
      have k3a : w.heap.size < w3.heap.size := by omega
      go_wp2
      go_ret
      exact ⟨rfl, (by repeat (first | with_reducible exact Below.refl _ _ | (with_reducible refine Below.setCell ?_ (by first | exact Nat.le_refl _ | omega | (simp; done) | (simp; omega)) _) | (with_reducible refine Below.alloc ?_ (by first | exact Nat.le_refl _ | omega | (simp; done) | (simp; omega)) _) | with_reducible refine Below.drew ?_ | with_reducible refine bel_drewN ?_ _ | (with_reducible refine bel_by (by with_reducible assumption) (by first | exact Nat.le_refl _ | omega | (simp; done) | (simp; omega)) ?_)))⟩
set_option maxHeartbeats 1000000 in
theorem ilesser_any (f g : F) (hf : Wf64 f) (hg : Wf64 g) (w : World) :
    Calls Try.prog 53 #[(.agg #[.int .i64 (f).1, .int .i64 (f).2]), (.agg #[.int .i64 (g).1, .int .i64 (g).2])] w fun e w' => e = .returned (.agg #[.int .i64 ((les f g)).1, .int .i64 ((les f g)).2]) ∧ Below w.heap.size w w' := by
  have HC := Lib.hid (fun W => cmF_any f g hf hg W)
  clear hf hg
  obtain ⟨a, b⟩ := f
  obtain ⟨x, y⟩ := g
  simp only at *
  by_cases h : 0 < cmF (a, b) (x, y)
  · have e0 : les (a, b) (x, y) = (x, y) := by unfold les; rw [if_pos h]
    rw [e0]
    clear e0
    generalize cmF (a, b) (x, y) = c at *
    have h1 : c > 0 := by omega
    clear h
    go_enter Try.func53, Try.ntmps53
    go_wp2_with fail
    refine (HC.out _).mono ?_
    rintro e w1 ⟨rfl, hb1⟩
    obtain ⟨hc1, hf1⟩ := bcell hb1
    have hz1 := bsize hb1
    (try simp at hz1)
    have k1a : w.heap.size < w1.heap.size := by omega
    have k1b : w.heap.size + 1 < w1.heap.size := by omega
    have k1c : w.heap.size + 1 + 1 < w1.heap.size := by omega
    go_wp2
    refine bodyPost_ret (v := (.agg #[.int .i64 ((x, y)).1, .int .i64 ((x, y)).2])) (by simp [results, Try.results53, go_sem, hc1, hf1, hz1, k1a, k1b, k1c]) rfl ⟨rfl, (by repeat (first | with_reducible exact Below.refl _ _ | (with_reducible refine Below.setCell ?_ (by first | exact Nat.le_refl _ | omega | (simp; done) | (simp; omega)) _) | (with_reducible refine Below.alloc ?_ (by first | exact Nat.le_refl _ | omega | (simp; done) | (simp; omega)) _) | with_reducible refine Below.drew ?_ | with_reducible refine bel_drewN ?_ _ | (with_reducible refine bel_by (by with_reducible assumption) (by first | exact Nat.le_refl _ | omega | (simp; done) | (simp; omega)) ?_)))⟩
  · have e0 : les (a, b) (x, y) = (a, b) := by unfold les; rw [if_neg h]
    rw [e0]
    clear e0
    generalize cmF (a, b) (x, y) = c at *
    have h1 : ¬ c > 0 := by omega
    clear h
    go_enter Try.func53, Try.ntmps53
    go_wp2_with fail
    refine (HC.out _).mono ?_
    rintro e w1 ⟨rfl, hb1⟩
    obtain ⟨hc1, hf1⟩ := bcell hb1
    have hz1 := bsize hb1
    (try simp at hz1)
    have k1a : w.heap.size < w1.heap.size := by omega
    have k1b : w.heap.size + 1 < w1.heap.size := by omega
    have k1c : w.heap.size + 1 + 1 < w1.heap.size := by omega
    go_wp2
    refine bodyPost_ret (v := (.agg #[.int .i64 ((a, b)).1, .int .i64 ((a, b)).2])) (by simp [results, Try.results53, go_sem, hc1, hf1, hz1, k1a, k1b, k1c]) rfl ⟨rfl, (by repeat (first | with_reducible exact Below.refl _ _ | (with_reducible refine Below.setCell ?_ (by first | exact Nat.le_refl _ | omega | (simp; done) | (simp; omega)) _) | (with_reducible refine Below.alloc ?_ (by first | exact Nat.le_refl _ | omega | (simp; done) | (simp; omega)) _) | with_reducible refine Below.drew ?_ | with_reducible refine bel_drewN ?_ _ | (with_reducible refine bel_by (by with_reducible assumption) (by first | exact Nat.le_refl _ | omega | (simp; done) | (simp; omega)) ?_)))⟩
set_option maxHeartbeats 1000000 in
theorem igreater_any (f g : F) (hf : Wf64 f) (hg : Wf64 g) (w : World) :
    Calls Try.prog 54 #[(.agg #[.int .i64 (f).1, .int .i64 (f).2]), (.agg #[.int .i64 (g).1, .int .i64 (g).2])] w fun e w' => e = .returned (.agg #[.int .i64 ((gre f g)).1, .int .i64 ((gre f g)).2]) ∧ Below w.heap.size w w' := by
  have HC := Lib.hid (fun W => cmF_any f g hf hg W)
  clear hf hg
  obtain ⟨a, b⟩ := f
  obtain ⟨x, y⟩ := g
  simp only at *
  by_cases h : cmF (a, b) (x, y) < 0
  · have e0 : gre (a, b) (x, y) = (x, y) := by unfold gre; rw [if_pos h]
    rw [e0]
    clear e0
    generalize cmF (a, b) (x, y) = c at *
    have h1 : c < 0 := by omega
    clear h
    go_enter Try.func54, Try.ntmps54
    go_wp2_with fail
    refine (HC.out _).mono ?_
    rintro e w1 ⟨rfl, hb1⟩
    obtain ⟨hc1, hf1⟩ := bcell hb1
    have hz1 := bsize hb1
    (try simp at hz1)
    have k1a : w.heap.size < w1.heap.size := by omega
    have k1b : w.heap.size + 1 < w1.heap.size := by omega
    have k1c : w.heap.size + 1 + 1 < w1.heap.size := by omega
    go_wp2
    refine bodyPost_ret (v := (.agg #[.int .i64 ((x, y)).1, .int .i64 ((x, y)).2])) (by simp [results, Try.results54, go_sem, hc1, hf1, hz1, k1a, k1b, k1c]) rfl ⟨rfl, (by repeat (first | with_reducible exact Below.refl _ _ | (with_reducible refine Below.setCell ?_ (by first | exact Nat.le_refl _ | omega | (simp; done) | (simp; omega)) _) | (with_reducible refine Below.alloc ?_ (by first | exact Nat.le_refl _ | omega | (simp; done) | (simp; omega)) _) | with_reducible refine Below.drew ?_ | with_reducible refine bel_drewN ?_ _ | (with_reducible refine bel_by (by with_reducible assumption) (by first | exact Nat.le_refl _ | omega | (simp; done) | (simp; omega)) ?_)))⟩
  · have e0 : gre (a, b) (x, y) = (a, b) := by unfold gre; rw [if_neg h]
    rw [e0]
    clear e0
    generalize cmF (a, b) (x, y) = c at *
    have h1 : ¬ c < 0 := by omega
    clear h
    go_enter Try.func54, Try.ntmps54
    go_wp2_with fail
    refine (HC.out _).mono ?_
    rintro e w1 ⟨rfl, hb1⟩
    obtain ⟨hc1, hf1⟩ := bcell hb1
    have hz1 := bsize hb1
    (try simp at hz1)
    have k1a : w.heap.size < w1.heap.size := by omega
    have k1b : w.heap.size + 1 < w1.heap.size := by omega
    have k1c : w.heap.size + 1 + 1 < w1.heap.size := by omega
    go_wp2
    refine bodyPost_ret (v := (.agg #[.int .i64 ((a, b)).1, .int .i64 ((a, b)).2])) (by simp [results, Try.results54, go_sem, hc1, hf1, hz1, k1a, k1b, k1c]) rfl ⟨rfl, (by repeat (first | with_reducible exact Below.refl _ _ | (with_reducible refine Below.setCell ?_ (by first | exact Nat.le_refl _ | omega | (simp; done) | (simp; omega)) _) | (with_reducible refine Below.alloc ?_ (by first | exact Nat.le_refl _ | omega | (simp; done) | (simp; omega)) _) | with_reducible refine Below.drew ?_ | with_reducible refine bel_drewN ?_ _ | (with_reducible refine bel_by (by with_reducible assumption) (by first | exact Nat.le_refl _ | omega | (simp; done) | (simp; omega)) ?_)))⟩
end Go.Proofs.Ytbjmibaepccbeaa
