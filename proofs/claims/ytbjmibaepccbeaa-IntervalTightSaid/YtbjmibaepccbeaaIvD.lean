/- Intervals: the law's do; the reference's Do and ends. -/
import Derived.Test.YtbjmibaepccbeaaIvN
import Derived.Test.YtbjmibaepccbeaaRefG
set_option linter.unusedSimpArgs false
set_option linter.unusedVariables false
namespace Go.Proofs.Ytbjmibaepccbeaa
open Go.RowKit
open Iv

set_option maxHeartbeats 4000000 in
set_option maxRecDepth 100000 in
theorem do_any (op : Nat) (hop : op < 5) (a b : V) (ha : WfV a) (hb : WfV b) (w : World) :
    Calls Try.prog 18 #[.int .i64 (op : Int), (.agg #[.int .i64 (a).1.1, .int .i64 (a).1.2, .int .i64 (a).2.1, .int .i64 (a).2.2]), (.agg #[.int .i64 (b).1.1, .int .i64 (b).1.2, .int .i64 (b).2.1, .int .i64 (b).2.2])] w fun e w' => e = .returned (.tuple #[(.agg #[.int .i64 ((doV op a b).1).1.1, .int .i64 ((doV op a b).1).1.2, .int .i64 ((doV op a b).1).2.1, .int .i64 ((doV op a b).1).2.2]), .int .i64 (doV op a b).2]) ∧ Below w.heap.size w w' := by
  match op, hop with
  | 0, _ =>
    have H := Lib.hid (iadd_any a b ha hb)
    clear ha hb
    obtain ⟨X, hX⟩ : ∃ X, doV 0 a b = X := ⟨_, rfl⟩
    rw [hX] at H ⊢
    clear hX
    obtain ⟨⟨a1, a2⟩, ⟨a3, a4⟩⟩ := a
    obtain ⟨⟨b1, b2⟩, ⟨b3, b4⟩⟩ := b
    obtain ⟨⟨⟨x1, x2⟩, ⟨x3, x4⟩⟩, xe⟩ := X
    simp only at *
    go_enter Try.func18, Try.ntmps18
    go_wp2_with fail
    refine (H.out _).mono ?_
    rintro e w1 ⟨rfl, hb1⟩
    obtain ⟨hc1, hf1⟩ := bcell hb1
    have hz1 := bsize hb1
    (try simp at hz1)
    have k1a : w.heap.size < w1.heap.size := by omega
    have k1b : w.heap.size + 1 < w1.heap.size := by omega
    have k1c : w.heap.size + 1 + 1 < w1.heap.size := by omega
    go_wp2
    refine bodyPost_ret (v := .tuple #[.agg #[.int .i64 x1, .int .i64 x2, .int .i64 x3, .int .i64 x4], .int .i64 xe]) (by simp [results, Try.results18, go_sem, hc1, hf1, k1a, k1b, k1c]) rfl ⟨rfl, (by repeat (first | with_reducible exact Below.refl _ _ | (with_reducible refine Below.setCell ?_ (by first | exact Nat.le_refl _ | omega | (simp; done) | (simp; omega)) _) | (with_reducible refine Below.alloc ?_ (by first | exact Nat.le_refl _ | omega | (simp; done) | (simp; omega)) _) | with_reducible refine Below.drew ?_ | with_reducible refine bel_drewN ?_ _ | (with_reducible refine bel_by (by with_reducible assumption) (by first | exact Nat.le_refl _ | omega | (simp; done) | (simp; omega)) ?_)))⟩
  | 1, _ =>
    have H := Lib.hid (isub_any a b ha hb)
    clear ha hb
    obtain ⟨X, hX⟩ : ∃ X, doV 1 a b = X := ⟨_, rfl⟩
    rw [hX] at H ⊢
    clear hX
    obtain ⟨⟨a1, a2⟩, ⟨a3, a4⟩⟩ := a
    obtain ⟨⟨b1, b2⟩, ⟨b3, b4⟩⟩ := b
    obtain ⟨⟨⟨x1, x2⟩, ⟨x3, x4⟩⟩, xe⟩ := X
    simp only at *
    go_enter Try.func18, Try.ntmps18
    go_wp2_with fail
    refine (H.out _).mono ?_
    rintro e w1 ⟨rfl, hb1⟩
    obtain ⟨hc1, hf1⟩ := bcell hb1
    have hz1 := bsize hb1
    (try simp at hz1)
    have k1a : w.heap.size < w1.heap.size := by omega
    have k1b : w.heap.size + 1 < w1.heap.size := by omega
    have k1c : w.heap.size + 1 + 1 < w1.heap.size := by omega
    go_wp2
    refine bodyPost_ret (v := .tuple #[.agg #[.int .i64 x1, .int .i64 x2, .int .i64 x3, .int .i64 x4], .int .i64 xe]) (by simp [results, Try.results18, go_sem, hc1, hf1, k1a, k1b, k1c]) rfl ⟨rfl, (by repeat (first | with_reducible exact Below.refl _ _ | (with_reducible refine Below.setCell ?_ (by first | exact Nat.le_refl _ | omega | (simp; done) | (simp; omega)) _) | (with_reducible refine Below.alloc ?_ (by first | exact Nat.le_refl _ | omega | (simp; done) | (simp; omega)) _) | with_reducible refine Below.drew ?_ | with_reducible refine bel_drewN ?_ _ | (with_reducible refine bel_by (by with_reducible assumption) (by first | exact Nat.le_refl _ | omega | (simp; done) | (simp; omega)) ?_)))⟩
  | 2, _ =>
    have H := Lib.hid (imul_any a b ha hb)
    clear ha hb
    obtain ⟨X, hX⟩ : ∃ X, doV 2 a b = X := ⟨_, rfl⟩
    rw [hX] at H ⊢
    clear hX
    obtain ⟨⟨a1, a2⟩, ⟨a3, a4⟩⟩ := a
    obtain ⟨⟨b1, b2⟩, ⟨b3, b4⟩⟩ := b
    obtain ⟨⟨⟨x1, x2⟩, ⟨x3, x4⟩⟩, xe⟩ := X
    simp only at *
    go_enter Try.func18, Try.ntmps18
    go_wp2_with fail
    refine (H.out _).mono ?_
    rintro e w1 ⟨rfl, hb1⟩
    obtain ⟨hc1, hf1⟩ := bcell hb1
    have hz1 := bsize hb1
    (try simp at hz1)
    have k1a : w.heap.size < w1.heap.size := by omega
    have k1b : w.heap.size + 1 < w1.heap.size := by omega
    have k1c : w.heap.size + 1 + 1 < w1.heap.size := by omega
    go_wp2
    refine bodyPost_ret (v := .tuple #[.agg #[.int .i64 x1, .int .i64 x2, .int .i64 x3, .int .i64 x4], .int .i64 xe]) (by simp [results, Try.results18, go_sem, hc1, hf1, k1a, k1b, k1c]) rfl ⟨rfl, (by repeat (first | with_reducible exact Below.refl _ _ | (with_reducible refine Below.setCell ?_ (by first | exact Nat.le_refl _ | omega | (simp; done) | (simp; omega)) _) | (with_reducible refine Below.alloc ?_ (by first | exact Nat.le_refl _ | omega | (simp; done) | (simp; omega)) _) | with_reducible refine Below.drew ?_ | with_reducible refine bel_drewN ?_ _ | (with_reducible refine bel_by (by with_reducible assumption) (by first | exact Nat.le_refl _ | omega | (simp; done) | (simp; omega)) ?_)))⟩
  | 3, _ =>
    have H := Lib.hid (imin_any a b ha hb)
    clear ha hb
    obtain ⟨X, hX⟩ : ∃ X, doV 3 a b = X := ⟨_, rfl⟩
    rw [hX] at H ⊢
    clear hX
    obtain ⟨⟨a1, a2⟩, ⟨a3, a4⟩⟩ := a
    obtain ⟨⟨b1, b2⟩, ⟨b3, b4⟩⟩ := b
    obtain ⟨⟨⟨x1, x2⟩, ⟨x3, x4⟩⟩, xe⟩ := X
    simp only at *
    go_enter Try.func18, Try.ntmps18
    go_wp2_with fail
    refine (H.out _).mono ?_
    rintro e w1 ⟨rfl, hb1⟩
    obtain ⟨hc1, hf1⟩ := bcell hb1
    have hz1 := bsize hb1
    (try simp at hz1)
    have k1a : w.heap.size < w1.heap.size := by omega
    have k1b : w.heap.size + 1 < w1.heap.size := by omega
    have k1c : w.heap.size + 1 + 1 < w1.heap.size := by omega
    go_wp2
    refine bodyPost_ret (v := .tuple #[.agg #[.int .i64 x1, .int .i64 x2, .int .i64 x3, .int .i64 x4], .int .i64 xe]) (by simp [results, Try.results18, go_sem, hc1, hf1, k1a, k1b, k1c]) rfl ⟨rfl, (by repeat (first | with_reducible exact Below.refl _ _ | (with_reducible refine Below.setCell ?_ (by first | exact Nat.le_refl _ | omega | (simp; done) | (simp; omega)) _) | (with_reducible refine Below.alloc ?_ (by first | exact Nat.le_refl _ | omega | (simp; done) | (simp; omega)) _) | with_reducible refine Below.drew ?_ | with_reducible refine bel_drewN ?_ _ | (with_reducible refine bel_by (by with_reducible assumption) (by first | exact Nat.le_refl _ | omega | (simp; done) | (simp; omega)) ?_)))⟩
  | 4, _ =>
    have H := Lib.hid (imax_any a b ha hb)
    clear ha hb
    obtain ⟨X, hX⟩ : ∃ X, doV 4 a b = X := ⟨_, rfl⟩
    rw [hX] at H ⊢
    clear hX
    obtain ⟨⟨a1, a2⟩, ⟨a3, a4⟩⟩ := a
    obtain ⟨⟨b1, b2⟩, ⟨b3, b4⟩⟩ := b
    obtain ⟨⟨⟨x1, x2⟩, ⟨x3, x4⟩⟩, xe⟩ := X
    simp only at *
    go_enter Try.func18, Try.ntmps18
    go_wp2_with fail
    refine (H.out _).mono ?_
    rintro e w1 ⟨rfl, hb1⟩
    obtain ⟨hc1, hf1⟩ := bcell hb1
    have hz1 := bsize hb1
    (try simp at hz1)
    have k1a : w.heap.size < w1.heap.size := by omega
    have k1b : w.heap.size + 1 < w1.heap.size := by omega
    have k1c : w.heap.size + 1 + 1 < w1.heap.size := by omega
    go_wp2
    refine bodyPost_ret (v := .tuple #[.agg #[.int .i64 x1, .int .i64 x2, .int .i64 x3, .int .i64 x4], .int .i64 xe]) (by simp [results, Try.results18, go_sem, hc1, hf1, k1a, k1b, k1c]) rfl ⟨rfl, (by repeat (first | with_reducible exact Below.refl _ _ | (with_reducible refine Below.setCell ?_ (by first | exact Nat.le_refl _ | omega | (simp; done) | (simp; omega)) _) | (with_reducible refine Below.alloc ?_ (by first | exact Nat.le_refl _ | omega | (simp; done) | (simp; omega)) _) | with_reducible refine Below.drew ?_ | with_reducible refine bel_drewN ?_ _ | (with_reducible refine bel_by (by with_reducible assumption) (by first | exact Nat.le_refl _ | omega | (simp; done) | (simp; omega)) ?_)))⟩
theorem opR_wfa (op : Nat) (x y : F) (hx : Wf64 x) (hy : Wf64 y) : Wf64 (opR op x y).1 := by
  by_cases h3 : op = 3
  · subst h3; exact les_wf hx hy
  · by_cases h4 : op = 4
    · subst h4; exact gre_wf hx hy
    · exact opR_wf op h3 h4 x y
set_option maxHeartbeats 4000000 in
set_option maxRecDepth 100000 in
theorem rdo_any (op : Nat) (hop : op < 6) (a b : F) (ha : Wf64 a) (hb : Wf64 b) (w : World) :
    Calls Try.prog 31 #[.int .i64 (op : Int), (.agg #[.int .i64 (a).1, .int .i64 (a).2]), (.agg #[.int .i64 (b).1, .int .i64 (b).2])] w fun e w' => e = .returned (.tuple #[(.agg #[.int .i64 ((opR op a b).1).1, .int .i64 ((opR op a b).1).2]), .int .i64 (opR op a b).2]) ∧ Below w.heap.size w w' := by
  match op, hop with
  | 0, _ =>
    have H := Lib.hid (show ∀ W : World, Calls Try.prog 55 #[(.agg #[.int .i64 (a).1, .int .i64 (a).2]), (.agg #[.int .i64 (b).1, .int .i64 (b).2])] W fun e w' => e = .returned (.tuple #[(.agg #[.int .i64 ((opR 0 a b).1).1, .int .i64 ((opR 0 a b).1).2]), .int .i64 (opR 0 a b).2]) ∧ Below W.heap.size W w' from fun W => radd_any a.1 a.2 b.1 b.2 ha hb W)
    clear ha hb
    obtain ⟨X, hX⟩ : ∃ X, opR 0 a b = X := ⟨_, rfl⟩
    rw [hX] at H ⊢
    clear hX
    obtain ⟨a1, a2⟩ := a
    obtain ⟨b1, b2⟩ := b
    obtain ⟨⟨x1, x2⟩, xe⟩ := X
    simp only at *
    go_enter Try.func31, Try.ntmps31
    go_wp2_with fail
    refine (H.out _).mono ?_
    rintro e w1 ⟨rfl, hb1⟩
    obtain ⟨hc1, hf1⟩ := bcell hb1
    have hz1 := bsize hb1
    (try simp at hz1)
    have k1a : w.heap.size < w1.heap.size := by omega
    have k1b : w.heap.size + 1 < w1.heap.size := by omega
    have k1c : w.heap.size + 1 + 1 < w1.heap.size := by omega
    go_wp2
    refine bodyPost_ret (v := .tuple #[.agg #[.int .i64 x1, .int .i64 x2], .int .i64 xe]) (by simp [results, Try.results31, go_sem, hc1, hf1, k1a, k1b, k1c]) rfl ⟨rfl, (by repeat (first | with_reducible exact Below.refl _ _ | (with_reducible refine Below.setCell ?_ (by first | exact Nat.le_refl _ | omega | (simp; done) | (simp; omega)) _) | (with_reducible refine Below.alloc ?_ (by first | exact Nat.le_refl _ | omega | (simp; done) | (simp; omega)) _) | with_reducible refine Below.drew ?_ | with_reducible refine bel_drewN ?_ _ | (with_reducible refine bel_by (by with_reducible assumption) (by first | exact Nat.le_refl _ | omega | (simp; done) | (simp; omega)) ?_)))⟩
  | 1, _ =>
    have H := Lib.hid (show ∀ W : World, Calls Try.prog 51 #[(.agg #[.int .i64 (a).1, .int .i64 (a).2]), (.agg #[.int .i64 (b).1, .int .i64 (b).2])] W fun e w' => e = .returned (.tuple #[(.agg #[.int .i64 ((opR 1 a b).1).1, .int .i64 ((opR 1 a b).1).2]), .int .i64 (opR 1 a b).2]) ∧ Below W.heap.size W w' from fun W => rsub_any a.1 a.2 b.1 b.2 ha hb W)
    clear ha hb
    obtain ⟨X, hX⟩ : ∃ X, opR 1 a b = X := ⟨_, rfl⟩
    rw [hX] at H ⊢
    clear hX
    obtain ⟨a1, a2⟩ := a
    obtain ⟨b1, b2⟩ := b
    obtain ⟨⟨x1, x2⟩, xe⟩ := X
    simp only at *
    go_enter Try.func31, Try.ntmps31
    go_wp2_with fail
    refine (H.out _).mono ?_
    rintro e w1 ⟨rfl, hb1⟩
    obtain ⟨hc1, hf1⟩ := bcell hb1
    have hz1 := bsize hb1
    (try simp at hz1)
    have k1a : w.heap.size < w1.heap.size := by omega
    have k1b : w.heap.size + 1 < w1.heap.size := by omega
    have k1c : w.heap.size + 1 + 1 < w1.heap.size := by omega
    go_wp2
    refine bodyPost_ret (v := .tuple #[.agg #[.int .i64 x1, .int .i64 x2], .int .i64 xe]) (by simp [results, Try.results31, go_sem, hc1, hf1, k1a, k1b, k1c]) rfl ⟨rfl, (by repeat (first | with_reducible exact Below.refl _ _ | (with_reducible refine Below.setCell ?_ (by first | exact Nat.le_refl _ | omega | (simp; done) | (simp; omega)) _) | (with_reducible refine Below.alloc ?_ (by first | exact Nat.le_refl _ | omega | (simp; done) | (simp; omega)) _) | with_reducible refine Below.drew ?_ | with_reducible refine bel_drewN ?_ _ | (with_reducible refine bel_by (by with_reducible assumption) (by first | exact Nat.le_refl _ | omega | (simp; done) | (simp; omega)) ?_)))⟩
  | 2, _ =>
    have H := Lib.hid (show ∀ W : World, Calls Try.prog 56 #[(.agg #[.int .i64 (a).1, .int .i64 (a).2]), (.agg #[.int .i64 (b).1, .int .i64 (b).2])] W fun e w' => e = .returned (.tuple #[(.agg #[.int .i64 ((opR 2 a b).1).1, .int .i64 ((opR 2 a b).1).2]), .int .i64 (opR 2 a b).2]) ∧ Below W.heap.size W w' from fun W => rmul_any a.1 a.2 b.1 b.2 ha hb W)
    clear ha hb
    obtain ⟨X, hX⟩ : ∃ X, opR 2 a b = X := ⟨_, rfl⟩
    rw [hX] at H ⊢
    clear hX
    obtain ⟨a1, a2⟩ := a
    obtain ⟨b1, b2⟩ := b
    obtain ⟨⟨x1, x2⟩, xe⟩ := X
    simp only at *
    go_enter Try.func31, Try.ntmps31
    go_wp2_with fail
    refine (H.out _).mono ?_
    rintro e w1 ⟨rfl, hb1⟩
    obtain ⟨hc1, hf1⟩ := bcell hb1
    have hz1 := bsize hb1
    (try simp at hz1)
    have k1a : w.heap.size < w1.heap.size := by omega
    have k1b : w.heap.size + 1 < w1.heap.size := by omega
    have k1c : w.heap.size + 1 + 1 < w1.heap.size := by omega
    go_wp2
    refine bodyPost_ret (v := .tuple #[.agg #[.int .i64 x1, .int .i64 x2], .int .i64 xe]) (by simp [results, Try.results31, go_sem, hc1, hf1, k1a, k1b, k1c]) rfl ⟨rfl, (by repeat (first | with_reducible exact Below.refl _ _ | (with_reducible refine Below.setCell ?_ (by first | exact Nat.le_refl _ | omega | (simp; done) | (simp; omega)) _) | (with_reducible refine Below.alloc ?_ (by first | exact Nat.le_refl _ | omega | (simp; done) | (simp; omega)) _) | with_reducible refine Below.drew ?_ | with_reducible refine bel_drewN ?_ _ | (with_reducible refine bel_by (by with_reducible assumption) (by first | exact Nat.le_refl _ | omega | (simp; done) | (simp; omega)) ?_)))⟩
  | 3, _ =>
    have H := Lib.hid (rlesser_any a b ha hb)
    clear ha hb
    have e0 : opR 3 a b = (les a b, 0) := rfl
    rw [e0]
    clear e0
    obtain ⟨X, hX⟩ : ∃ X, les a b = X := ⟨_, rfl⟩
    rw [hX] at H ⊢
    clear hX
    obtain ⟨a1, a2⟩ := a
    obtain ⟨b1, b2⟩ := b
    obtain ⟨x1, x2⟩ := X
    simp only at *
    go_enter Try.func31, Try.ntmps31
    go_wp2_with fail
    refine (H.out _).mono ?_
    rintro e w1 ⟨rfl, hb1⟩
    obtain ⟨hc1, hf1⟩ := bcell hb1
    have hz1 := bsize hb1
    (try simp at hz1)
    have k1a : w.heap.size < w1.heap.size := by omega
    have k1b : w.heap.size + 1 < w1.heap.size := by omega
    have k1c : w.heap.size + 1 + 1 < w1.heap.size := by omega
    go_wp2
    refine bodyPost_ret (v := .tuple #[.agg #[.int .i64 x1, .int .i64 x2], .int .i64 0]) (by simp [results, Try.results31, go_sem, hc1, hf1, k1a, k1b, k1c]) rfl ⟨rfl, (by repeat (first | with_reducible exact Below.refl _ _ | (with_reducible refine Below.setCell ?_ (by first | exact Nat.le_refl _ | omega | (simp; done) | (simp; omega)) _) | (with_reducible refine Below.alloc ?_ (by first | exact Nat.le_refl _ | omega | (simp; done) | (simp; omega)) _) | with_reducible refine Below.drew ?_ | with_reducible refine bel_drewN ?_ _ | (with_reducible refine bel_by (by with_reducible assumption) (by first | exact Nat.le_refl _ | omega | (simp; done) | (simp; omega)) ?_)))⟩
  | 4, _ =>
    have H := Lib.hid (rgreater_any a b ha hb)
    clear ha hb
    have e0 : opR 4 a b = (gre a b, 0) := rfl
    rw [e0]
    clear e0
    obtain ⟨X, hX⟩ : ∃ X, gre a b = X := ⟨_, rfl⟩
    rw [hX] at H ⊢
    clear hX
    obtain ⟨a1, a2⟩ := a
    obtain ⟨b1, b2⟩ := b
    obtain ⟨x1, x2⟩ := X
    simp only at *
    go_enter Try.func31, Try.ntmps31
    go_wp2_with fail
    refine (H.out _).mono ?_
    rintro e w1 ⟨rfl, hb1⟩
    obtain ⟨hc1, hf1⟩ := bcell hb1
    have hz1 := bsize hb1
    (try simp at hz1)
    have k1a : w.heap.size < w1.heap.size := by omega
    have k1b : w.heap.size + 1 < w1.heap.size := by omega
    have k1c : w.heap.size + 1 + 1 < w1.heap.size := by omega
    go_wp2
    refine bodyPost_ret (v := .tuple #[.agg #[.int .i64 x1, .int .i64 x2], .int .i64 0]) (by simp [results, Try.results31, go_sem, hc1, hf1, k1a, k1b, k1c]) rfl ⟨rfl, (by repeat (first | with_reducible exact Below.refl _ _ | (with_reducible refine Below.setCell ?_ (by first | exact Nat.le_refl _ | omega | (simp; done) | (simp; omega)) _) | (with_reducible refine Below.alloc ?_ (by first | exact Nat.le_refl _ | omega | (simp; done) | (simp; omega)) _) | with_reducible refine Below.drew ?_ | with_reducible refine bel_drewN ?_ _ | (with_reducible refine bel_by (by with_reducible assumption) (by first | exact Nat.le_refl _ | omega | (simp; done) | (simp; omega)) ?_)))⟩
  | 5, _ =>
    have H := Lib.hid (show ∀ W : World, Calls Try.prog 57 #[(.agg #[.int .i64 (a).1, .int .i64 (a).2]), (.agg #[.int .i64 (b).1, .int .i64 (b).2])] W fun e w' => e = .returned (.tuple #[(.agg #[.int .i64 ((opR 5 a b).1).1, .int .i64 ((opR 5 a b).1).2]), .int .i64 (opR 5 a b).2]) ∧ Below W.heap.size W w' from fun W => rdiv_any a.1 a.2 b.1 b.2 ha hb W)
    clear ha hb
    obtain ⟨X, hX⟩ : ∃ X, opR 5 a b = X := ⟨_, rfl⟩
    rw [hX] at H ⊢
    clear hX
    obtain ⟨a1, a2⟩ := a
    obtain ⟨b1, b2⟩ := b
    obtain ⟨⟨x1, x2⟩, xe⟩ := X
    simp only at *
    go_enter Try.func31, Try.ntmps31
    go_wp2_with fail
    refine (H.out _).mono ?_
    rintro e w1 ⟨rfl, hb1⟩
    obtain ⟨hc1, hf1⟩ := bcell hb1
    have hz1 := bsize hb1
    (try simp at hz1)
    have k1a : w.heap.size < w1.heap.size := by omega
    have k1b : w.heap.size + 1 < w1.heap.size := by omega
    have k1c : w.heap.size + 1 + 1 < w1.heap.size := by omega
    go_wp2
    refine bodyPost_ret (v := .tuple #[.agg #[.int .i64 x1, .int .i64 x2], .int .i64 xe]) (by simp [results, Try.results31, go_sem, hc1, hf1, k1a, k1b, k1c]) rfl ⟨rfl, (by repeat (first | with_reducible exact Below.refl _ _ | (with_reducible refine Below.setCell ?_ (by first | exact Nat.le_refl _ | omega | (simp; done) | (simp; omega)) _) | (with_reducible refine Below.alloc ?_ (by first | exact Nat.le_refl _ | omega | (simp; done) | (simp; omega)) _) | with_reducible refine Below.drew ?_ | with_reducible refine bel_drewN ?_ _ | (with_reducible refine bel_by (by with_reducible assumption) (by first | exact Nat.le_refl _ | omega | (simp; done) | (simp; omega)) ?_)))⟩
def EndsPost (w : World) (L : List V) (e : Ending) (w' : World) : Prop := ∃ g, e = .returned (.slice (some ⟨g, 0, none⟩) L.length L.length) ∧ VsAt w' g 0 L ∧ g < w'.heap.size ∧ w.heap.size ≤ g ∧ Below w.heap.size w w'
set_option maxHeartbeats 4000000 in
set_option maxRecDepth 100000 in
theorem rends_any (op : Nat) (hop : op < 6) (a b : V) (w : World) :
    Calls Try.prog 45 #[.int .i64 (op : Int), (.agg #[.int .i64 (a).1.1, .int .i64 (a).1.2, .int .i64 (a).2.1, .int .i64 (a).2.2]), (.agg #[.int .i64 (b).1.1, .int .i64 (b).1.2, .int .i64 (b).2.1, .int .i64 (b).2.2])] w (EndsPost w (ends op a b)) := by
  obtain ⟨⟨a1, a2⟩, ⟨a3, a4⟩⟩ := a
  obtain ⟨⟨b1, b2⟩, ⟨b3, b4⟩⟩ := b
  match op, hop with
  | 0, _ =>
    go_enter Try.func45, Try.ntmps45
    go_wp2
    go_ret
    exact ⟨_, rfl, vs_two (by simp [go_sem]) (by simp [go_sem]) (by simp [go_sem]) (by simp [go_sem]) (by simp [go_sem]) (by simp [go_sem]) (by simp [go_sem]) (by simp [go_sem]), (by first | omega | (simp; done) | (simp; omega)), (by first | omega | (simp; done) | (simp; omega)), (by repeat (first | with_reducible exact Below.refl _ _ | (with_reducible refine Below.setCell ?_ (by first | exact Nat.le_refl _ | omega | (simp; done) | (simp; omega)) _) | (with_reducible refine Below.alloc ?_ (by first | exact Nat.le_refl _ | omega | (simp; done) | (simp; omega)) _) | with_reducible refine Below.drew ?_ | with_reducible refine bel_drewN ?_ _ | (with_reducible refine bel_by (by with_reducible assumption) (by first | exact Nat.le_refl _ | omega | (simp; done) | (simp; omega)) ?_)))⟩
  | 1, _ =>
    go_enter Try.func45, Try.ntmps45
    go_wp2
    go_ret
    exact ⟨_, rfl, vs_two (by simp [go_sem]) (by simp [go_sem]) (by simp [go_sem]) (by simp [go_sem]) (by simp [go_sem]) (by simp [go_sem]) (by simp [go_sem]) (by simp [go_sem]), (by first | omega | (simp; done) | (simp; omega)), (by first | omega | (simp; done) | (simp; omega)), (by repeat (first | with_reducible exact Below.refl _ _ | (with_reducible refine Below.setCell ?_ (by first | exact Nat.le_refl _ | omega | (simp; done) | (simp; omega)) _) | (with_reducible refine Below.alloc ?_ (by first | exact Nat.le_refl _ | omega | (simp; done) | (simp; omega)) _) | with_reducible refine Below.drew ?_ | with_reducible refine bel_drewN ?_ _ | (with_reducible refine bel_by (by with_reducible assumption) (by first | exact Nat.le_refl _ | omega | (simp; done) | (simp; omega)) ?_)))⟩
  | 2, _ =>
    go_enter Try.func45, Try.ntmps45
    go_wp2
    go_ret
    exact ⟨_, rfl, vs_four (by simp [go_sem]) (by simp [go_sem]) (by simp [go_sem]) (by simp [go_sem]) (by simp [go_sem]) (by simp [go_sem]) (by simp [go_sem]) (by simp [go_sem]) (by simp [go_sem]) (by simp [go_sem]) (by simp [go_sem]) (by simp [go_sem]) (by simp [go_sem]) (by simp [go_sem]) (by simp [go_sem]) (by simp [go_sem]), (by first | omega | (simp; done) | (simp; omega)), (by first | omega | (simp; done) | (simp; omega)), (by repeat (first | with_reducible exact Below.refl _ _ | (with_reducible refine Below.setCell ?_ (by first | exact Nat.le_refl _ | omega | (simp; done) | (simp; omega)) _) | (with_reducible refine Below.alloc ?_ (by first | exact Nat.le_refl _ | omega | (simp; done) | (simp; omega)) _) | with_reducible refine Below.drew ?_ | with_reducible refine bel_drewN ?_ _ | (with_reducible refine bel_by (by with_reducible assumption) (by first | exact Nat.le_refl _ | omega | (simp; done) | (simp; omega)) ?_)))⟩
  | 3, _ =>
    go_enter Try.func45, Try.ntmps45
    go_wp2
    go_ret
    exact ⟨_, rfl, vs_two (by simp [go_sem]) (by simp [go_sem]) (by simp [go_sem]) (by simp [go_sem]) (by simp [go_sem]) (by simp [go_sem]) (by simp [go_sem]) (by simp [go_sem]), (by first | omega | (simp; done) | (simp; omega)), (by first | omega | (simp; done) | (simp; omega)), (by repeat (first | with_reducible exact Below.refl _ _ | (with_reducible refine Below.setCell ?_ (by first | exact Nat.le_refl _ | omega | (simp; done) | (simp; omega)) _) | (with_reducible refine Below.alloc ?_ (by first | exact Nat.le_refl _ | omega | (simp; done) | (simp; omega)) _) | with_reducible refine Below.drew ?_ | with_reducible refine bel_drewN ?_ _ | (with_reducible refine bel_by (by with_reducible assumption) (by first | exact Nat.le_refl _ | omega | (simp; done) | (simp; omega)) ?_)))⟩
  | 4, _ =>
    go_enter Try.func45, Try.ntmps45
    go_wp2
    go_ret
    exact ⟨_, rfl, vs_two (by simp [go_sem]) (by simp [go_sem]) (by simp [go_sem]) (by simp [go_sem]) (by simp [go_sem]) (by simp [go_sem]) (by simp [go_sem]) (by simp [go_sem]), (by first | omega | (simp; done) | (simp; omega)), (by first | omega | (simp; done) | (simp; omega)), (by repeat (first | with_reducible exact Below.refl _ _ | (with_reducible refine Below.setCell ?_ (by first | exact Nat.le_refl _ | omega | (simp; done) | (simp; omega)) _) | (with_reducible refine Below.alloc ?_ (by first | exact Nat.le_refl _ | omega | (simp; done) | (simp; omega)) _) | with_reducible refine Below.drew ?_ | with_reducible refine bel_drewN ?_ _ | (with_reducible refine bel_by (by with_reducible assumption) (by first | exact Nat.le_refl _ | omega | (simp; done) | (simp; omega)) ?_)))⟩
  | 5, _ =>
    go_enter Try.func45, Try.ntmps45
    go_wp2
    go_ret
    exact ⟨_, rfl, vs_four (by simp [go_sem]) (by simp [go_sem]) (by simp [go_sem]) (by simp [go_sem]) (by simp [go_sem]) (by simp [go_sem]) (by simp [go_sem]) (by simp [go_sem]) (by simp [go_sem]) (by simp [go_sem]) (by simp [go_sem]) (by simp [go_sem]) (by simp [go_sem]) (by simp [go_sem]) (by simp [go_sem]) (by simp [go_sem]), (by first | omega | (simp; done) | (simp; omega)), (by first | omega | (simp; done) | (simp; omega)), (by repeat (first | with_reducible exact Below.refl _ _ | (with_reducible refine Below.setCell ?_ (by first | exact Nat.le_refl _ | omega | (simp; done) | (simp; omega)) _) | (with_reducible refine Below.alloc ?_ (by first | exact Nat.le_refl _ | omega | (simp; done) | (simp; omega)) _) | with_reducible refine Below.drew ?_ | with_reducible refine bel_drewN ?_ _ | (with_reducible refine bel_by (by with_reducible assumption) (by first | exact Nat.le_refl _ | omega | (simp; done) | (simp; omega)) ?_)))⟩
end Go.Proofs.Ytbjmibaepccbeaa
