/- Contracts of the reference's reader. -/
import Derived.Test.YtljeialaefmbmaaRefE
import Derived.Test.YtljeialaefmbmaaDataZ
set_option linter.unusedSimpArgs false
set_option linter.unusedVariables false
namespace Go.Proofs.Ytljeialaefmbmaa
open Go.RowKit

theorem quietS {P : Program} {f : FuncId} {args : Array Value} {w : World} {n : Nat} {v : Value} (h : Calls P f args (w.drewN n) fun e w' => e = .returned v ∧ w.drewN n = w') : Calls P f args (w.drewN n) fun e w'' => e = .returned v ∧ ∃ m, w'' = w.drewN m :=
  h.mono fun _ _ ⟨he, hm⟩ => ⟨he, n, hm.symm⟩
def badR (r : RSt) : Bool := decide (r.err ≠ 0)
/-- the reference's reader in its block -/
structure InAt (w : World) (b : Nat) (r : RSt) : Prop where
  c0 : w.cell? ⟨b, 0, none⟩ = some (.string r.s)
  c1 : w.cell? ⟨b, 1, none⟩ = some (.int .i64 (r.at' : Int))
  c2 : w.cell? ⟨b, 2, none⟩ = some (.int .i64 (r.opn : Int))
  c3 : w.cell? ⟨b, 3, none⟩ = some (.bool (badR r))
  f : ∀ o, w.frozen? ⟨b, o, none⟩ = false
  lt : b < w.heap.size
theorem But.drewN {b : Nat} {a w : World} (h : But b a w) (n : Nat) : But b a (w.drewN n) := ⟨h.os, h.tape, h.output, h.size, h.block⟩
theorem readR_1 {s : ByteArray} {a o : Nat} : readR ⟨s, a, o, 0⟩ 1 = if (numberS s a).2.2 = true then (⟨s, (numberS s a).2.1, o, 0⟩, headS s a) else (⟨s, a, o, 2⟩, hdNo) := by
  unfold readR numberS
  by_cases h : (headS s a).kind = 1
  · simp [h]
  · simp [h]
theorem readR_2 {s : ByteArray} {a o : Nat} : readR ⟨s, a, o, 0⟩ 2 = if (stringS s a).2.2 = true then (⟨s, (stringS s a).2.1, o, 0⟩, headS s a) else (⟨s, a, o, 2⟩, hdNo) := by
  unfold readR stringS
  by_cases h : (headS s a).kind = 2
  · simp [h]
  · simp [h]
theorem numberS_n {s : ByteArray} {a : Nat} (h : (numberS s a).2.2 = true) : (headS s a).n = (numberS s a).1 := by
  unfold numberS at h ⊢
  by_cases hk : (headS s a).kind = 1
  · rw [if_pos hk]
  · rw [if_neg hk] at h; simp at h
theorem stringS_t {s : ByteArray} {a : Nat} (h : (stringS s a).2.2 = true) : (headS s a).text = (stringS s a).1 := by
  unfold stringS at h ⊢
  by_cases hk : (headS s a).kind = 2
  · rw [if_pos hk]
  · rw [if_neg hk] at h; simp at h

set_option maxHeartbeats 2000000 in
set_option maxRecDepth 100000 in
theorem inInt_any (b : Nat) (r : RSt) (w : World) (hI : InAt w b r) (ok : ROk r) (he : r.err = 0 ∨ r.err = 2) :
    Calls Try.prog 24 #[.pointer (some ⟨b, 0, none⟩)] w fun e w' => e = .returned (.int .i64 (readR r 1).2.n) ∧ InAt w' b (readR r 1).1 ∧ But b w w' := by
  obtain ⟨s, a, o, er⟩ := r
  obtain ⟨c0, c1, c2, c3, ff, lt⟩ := hI
  obtain ⟨h1, h2, h3⟩ := ok
  simp only at *
  have hN := fun W => number_any s a h2 h1 W
  have hbut0 : But b w w := But.refl _ _
  rcases he with rfl | rfl
  · replace c3 : w.cell? ⟨b, 3, none⟩ = some (.bool false) := c3
    rw [readR_1]
    by_cases hok : (numberS s a).2.2 = true
    · rw [if_pos hok]
      have HE := Lib.hid (numberS_n hok)
      rw [hok] at hN
      generalize numberS s a = t at *
      obtain ⟨n, e, k⟩ := t
      simp only at hN HE ⊢
      have HN := Lib.hid hN
      clear hN hok
      go_enter Try.func24, Try.ntmps24
      go_wp2_with fail
      go_quiet ((first | (go_at_call 44; exact quietS (HN.out _))))
      go_wp2
      go_ret
      refine ⟨by rw [HE.out]; rfl, ⟨?_, ?_, ?_, ?_, fun o => ?_, ?_⟩, (hbut0.drewN _).set _ _⟩
      all_goals simp (maxDischargeDepth := 6) [go_sem, c0, c1, c2, c3, ff, lt, badR]
    · rw [if_neg hok]
      rw [show (numberS s a).2.2 = false by simpa using hok] at hN
      generalize numberS s a = t at *
      obtain ⟨n, e, k⟩ := t
      simp only at hN ⊢
      have HN := Lib.hid hN
      clear hN hok
      go_enter Try.func24, Try.ntmps24
      go_wp2_with fail
      go_quiet ((first | (go_at_call 44; exact quietS (HN.out _))))
      go_wp2
      go_ret
      refine ⟨rfl, ⟨?_, ?_, ?_, ?_, fun o => ?_, ?_⟩, (hbut0.drewN _).set _ _⟩
      all_goals simp (maxDischargeDepth := 6) [go_sem, c0, c1, c2, c3, ff, lt, badR]
  · replace c3 : w.cell? ⟨b, 3, none⟩ = some (.bool true) := c3
    rw [show readR ⟨s, a, o, 2⟩ 1 = (⟨s, a, o, 2⟩, hdNo) from rfl]
    generalize numberS s a = t at *
    obtain ⟨n, e, k⟩ := t
    simp only at hN ⊢
    have HN := Lib.hid hN
    clear hN
    go_enter Try.func24, Try.ntmps24
    go_wp2_with fail
    go_quiet ((first | (go_at_call 44; exact quietS (HN.out _))))
    go_wp2
    go_ret
    refine ⟨rfl, ⟨?_, ?_, ?_, ?_, fun o => ?_, ?_⟩, (hbut0.drewN _).set _ _⟩
    all_goals simp (maxDischargeDepth := 6) [go_sem, c0, c1, c2, c3, ff, lt, badR]
set_option maxHeartbeats 2000000 in
set_option maxRecDepth 100000 in
theorem inText_any (b : Nat) (r : RSt) (w : World) (hI : InAt w b r) (ok : ROk r) (he : r.err = 0 ∨ r.err = 2) :
    Calls Try.prog 25 #[.pointer (some ⟨b, 0, none⟩)] w fun e w' => e = .returned (.string (readR r 2).2.text) ∧ InAt w' b (readR r 2).1 ∧ But b w w' := by
  obtain ⟨s, a, o, er⟩ := r
  obtain ⟨c0, c1, c2, c3, ff, lt⟩ := hI
  obtain ⟨h1, h2, h3⟩ := ok
  simp only at *
  have hN := fun W => string_any s a h2 h1 W
  have hbut0 : But b w w := But.refl _ _
  rcases he with rfl | rfl
  · replace c3 : w.cell? ⟨b, 3, none⟩ = some (.bool false) := c3
    rw [readR_2]
    by_cases hok : (stringS s a).2.2 = true
    · rw [if_pos hok]
      have HE := Lib.hid (stringS_t hok)
      rw [hok] at hN
      generalize stringS s a = t at *
      obtain ⟨n, e, k⟩ := t
      simp only at hN HE ⊢
      have HN := Lib.hid hN
      clear hN hok
      go_enter Try.func25, Try.ntmps25
      go_wp2_with fail
      go_quiet ((first | (go_at_call 45; exact quietS (HN.out _))))
      go_wp2
      go_ret
      refine ⟨by rw [HE.out]; rfl, ⟨?_, ?_, ?_, ?_, fun o => ?_, ?_⟩, (hbut0.drewN _).set _ _⟩
      all_goals simp (maxDischargeDepth := 6) [go_sem, c0, c1, c2, c3, ff, lt, badR]
    · rw [if_neg hok]
      rw [show (stringS s a).2.2 = false by simpa using hok] at hN
      generalize stringS s a = t at *
      obtain ⟨n, e, k⟩ := t
      simp only at hN ⊢
      have HN := Lib.hid hN
      clear hN hok
      go_enter Try.func25, Try.ntmps25
      go_wp2_with fail
      go_quiet ((first | (go_at_call 45; exact quietS (HN.out _))))
      go_wp2
      go_ret
      refine ⟨rfl, ⟨?_, ?_, ?_, ?_, fun o => ?_, ?_⟩, (hbut0.drewN _).set _ _⟩
      all_goals simp (maxDischargeDepth := 6) [go_sem, c0, c1, c2, c3, ff, lt, badR]
  · replace c3 : w.cell? ⟨b, 3, none⟩ = some (.bool true) := c3
    rw [show readR ⟨s, a, o, 2⟩ 2 = (⟨s, a, o, 2⟩, hdNo) from rfl]
    generalize stringS s a = t at *
    obtain ⟨n, e, k⟩ := t
    simp only at hN ⊢
    have HN := Lib.hid hN
    clear hN
    go_enter Try.func25, Try.ntmps25
    go_wp2_with fail
    go_quiet ((first | (go_at_call 45; exact quietS (HN.out _))))
    go_wp2
    go_ret
    refine ⟨rfl, ⟨?_, ?_, ?_, ?_, fun o => ?_, ?_⟩, (hbut0.drewN _).set _ _⟩
    all_goals simp (maxDischargeDepth := 6) [go_sem, c0, c1, c2, c3, ff, lt, badR]
end Go.Proofs.Ytljeialaefmbmaa
