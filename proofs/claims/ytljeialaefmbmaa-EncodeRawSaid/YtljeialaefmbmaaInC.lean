/- Contracts of the reference's reader: Begin. -/
import Derived.Test.YtljeialaefmbmaaInB
set_option linter.unusedSimpArgs false
set_option linter.unusedVariables false
namespace Go.Proofs.Ytljeialaefmbmaa
open Go.RowKit

set_option maxHeartbeats 3000000 in
set_option maxRecDepth 100000 in
theorem inBegin_any (b : Nat) (r : RSt) (w : World) (hI : InAt w b r) (ok : ROk r) (he : r.err = 0 ∨ r.err = 2) :
    Calls Try.prog 26 #[.pointer (some ⟨b, 0, none⟩)] w fun e w' => e = .returned (.tuple #[]) ∧ InAt w' b (readR r 3).1 ∧ But b w w' := by
  obtain ⟨s, a, o, er⟩ := r
  obtain ⟨c0, c1, c2, c3, ff, lt⟩ := hI
  obtain ⟨h1, h2, h3⟩ := ok
  simp only at *
  have hbut0 : But b w w := But.refl _ _
  rcases he with rfl | rfl
  · replace c3 : w.cell? ⟨b, 3, none⟩ = some (.bool false) := c3
    rw [readR_3]
    by_cases hlt : a < s.size
    · have x0 : ¬ (s.size : Int) ≤ (a : Int) := by omega
      have x1 : (a : Int) < (s.size : Int) := by omega
      have x0b : decide (s.size ≤ a) = false := decide_eq_false (by omega)
      have e8 := at8_eq hlt
      by_cases hc : at8 s a = 108
      · have y0 : ((((s[a]'hlt).toNat : Int)) != 108) = false := by rw [← e8, hc]; rfl
        by_cases ho : o = 32
        · rw [if_neg (fun h => h.2.2 ho)]
          subst ho
          clear e8 hc
          go_enter Try.func26, Try.ntmps26
          go_wp2_with fail
          go_quiet (fail)
          go_wp2
          simp [bodyPost, results, Try.results26]
          refine ⟨⟨?_, ?_, ?_, ?_, fun o => ?_, ?_⟩, (hbut0.drewN _).set _ _⟩
          all_goals first | omega | (simp (maxDischargeDepth := 6) [go_sem, c0, c1, c2, c3, ff, lt, badR]; done) | (simp (maxDischargeDepth := 6) [go_sem, c0, c1, c2, c3, ff, lt, badR]; omega)
        · rw [if_pos ⟨hlt, hc, ho⟩]
          have y1 : ((o : Int) == 32) = false := by simp; omega
          have y1b : (o == 32) = false := by simp; omega
          clear e8 hc
          go_enter Try.func26, Try.ntmps26
          go_wp2_with fail
          go_quiet (fail)
          go_wp2
          simp [bodyPost, results, Try.results26]
          refine ⟨⟨?_, ?_, ?_, ?_, fun o => ?_, ?_⟩, ((hbut0.drewN _).set _ _).set _ _⟩
          all_goals first | omega | (simp (maxDischargeDepth := 6) [go_sem, c0, c1, c2, c3, ff, lt, badR]; done) | (simp (maxDischargeDepth := 6) [go_sem, c0, c1, c2, c3, ff, lt, badR]; omega)
      · rw [if_neg (fun h => hc h.2.1)]
        have y0 : ((((s[a]'hlt).toNat : Int)) != 108) = true := by rw [← e8]; simp [bne]; omega
        clear e8 hc
        go_enter Try.func26, Try.ntmps26
        go_wp2_with fail
        go_quiet (fail)
        go_wp2
        simp [bodyPost, results, Try.results26]
        refine ⟨⟨?_, ?_, ?_, ?_, fun o => ?_, ?_⟩, (hbut0.drewN _).set _ _⟩
        all_goals first | omega | (simp (maxDischargeDepth := 6) [go_sem, c0, c1, c2, c3, ff, lt, badR]; done) | (simp (maxDischargeDepth := 6) [go_sem, c0, c1, c2, c3, ff, lt, badR]; omega)
    · rw [if_neg (fun h => hlt h.1)]
      have x0 : (s.size : Int) ≤ (a : Int) := by omega
      have x0b : decide (s.size ≤ a) = true := decide_eq_true (by omega)
      clear hlt
      go_enter Try.func26, Try.ntmps26
      go_wp2_with fail
      go_quiet (fail)
      go_wp2
      simp [bodyPost, results, Try.results26]
      refine ⟨⟨?_, ?_, ?_, ?_, fun o => ?_, ?_⟩, (hbut0.drewN _).set _ _⟩
      all_goals first | omega | (simp (maxDischargeDepth := 6) [go_sem, c0, c1, c2, c3, ff, lt, badR]; done) | (simp (maxDischargeDepth := 6) [go_sem, c0, c1, c2, c3, ff, lt, badR]; omega)
  · replace c3 : w.cell? ⟨b, 3, none⟩ = some (.bool true) := c3
    rw [show readR ⟨s, a, o, 2⟩ 3 = (⟨s, a, o, 2⟩, hdNo) from rfl]
    go_enter Try.func26, Try.ntmps26
    go_wp2_with fail
    go_quiet (fail)
    go_wp2
    simp [bodyPost, results, Try.results26]
    refine ⟨⟨?_, ?_, ?_, ?_, fun o => ?_, ?_⟩, (hbut0.drewN _).set _ _⟩
    all_goals first | omega | (simp (maxDischargeDepth := 6) [go_sem, c0, c1, c2, c3, ff, lt, badR]; done) | (simp (maxDischargeDepth := 6) [go_sem, c0, c1, c2, c3, ff, lt, badR]; omega)
end Go.Proofs.Ytljeialaefmbmaa
