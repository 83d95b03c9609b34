/- Contracts of package encode: what a Reader offers. -/
import Derived.Test.YtljeialaefmbmaaDoorRead
set_option linter.unusedSimpArgs false
set_option linter.unusedVariables false
namespace Go.Proofs.YtljeialaefmbmaaDoor
open Go.RowKit

/-- a Reader in use: bounds that every step keeps -/
structure ROk (r : RSt) : Prop where
  hs : r.s.size ≤ 4611686018427387904
  ha : r.at' ≤ r.s.size
  ho : r.opn ≤ 32
theorem ROk.big {r : RSt} (h : ROk r) : r.at' ≤ 9223372036854775807 := by have := h.hs; have := h.ha; omega
theorem readR_ok {r : RSt} (h : ROk r) (K : Int) (hK : 1 ≤ K ∧ K ≤ 4) : ROk (readR r K).1 := by
  obtain ⟨h1, h2, h3⟩ := h
  unfold readR
  split
  · split
    · exact ⟨h1, h2, h3⟩
    · rename_i hn
      have hk : (headS r.s r.at').kind ≠ 0 := by
        intro h0
        apply hn
        left
        omega
      have := (headS_kind r.s r.at').2.2 hk
      refine ⟨h1, this.2.1, ?_⟩
      simp only
      split
      · rename_i h4
        have : r.opn ≠ 32 := fun h => hn (Or.inr (Or.inl ⟨h4, h⟩))
        omega
      · split <;> omega
  · exact ⟨h1, h2, h3⟩

set_option maxRecDepth 100000 in
theorem fld1 (k n : Int) (tx : ByteArray) (fn : Int) (W : World) : (Instr.field 60 (.agg #[.int .i64 k, .int .i64 n, .string tx, .int .i64 fn]) 1).run Tryd.prog W = .ok (.int .i64 n) W := by
  unfold Instr.field
  simp [go_sem, asAgg]
set_option maxRecDepth 100000 in
theorem rdInt_any (b : Nat) (r : RSt) (w : World) (hR : RAt w b r) (ok : ROk r) :
    Calls Tryd.prog 15 #[.pointer (some ⟨b, 0, none⟩)] w fun e w' => e = .returned (.int .i64 (readR r 1).2.n) ∧ RAt w' b (readR r 1).1 ∧ But b w w' := by
  have HR := Lib.hid (read_any b r 1 (by omega) w hR ok.hs ok.big ok.ho)
  clear hR ok
  generalize (readR r 1).1 = r1 at *
  generalize (readR r 1).2 = h at *
  obtain ⟨k, n, tx, fn⟩ := h
  unfold Hd.v at HR
  simp only at HR ⊢
  have hfl := fun W => fld1 k n tx fn W
  go_enter Tryd.func15, Tryd.ntmps15
  go_wp2_with fail
  refine HR.out.mono ?_
  rintro e w1 ⟨rfl, hR1, hb⟩
  go_wp2
  go_ret
  exact ⟨rfl, hR1, hb⟩

set_option maxRecDepth 100000 in
theorem rdOpen_any (b : Nat) (r : RSt) (w : World) (hR : RAt w b r) (ok : ROk r) :
    Calls Tryd.prog 14 #[.pointer (some ⟨b, 0, none⟩)] w fun e w' => e = .returned (.tuple #[]) ∧ RAt w' b (readR r 3).1 ∧ But b w w' := by
  have HR := Lib.hid (read_any b r 3 (by omega) w hR ok.hs ok.big ok.ho)
  clear hR ok
  generalize (readR r 3).1 = r1 at *
  generalize (readR r 3).2 = h at *
  obtain ⟨k, n, tx, fn⟩ := h
  unfold Hd.v at HR
  simp only at HR ⊢
  go_enter Tryd.func14, Tryd.ntmps14
  go_wp2_with fail
  refine HR.out.mono ?_
  rintro e w1 ⟨rfl, hR1, hb⟩
  go_wp2
  simp [bodyPost, results, Tryd.results14]
  exact ⟨hR1, hb⟩

set_option maxRecDepth 100000 in
theorem rdClose_any (b : Nat) (r : RSt) (w : World) (hR : RAt w b r) (ok : ROk r) :
    Calls Tryd.prog 18 #[.pointer (some ⟨b, 0, none⟩)] w fun e w' => e = .returned (.tuple #[]) ∧ RAt w' b (readR r 4).1 ∧ But b w w' := by
  have HR := Lib.hid (read_any b r 4 (by omega) w hR ok.hs ok.big ok.ho)
  clear hR ok
  generalize (readR r 4).1 = r1 at *
  generalize (readR r 4).2 = h at *
  obtain ⟨k, n, tx, fn⟩ := h
  unfold Hd.v at HR
  simp only at HR ⊢
  go_enter Tryd.func18, Tryd.ntmps18
  go_wp2_with fail
  refine HR.out.mono ?_
  rintro e w1 ⟨rfl, hR1, hb⟩
  go_wp2
  simp [bodyPost, results, Tryd.results18]
  exact ⟨hR1, hb⟩

theorem rdOff_any (b : Nat) (r : RSt) (w : World) (hR : RAt w b r) :
    Calls Tryd.prog 17 #[.pointer (some ⟨b, 0, none⟩)] w fun e w' => e = .returned (.int .i64 (r.at' : Int)) ∧ w = w' := by
  obtain ⟨c0, c1, c2, c3, ff, lt⟩ := hR
  go_enter Tryd.func17, Tryd.ntmps17
  go_wp2
  go_ret
  exact ⟨rfl, rfl⟩
theorem rdNew_any (s : ByteArray) (w : World) :
    Calls Tryd.prog 13 #[.string s] w fun e w' => e = .returned (.pointer (some ⟨w.heap.size, 0, none⟩)) ∧ RAt w' w.heap.size ⟨s, 0, 0, 0⟩ ∧ Below w.heap.size w w' := by
  go_enter Tryd.func13, Tryd.ntmps13
  go_wp2
  go_ret
  exact ⟨rfl, ⟨by simp [go_sem], by simp [go_sem], by simp [go_sem], by simp [go_sem], fun o => by simp [go_sem], by simp⟩, (by repeat (first | with_reducible exact Below.refl _ _ | (with_reducible refine Below.setCell ?_ (by first | exact Nat.le_refl _ | omega | (simp; done) | (simp; omega)) _) | (with_reducible refine Below.alloc ?_ (by first | exact Nat.le_refl _ | omega | (simp; done) | (simp; omega)) _) | with_reducible refine Below.drew ?_ | with_reducible refine bel_drewN ?_ _ | (with_reducible refine bel_by (by with_reducible assumption) (by first | exact Nat.le_refl _ | omega | (simp; done) | (simp; omega)) ?_)))⟩

/-- More -/
def moreR (r : RSt) : Bool := decide (r.err = 0) && decide (r.at' < r.s.size) && (decide (r.opn = 0) || decide (at8 r.s r.at' ≠ 101))
set_option maxHeartbeats 1000000 in
set_option maxRecDepth 100000 in
theorem rdMore_any (b : Nat) (r : RSt) (w : World) (hR : RAt w b r) (ok : ROk r) :
    Calls Tryd.prog 16 #[.pointer (some ⟨b, 0, none⟩)] w fun e w' => e = .returned (.bool (moreR r)) ∧ ∃ n, w' = w.drewN n := by
  obtain ⟨s, a, o, er⟩ := r
  obtain ⟨c0, c1, c2, c3, ff, lt⟩ := hR
  obtain ⟨h1, h2, h3⟩ := ok
  simp only at *
  by_cases he : er = 0
  · subst he
    by_cases hlt : a < s.size
    · have x0 : ¬ (s.size : Int) ≤ (a : Int) := by omega
      have x1 : (a : Int) < (s.size : Int) := by omega
      by_cases ho : o = 0
      · subst ho
        have HM := Lib.hid (show moreR ⟨s, a, 0, 0⟩ = true by unfold moreR; simp [hlt])
        go_enter Tryd.func16, Tryd.ntmps16
        go_wp2_with fail
        go_quiet (fail)
        go_wp2_with fail
        go_quiet (fail)
        go_wp2
        go_ret
        exact ⟨by rw [HM.out]; rfl, _, by simp [World.drewN_drewN]; rfl⟩
      · have y0 : ((o : Int) == 0) = false := by simp; omega
        have e8 := at8_eq hlt
        by_cases hc : at8 s a = 101
        · have HM := Lib.hid (show moreR ⟨s, a, o, 0⟩ = false by unfold moreR; simp [hlt, ho, hc])
          have y1 : ((((s[a]'hlt).toNat : Int)) != 101) = false := by rw [← e8, hc]; rfl
          clear e8 hc ho
          go_enter Tryd.func16, Tryd.ntmps16
          go_wp2_with fail
          go_quiet (fail)
          go_wp2_with fail
          go_quiet (fail)
          go_wp2
          go_ret
          exact ⟨by rw [HM.out]; rfl, _, by simp [World.drewN_drewN]; rfl⟩
        · have HM := Lib.hid (show moreR ⟨s, a, o, 0⟩ = true by unfold moreR; simp [hlt, ho, hc])
          have y1 : ((((s[a]'hlt).toNat : Int)) != 101) = true := by rw [← e8]; simp [bne]; omega
          clear e8 hc ho
          go_enter Tryd.func16, Tryd.ntmps16
          go_wp2_with fail
          go_quiet (fail)
          go_wp2_with fail
          go_quiet (fail)
          go_wp2
          go_ret
          exact ⟨by rw [HM.out]; rfl, _, by simp [World.drewN_drewN]; rfl⟩
    · have x0 : (s.size : Int) ≤ (a : Int) := by omega
      have HM := Lib.hid (show moreR ⟨s, a, o, 0⟩ = false by unfold moreR; simp [hlt])
      clear hlt
      go_enter Tryd.func16, Tryd.ntmps16
      go_wp2_with fail
      go_quiet (fail)
      go_wp2
      go_ret
      exact ⟨by rw [HM.out]; rfl, _, rfl⟩
  · have y0 : (er != 0) = true := by simpa using he
    have HM := Lib.hid (show moreR ⟨s, a, o, er⟩ = false by unfold moreR; simp [he])
    clear he
    go_enter Tryd.func16, Tryd.ntmps16
    go_wp2_with fail
    go_quiet (fail)
    go_wp2
    go_ret
    exact ⟨by rw [HM.out]; rfl, _, rfl⟩
end Go.Proofs.YtljeialaefmbmaaDoor
