/- The law EncodeRaw: its walk. -/
import Derived.Test.YtljeialaefmbmaaRawN
set_option linter.unusedSimpArgs false
set_option linter.unusedVariables false
namespace Go.Proofs.Ytljeialaefmbmaa
open Go.RowKit

set_option maxHeartbeats 1000000 in
set_option maxRecDepth 100000 in
theorem raw_out {s : ByteArray} {a : Option Addr} {b off len cap : Nat} {xs : List Int} {w : World} (hs : s.size ≤ 9223372036854775807) (h : SlN w a b off len cap xs) (hn : (2000 : Int) < (s.size : Int) ∨ (60 : Int) < (len : Int)) :
    Calls Try.prog 4 #[.string s, .slice a len cap] w fun e w' => e = .returned (.bool true) ∧ Below w.heap.size w w' := by
  have hcap := h.hcap
  have hmax := h.hmax
  unfold maxLen at hmax
  clear h
  by_cases h1 : (2000 : Int) < (s.size : Int)
  · clear hn
    go_enter Try.func4, Try.ntmps4
    go_wp2_with fail
    refine (awake_any _).mono ?_
    rintro e w1 ⟨rfl, hb⟩
    go_wp2
    go_ret
    exact ⟨rfl, hb⟩
  · have h2 : (60 : Int) < (len : Int) := by omega
    clear hn
    go_enter Try.func4, Try.ntmps4
    go_wp2_with fail
    refine (awake_any _).mono ?_
    rintro e w1 ⟨rfl, hb⟩
    go_wp2
    go_ret
    exact ⟨rfl, hb⟩
def RawPost (w : World) (e : Ending) (w' : World) : Prop := e = .returned (.bool true) ∧ Below w.heap.size w w'
set_option maxHeartbeats 20000000 in
set_option maxRecDepth 100000 in
theorem raw_in {s : ByteArray} {a : Option Addr} {b off len cap : Nat} {xs : List Int} {w : World} (hs : s.size ≤ 2000) (h : SlN w a b off len cap xs) (hn : len ≤ 60) :
    Calls Try.prog 4 #[.string s, .slice a len cap] w (RawPost w) := by
  have hcap := h.hcap
  have hmax := h.hmax
  unfold maxLen at hmax
  have x0 : ¬ (2000 : Int) < (s.size : Int) := by omega
  have x1 : ¬ (60 : Int) < (len : Int) := by omega
  have x0b : decide ((2000 : Int) < (s.size : Int)) = false := decide_eq_false x0
  have x1b : decide ((60 : Int) < (len : Int)) = false := decide_eq_false x1
  have HL := Lib.hid h.hl
  have HSL := Lib.hid h
  clear h
  go_enter Try.func4, Try.ntmps4
  go_wp2_with fail
  refine (awake_any _).mono ?_
  rintro e w1 ⟨rfl, hb⟩
  have HB1 := Lib.hid hb
  clear hb
  go_wp2_with fail
  refine (rdNew_any s _).mono ?_
  rintro e w2 ⟨rfl, hR, hb⟩
  have hz1 := HB1.out.size
  have hz2 := hb.size
  have hB2 : Below w.heap.size w w2 := HB1.out.trans (hb.mono hz1)
  have hlt := hR.lt
  have HBO : Hid (Both w (w2.alloc (.cells #[.string s, .int .i64 0, .int .i64 0, .bool false] 43)) w1.heap.size w2.heap.size ⟨s, 0, 0, 0⟩) := Lib.hid (by
    have hB3 : Below w2.heap.size w2 (w2.alloc (.cells #[.string s, .int .i64 0, .int .i64 0, .bool false] 43)) := (by repeat (first | with_reducible exact Below.refl _ _ | (with_reducible refine Below.setCell ?_ (by first | exact Nat.le_refl _ | omega | (simp; done) | (simp; omega)) _) | (with_reducible refine Below.alloc ?_ (by first | exact Nat.le_refl _ | omega | (simp; done) | (simp; omega)) _) | with_reducible refine Below.drew ?_ | with_reducible refine bel_drewN ?_ _ | (with_reducible refine bel_by (by with_reducible assumption) (by first | exact Nat.le_refl _ | omega | (simp; done) | (simp; omega)) ?_)))
    refine ⟨hR.below hB3, ⟨by simp [go_sem], by simp [go_sem], by simp [go_sem], by simp [go_sem, badR], fun o => by simp [go_sem], by simp⟩, ⟨by simp only; omega, Nat.zero_le _, by simp⟩, Or.inl rfl, hB2.trans (hB3.mono hB2.size), hlt, hz1⟩)
  have HRB := Lib.hid (show w1.heap.size < w2.heap.size from hlt)
  clear hR hb HB1 hz1 hz2 hB2 hlt
  go_wp2_with fail
  generalize (w2.alloc (.cells #[.string s, .int .i64 0, .int .i64 0, .bool false] 43)) = w3 at *
  generalize w1.heap.size = rb at *
  generalize w2.heap.size = mb at *
  go_loopw [7] (fun s7 wr => ∃ (k : Nat) (r : RSt), s7 = .int .i64 (k : Int) ∧ k ≤ len ∧ Hid (Both w wr rb mb r)) (fun s7 _ => len - (intOf s7).toNat)
  case atStart => exact ⟨0, _, rfl, Nat.zero_le _, HBO⟩
  case round =>
    clear HBO
    obtain ⟨k, r, rfl, hk, hbo⟩ := hrel
    by_cases hlt : k < len
    · have hkL : k < xs.length := by have := HL.out; omega
      have hsl := HSL.out.keep hbo.out.bel
      obtain rfl := hsl.ha (by omega)
      have hc := hsl.cell k hkL
      generalize xs[k] = x at *
      clear hsl
      go_upto_block 2 with fail
      go_cut [8] (fun s8 wx => s8 = .bool true ∧ ∃ r1, Hid (Both w wx rb mb r1))
      case first =>
        have HI := Lib.hid (fun w4 (hb : But rb wr w4) => hbo.out.hi.but hb (by have := HRB.out; omega))
        by_cases q0 : x = 0
        · subst q0
          have H1 := Lib.hid (rdInt_any rb r wr hbo.out.hr hbo.out.ok)
          have H2 := Lib.hid (fun w4 hb => inInt_any mb r w4 (HI.out w4 hb) hbo.out.ok hbo.out.er)
          have H3 := Lib.hid (fun w4 w5 => Both.step (w1 := w4) (w2 := w5) (K := 1) hbo.out (by omega))
          generalize (readR r 1).2.n = n at *
          generalize (readR r 1).1 = r1 at *
          go_wp2_with fail
          refine H1.out.mono ?_
          rintro e w4 ⟨rfl, hr, hb⟩
          go_wp2_with fail
          refine (H2.out _ hb).mono ?_
          rintro e w5 ⟨rfl, hi, hb2⟩
          have HB5 := Lib.hid (H3.out _ _ hr hb hi hb2)
          clear hr hb hi hb2
          go_wp2_with fail
          go_meet
          exact ⟨by simp, r1, HB5⟩
        by_cases q1 : x = 1
        · subst q1
          have H1 := Lib.hid (rdText_any rb r wr hbo.out.hr hbo.out.ok)
          have H2 := Lib.hid (fun w4 hb => inText_any mb r w4 (HI.out w4 hb) hbo.out.ok hbo.out.er)
          have H3 := Lib.hid (fun w4 w5 => Both.step (w1 := w4) (w2 := w5) (K := 2) hbo.out (by omega))
          generalize (readR r 2).2.text = n at *
          generalize (readR r 2).1 = r1 at *
          clear q0
          go_wp2_with fail
          refine H1.out.mono ?_
          rintro e w4 ⟨rfl, hr, hb⟩
          go_wp2_with fail
          refine (H2.out _ hb).mono ?_
          rintro e w5 ⟨rfl, hi, hb2⟩
          have HB5 := Lib.hid (H3.out _ _ hr hb hi hb2)
          clear hr hb hi hb2
          go_wp2_with fail
          go_meet
          exact ⟨by simp, r1, HB5⟩
        by_cases q2 : x = 2
        · subst q2
          have H1 := Lib.hid (rdOpen_any rb r wr hbo.out.hr hbo.out.ok)
          have H2 := Lib.hid (fun w4 hb => inBegin_any mb r w4 (HI.out w4 hb) hbo.out.ok hbo.out.er)
          have H3 := Lib.hid (fun w4 w5 => Both.step (w1 := w4) (w2 := w5) (K := 3) hbo.out (by omega))
          generalize (readR r 3).1 = r1 at *
          clear q0 q1
          go_wp2_with fail
          refine H1.out.mono ?_
          rintro e w4 ⟨rfl, hr, hb⟩
          go_wp2_with fail
          refine (H2.out _ hb).mono ?_
          rintro e w5 ⟨rfl, hi, hb2⟩
          have HB5 := Lib.hid (H3.out _ _ hr hb hi hb2)
          clear hr hb hi hb2
          go_wp2_with fail
          go_meet
          exact ⟨rfl, r1, HB5⟩
        by_cases q3 : x = 3
        · subst q3
          have H1 := Lib.hid (rdClose_any rb r wr hbo.out.hr hbo.out.ok)
          have H2 := Lib.hid (fun w4 hb => inClose_any mb r w4 (HI.out w4 hb) hbo.out.ok hbo.out.er)
          have H3 := Lib.hid (fun w4 w5 => Both.step (w1 := w4) (w2 := w5) (K := 4) hbo.out (by omega))
          generalize (readR r 4).1 = r1 at *
          clear q0 q1 q2
          go_wp2_with fail
          refine H1.out.mono ?_
          rintro e w4 ⟨rfl, hr, hb⟩
          go_wp2_with fail
          refine (H2.out _ hb).mono ?_
          rintro e w5 ⟨rfl, hi, hb2⟩
          have HB5 := Lib.hid (H3.out _ _ hr hb hi hb2)
          clear hr hb hi hb2
          go_wp2_with fail
          go_meet
          exact ⟨rfl, r1, HB5⟩
        have p0 : (x == 0) = false := by simpa using q0
        have p1 : (x == 1) = false := by simpa using q1
        have p2 : (x == 2) = false := by simpa using q2
        have p3 : (x == 3) = false := by simpa using q3
        clear q0 q1 q2 q3
        by_cases q4 : (100 : Int) < x
        · have H1 := Lib.hid (rdFail_any rb r wr hbo.out.hr)
          have H3 := Lib.hid (fun w4 => Both.fail (w1 := w4) hbo.out)
          have HC3 := Lib.hid (fun w4 hb => (HI.out w4 hb).c3)
          have HF3 := Lib.hid (fun w4 hb => (HI.out w4 hb).f)
          have HE : Hid ((if r.err = 0 then { r with err := 2 } else r) = failR r) := Lib.hid rfl
          rw [HE.out] at H1
          generalize failR r = r1 at *
          go_wp2_with fail
          refine H1.out.mono ?_
          rintro e w4 ⟨rfl, hr, hb⟩
          have hc3 := HC3.out w4 hb
          have hf3 := HF3.out w4 hb
          have HB5 := Lib.hid (H3.out _ hr hb)
          clear hr hb
          go_wp2_with fail
          go_meet
          exact ⟨rfl, r1, HB5⟩
        · go_wp2_with fail
          go_meet
          exact ⟨rfl, r, hbo⟩
      clear hbo hc
      obtain ⟨rfl, r1, hbo⟩ := hcut
      have hb1 := hbo.out
      have QM := Lib.hid (qc_more hb1.hr hb1.ok)
      have QI := Lib.hid (qc_imore hb1.hi hb1.ok hb1.er)
      have QE := Lib.hid (qc_err hb1.hr)
      have QO := Lib.hid (qc_off hb1.hr)
      have QN := Lib.hid (qc_end hb1.hr hb1.ok)
      have QJ := Lib.hid (qc_iend hb1.hi hb1.ok hb1.er)
      have d1 := hb1.hi.c1
      have d3 := hb1.hi.c3
      have hend : endR r1 = 0 ∧ endB r1 = true ∨ endR r1 = 2 ∧ endB r1 = false := by
        rcases endR_02 hb1.er with h | h
        · exact Or.inl ⟨h, by unfold endB; rw [h]; rfl⟩
        · exact Or.inr ⟨h, by unfold endB; rw [h]; rfl⟩
      have herr : r1.err = 0 ∧ badR r1 = false ∨ r1.err = 2 ∧ badR r1 = true := by
        rcases hb1.er with h | h
        · exact Or.inl ⟨h, by unfold badR; rw [h]; rfl⟩
        · exact Or.inr ⟨h, by unfold badR; rw [h]; rfl⟩
      have HBB := Lib.hid (fun nn => (⟨hb1.hr.drewN nn, hb1.hi.drewN nn, hb1.ok, hb1.er, bel_drewN hb1.bel nn, hb1.rm, hb1.wr⟩ : Both w (wc.drewN nn) rb mb r1))
      clear hb1 hbo
      generalize endR r1 = E at *
      generalize endB r1 = eb at *
      generalize badR r1 = bad at *
      generalize moreR r1 = m at *
      generalize r1.err = er at *
      generalize r1.at' = at1 at *
      rcases hend with ⟨rfl, rfl⟩ | ⟨rfl, rfl⟩
      all_goals rcases herr with ⟨rfl, rfl⟩ | ⟨rfl, rfl⟩
      all_goals cases m
      all_goals
        go_wp2_with fail
        refine wp_region_quiet_lit (by kernel_rfl) (by kernel_rfl) ?_
        repeat (go_big_quiet_step ((first | (go_at_call 16; exact QM.out _) | (go_at_call 29; exact QI.out _) | (go_at_call 21; exact QE.out _) | (go_at_call 23; exact QO.out _) | (go_at_call 22; exact QN.out _) | (go_at_call 30; exact QJ.out _))))
        refine wpQuiet_nil ?_
        intro _ hw'
        obtain ⟨nq, hw''⟩ := hw'
        subst hw''
        go_wp2
        go_roundw
        case rel => exact ⟨k + 1, r1, by go_num, by omega, HBB.out _⟩
        case measure => simp [intOf]; omega
    · obtain rfl : k = len := by omega
      have HB := Lib.hid hbo.out.bel
      clear hbo
      go_wp2
      go_ret
      exact ⟨rfl, HB.out⟩
theorem raw_walk {s : ByteArray} {a : Option Addr} {b off len cap : Nat} {xs : List Int} {w : World} (hs : s.size ≤ 9223372036854775807) (h : SlN w a b off len cap xs) :
    Calls Try.prog 4 #[.string s, .slice a len cap] w fun e w' => e = .returned (.bool true) ∧ Below w.heap.size w w' := by
  by_cases hn : (2000 : Int) < (s.size : Int) ∨ (60 : Int) < (len : Int)
  · exact raw_out hs h hn
  · exact raw_in (by omega) h (by omega)
end Go.Proofs.Ytljeialaefmbmaa
