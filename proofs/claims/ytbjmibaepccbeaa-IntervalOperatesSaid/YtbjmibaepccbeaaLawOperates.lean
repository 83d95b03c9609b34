/- The five operations return the specified interval or error: the law. -/
import Derived.Test.YtbjmibaepccbeaaIvE
import Derived.Test.YtbjmibaepccbeaaIvW
set_option linter.unusedSimpArgs false
set_option linter.unusedVariables false
namespace Go.Proofs.Ytbjmibaepccbeaa
open Go.RowKit
open Iv

theorem two_boxes (w : World) (a1 a2 a3 a4 b1 b2 b3 b4 : Int) : AlB ((w.alloc (.cells #[.int .i64 a1, .int .i64 a2, .int .i64 a3, .int .i64 a4] 25)).alloc (.cells #[.int .i64 b1, .int .i64 b2, .int .i64 b3, .int .i64 b4] 25)) w.heap.size ((a1, a2), (a3, a4)) ∧ AlB ((w.alloc (.cells #[.int .i64 a1, .int .i64 a2, .int .i64 a3, .int .i64 a4] 25)).alloc (.cells #[.int .i64 b1, .int .i64 b2, .int .i64 b3, .int .i64 b4] 25)) (w.heap.size + 1) ((b1, b2), (b3, b4)) :=
  ⟨⟨by simp [go_sem], by simp [go_sem], by simp [go_sem], by simp [go_sem], by simp; omega, fun o => by simp [go_sem]⟩,
    ⟨by simp [go_sem], by simp [go_sem], by simp [go_sem], by simp [go_sem], by simp, fun o => by simp [go_sem]⟩⟩
set_option maxHeartbeats 8000000 in
set_option maxRecDepth 100000 in
theorem operates_law {a b : V} (ha : WfV a) (hb : WfV b) (w : World) :
    Calls Try.prog 4 #[(.agg #[.int .i64 (a).1.1, .int .i64 (a).1.2, .int .i64 (a).2.1, .int .i64 (a).2.2]), (.agg #[.int .i64 (b).1.1, .int .i64 (b).1.2, .int .i64 (b).2.1, .int .i64 (b).2.2])] w fun e w' => e = .returned (.bool true) ∧ Below w.heap.size w w' := by
  have HAW := Lib.hid (fun w => awake_any w)
  have HD := Lib.hid (fun op (h : op < 5) w => do_any op h a b ha hb w)
  have HO := Lib.hid (fun op (h : op < 5) w => rof_any op (by omega) a b ha hb w)
  have HE := Lib.hid (fun op (h : op < 5) => do_of h a b)
  clear ha hb
  obtain ⟨⟨a1, a2⟩, ⟨a3, a4⟩⟩ := a
  obtain ⟨⟨b1, b2⟩, ⟨b3, b4⟩⟩ := b
  have HA0 := Lib.hid (two_boxes w a1 a2 a3 a4 b1 b2 b3 b4).1
  have HB0 := Lib.hid (two_boxes w a1 a2 a3 a4 b1 b2 b3 b4).2
  simp only at HD HO HE
  go_enter Try.func4, Try.ntmps4
  go_wp2_with fail
  refine (HAW.out _).mono ?_
  rintro e w1 ⟨rfl, hb1⟩
  have HA1 := Lib.hid (HA0.out.keep hb1)
  have HB1 := Lib.hid (HB0.out.keep hb1)
  have HW1 := Lib.hid (show Below w.heap.size w w1 from Below.trans (by repeat (first | with_reducible exact Below.refl _ _ | (with_reducible refine Below.setCell ?_ (by first | exact Nat.le_refl _ | omega | (simp; done) | (simp; omega)) _) | (with_reducible refine Below.alloc ?_ (by first | exact Nat.le_refl _ | omega | (simp; done) | (simp; omega)) _) | with_reducible refine Below.drew ?_ | with_reducible refine bel_drewN ?_ _ | (with_reducible refine bel_by (by with_reducible assumption) (by first | exact Nat.le_refl _ | omega | (simp; done) | (simp; omega)) ?_))) (hb1.mono (by simp; omega)))
  clear hb1 HA0 HB0
  go_wp2_with fail
  go_loopw [5] (fun s5 wr => ∃ (k : Nat), k ≤ 5 ∧ s5 = .int .i64 (k : Int) ∧ Hid (Below w.heap.size w wr) ∧ Hid (AlB wr w.heap.size ((a1, a2), (a3, a4))) ∧ Hid (AlB wr (w.heap.size + 1) ((b1, b2), (b3, b4)))) (fun s5 _ => (5 - (intOf s5)).toNat)
  case atStart => exact ⟨0, Nat.zero_le _, rfl, HW1, HA1, HB1⟩
  case round =>
    clear HA1 HB1 HW1 HAW
    obtain ⟨k, hk, rfl, HW, HA, HB⟩ := hrel
    by_cases hlt : k < 5
    · have l1 : (k : Int) ≤ 4 := by omega
      have HDk := Lib.hid (HD.out k hlt)
      have HOk := Lib.hid (HO.out k hlt)
      have hek := HE.out k hlt
      rw [← hek] at HOk
      obtain ⟨X, hX⟩ : ∃ X, doV k ((a1, a2), (a3, a4)) ((b1, b2), (b3, b4)) = X := ⟨_, rfl⟩
      rw [hX] at HDk HOk
      clear hX hek HD HO HE
      obtain ⟨⟨⟨x1, x2⟩, ⟨x3, x4⟩⟩, xe⟩ := X
      simp only at HDk HOk
      have c0 := HA.out.c0
      have c1 := HA.out.c1
      have c2 := HA.out.c2
      have c3 := HA.out.c3
      have d0 := HB.out.c0
      have d1 := HB.out.c1
      have d2 := HB.out.c2
      have d3 := HB.out.c3
      simp only at c0 c1 c2 c3 d0 d1 d2 d3
      have hz := HB.out.la
      have hw := HW.out.size
      go_wp2_with fail
      refine (HDk.out _).mono ?_
      rintro e w2 ⟨rfl, hb2⟩
      have HA2 := Lib.hid (HA.out.keep hb2)
      have HB2 := Lib.hid (HB.out.keep hb2)
      have HW2 := Lib.hid (HW.out.trans (hb2.mono HW.out.size))
      have hz2 := bsize hb2
      clear c0 c1 c2 c3 d0 d1 d2 d3 HA HB HW hb2 HDk
      have HX2 := Lib.hid (al_new w2 x1 x2 x3 x4)
      have hba := (Below.refl w2.heap.size w2).alloc (Nat.le_refl _) (.cells #[.int .i64 x1, .int .i64 x2, .int .i64 x3, .int .i64 x4] 25)
      have HA2' := Lib.hid (HA2.out.keep hba)
      have HB2' := Lib.hid (HB2.out.keep hba)
      have c0 := HA2'.out.c0
      have c1 := HA2'.out.c1
      have c2 := HA2'.out.c2
      have c3 := HA2'.out.c3
      have d0 := HB2'.out.c0
      have d1 := HB2'.out.c1
      have d2 := HB2'.out.c2
      have d3 := HB2'.out.c3
      simp only at c0 c1 c2 c3 d0 d1 d2 d3
      go_wp2_with fail
      refine (HOk.out _).mono ?_
      rintro e w3 ⟨rfl, hb3⟩
      have HX3 := Lib.hid (HX2.out.keep hb3)
      have hb23 : Below w2.heap.size w2 w3 := hba.trans (hb3.mono (by simp))
      have HA3 := Lib.hid (HA2.out.keep hb23)
      have HB3 := Lib.hid (HB2.out.keep hb23)
      have HW3 := Lib.hid (HW2.out.trans (hb23.mono HW2.out.size))
      have hz3 := HX3.out.la
      clear c0 c1 c2 c3 d0 d1 d2 d3 HA2 HB2 HA2' HB2' HW2 HX2 hba hb23 hb3 HOk
      have x0 := HX3.out.c0
      have x1' := HX3.out.c1
      have x2' := HX3.out.c2
      have x3' := HX3.out.c3
      simp only at x0 x1' x2' x3'
      go_wp2
      have hbz := (Below.refl w3.heap.size w3).alloc (Nat.le_refl _) (.cells #[.int .i64 x1, .int .i64 x2, .int .i64 x3, .int .i64 x4] 25)
      refine ⟨⟨k + 1, by omega, rfl, Lib.hid (HW3.out.trans (hbz.mono HW3.out.size)), Lib.hid (HA3.out.keep hbz), Lib.hid (HB3.out.keep hbz)⟩, ?_⟩
      show (5 - ((k : Int) + 1)).toNat < (5 - (k : Int)).toNat
      omega
    · obtain rfl : k = 5 := by omega
      go_wp2
      go_ret
      exact ⟨rfl, HW.out⟩
end Go.Proofs.Ytbjmibaepccbeaa
