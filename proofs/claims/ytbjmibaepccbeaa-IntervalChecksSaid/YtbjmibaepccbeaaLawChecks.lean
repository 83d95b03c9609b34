/- Make, Valid, Contains and Inside answer as specified: the law. -/
import Derived.Test.YtbjmibaepccbeaaIvE
import Derived.Test.YtbjmibaepccbeaaIvW
import Derived.Test.YtbjmibaepccbeaaBoxes
import Derived.Deep.RegionHeld3
set_option linter.unusedSimpArgs false
set_option linter.unusedVariables false
namespace Go.Proofs.Ytbjmibaepccbeaa
open Go.RowKit
open Iv

theorem zof {W : World} {p q r : Nat} {a1 a2 a3 a4 b1 b2 b3 b4 f1 f2 : Int} (Ha : AlB W p ((a1, a2), (a3, a4))) (Hb : AlB W q ((b1, b2), (b3, b4))) (Hf : FrB W r (f1, f2)) : W.cell? ⟨p, 0, none⟩ = some (.int .i64 a1) ∧ W.cell? ⟨p, 1, none⟩ = some (.int .i64 a2) ∧ W.cell? ⟨p, 2, none⟩ = some (.int .i64 a3) ∧ W.cell? ⟨p, 3, none⟩ = some (.int .i64 a4) ∧ W.cell? ⟨q, 0, none⟩ = some (.int .i64 b1) ∧ W.cell? ⟨q, 1, none⟩ = some (.int .i64 b2) ∧ W.cell? ⟨q, 2, none⟩ = some (.int .i64 b3) ∧ W.cell? ⟨q, 3, none⟩ = some (.int .i64 b4) ∧ W.cell? ⟨r, 0, none⟩ = some (.int .i64 f1) ∧ W.cell? ⟨r, 1, none⟩ = some (.int .i64 f2) := ⟨Ha.c0, Ha.c1, Ha.c2, Ha.c3, Hb.c0, Hb.c1, Hb.c2, Hb.c3, Hf.c0, Hf.c1⟩
theorem boxes_checks (w : World) (a1 a2 a3 a4 b1 b2 b3 b4 f1 f2 : Int) : AlB (((w.alloc (.cells #[.int .i64 a1, .int .i64 a2, .int .i64 a3, .int .i64 a4] 25)).alloc (.cells #[.int .i64 b1, .int .i64 b2, .int .i64 b3, .int .i64 b4] 25)).alloc (.cells #[.int .i64 f1, .int .i64 f2] 23)) (w.heap.size) ((a1, a2), (a3, a4)) ∧ AlB (((w.alloc (.cells #[.int .i64 a1, .int .i64 a2, .int .i64 a3, .int .i64 a4] 25)).alloc (.cells #[.int .i64 b1, .int .i64 b2, .int .i64 b3, .int .i64 b4] 25)).alloc (.cells #[.int .i64 f1, .int .i64 f2] 23)) (w.heap.size + 1) ((b1, b2), (b3, b4)) ∧ FrB (((w.alloc (.cells #[.int .i64 a1, .int .i64 a2, .int .i64 a3, .int .i64 a4] 25)).alloc (.cells #[.int .i64 b1, .int .i64 b2, .int .i64 b3, .int .i64 b4] 25)).alloc (.cells #[.int .i64 f1, .int .i64 f2] 23)) (w.heap.size + 1 + 1) (f1, f2) :=
  ⟨⟨by simp [go_sem], by simp [go_sem], by simp [go_sem], by simp [go_sem], by simp; try omega, fun o => by simp [go_sem]⟩, ⟨by simp [go_sem], by simp [go_sem], by simp [go_sem], by simp [go_sem], by simp; try omega, fun o => by simp [go_sem]⟩, ⟨by simp [go_sem], by simp [go_sem], by simp; try omega, fun o => by simp [go_sem]⟩⟩
set_option maxHeartbeats 16000000 in
set_option maxRecDepth 100000 in
theorem checks_law {a : V} {b : V} {f : F} (ha : WfV a) (hb : WfV b) (hf : Wf64 f) (w : World) :
    Calls Try.prog 3 #[(.agg #[.int .i64 (a).1.1, .int .i64 (a).1.2, .int .i64 (a).2.1, .int .i64 (a).2.2]), (.agg #[.int .i64 (b).1.1, .int .i64 (b).1.2, .int .i64 (b).2.1, .int .i64 (b).2.2]), (.agg #[.int .i64 (f).1, .int .i64 (f).2])] w fun e w' => e = .returned (.bool true) ∧ Below w.heap.size w w' := by
  have HAW := Lib.hid (fun w => awake_any w)
  have HM := Lib.hid (imake_any a.1 a.2 ha.l ha.h)
  have hmk : makeV a.1 a.2 = (if okV a = true then (a, 0) else (zV, 1)) := rfl
  rw [hmk] at HM
  clear hmk
  have HV := Lib.hid (iok_any a ha)
  have HRV := Lib.hid (rok_any a ha)
  have HC := Lib.hid (icontains_any a f ha hf)
  have HRC := Lib.hid (rcontains_any a f ha hf)
  have HI := Lib.hid (iinside_any a b ha hb)
  have HRI := Lib.hid (rinside_any a b ha hb)
  clear ha hb hf
  obtain ⟨⟨a1, a2⟩, ⟨a3, a4⟩⟩ := a
  obtain ⟨⟨b1, b2⟩, ⟨b3, b4⟩⟩ := b
  obtain ⟨f1, f2⟩ := f
  simp only at HM HV HRV HC HRC HI HRI
  obtain ⟨ok, e_ok⟩ : ∃ x, okV ((a1, a2), (a3, a4)) = x := ⟨_, rfl⟩
  rw [e_ok] at HM HV HRV
  clear e_ok
  obtain ⟨c, e_c⟩ : ∃ x, conV ((a1, a2), (a3, a4)) (f1, f2) = x := ⟨_, rfl⟩
  rw [e_c] at HC HRC
  clear e_c
  obtain ⟨i, e_i⟩ : ∃ x, insV ((a1, a2), (a3, a4)) ((b1, b2), (b3, b4)) = x := ⟨_, rfl⟩
  rw [e_i] at HI HRI
  clear e_i
  have Ha := Lib.hid (boxes_checks w a1 a2 a3 a4 b1 b2 b3 b4 f1 f2).1
  have Hb := Lib.hid (boxes_checks w a1 a2 a3 a4 b1 b2 b3 b4 f1 f2).2.1
  have Hf := Lib.hid (boxes_checks w a1 a2 a3 a4 b1 b2 b3 b4 f1 f2).2.2
  go_enter Try.func3, Try.ntmps3
  go_wp2_with fail
  refine (HAW.out _).mono ?_
  rintro e w0 ⟨rfl, hb⟩
  replace Ha := Lib.hid (Ha.out.keep hb)
  replace Hb := Lib.hid (Hb.out.keep hb)
  replace Hf := Lib.hid (Hf.out.keep hb)
  have HW := Lib.hid (show Below w.heap.size w w0 from Below.trans (by repeat (first | with_reducible exact Below.refl _ _ | (with_reducible refine Below.setCell ?_ (by first | exact Nat.le_refl _ | omega | (simp; done) | (simp; omega)) _) | (with_reducible refine Below.alloc ?_ (by first | exact Nat.le_refl _ | omega | (simp; done) | (simp; omega)) _) | with_reducible refine Below.drew ?_ | with_reducible refine bel_drewN ?_ _ | (with_reducible refine bel_by (by with_reducible assumption) (by first | exact Nat.le_refl _ | omega | (simp; done) | (simp; omega)) ?_))) (hb.mono (by simp; omega)))
  clear hb HAW
  have ka0 := Ha.out.c0
  have ka1 := Ha.out.c1
  have ka2 := Ha.out.c2
  have ka3 := Ha.out.c3
  have kb0 := Hb.out.c0
  have kb1 := Hb.out.c1
  have kb2 := Hb.out.c2
  have kb3 := Hb.out.c3
  have kf0 := Hf.out.c0
  have kf1 := Hf.out.c1
  simp only at ka0 ka1 ka2 ka3 kb0 kb1 kb2 kb3 kf0 kf1
  cases ok with
  | false =>
    simp only [if_true, if_false, Bool.false_eq_true, zV, zF] at HM
    go_wp2_with fail
    refine (HM.out _).mono ?_
    rintro e w1 ⟨rfl, hb⟩
    clear ka0 ka1 ka2 ka3 kb0 kb1 kb2 kb3 kf0 kf1
    have HB0 := hb.alloc hb.size (.cells #[.int .i64 0, .int .i64 0, .int .i64 0, .int .i64 0] 25)
    have Hm := Lib.hid (al_new w1 0 0 0 0)
    replace Ha := Lib.hid (Ha.out.keep HB0)
    replace Hb := Lib.hid (Hb.out.keep HB0)
    replace Hf := Lib.hid (Hf.out.keep HB0)
    replace HW := Lib.hid (HW.out.trans (HB0.mono HW.out.size))
    clear hb HB0
    have ka0 := Ha.out.c0
    have ka1 := Ha.out.c1
    have ka2 := Ha.out.c2
    have ka3 := Ha.out.c3
    have kb0 := Hb.out.c0
    have kb1 := Hb.out.c1
    have kb2 := Hb.out.c2
    have kb3 := Hb.out.c3
    have kf0 := Hf.out.c0
    have kf1 := Hf.out.c1
    have km0 := Hm.out.c0
    have km1 := Hm.out.c1
    have km2 := Hm.out.c2
    have km3 := Hm.out.c3
    simp only at ka0 ka1 ka2 ka3 kb0 kb1 kb2 kb3 kf0 kf1 km0 km1 km2 km3
    go_wp2_with fail
    refine (HRV.out _).mono ?_
    rintro e w2 ⟨rfl, hb⟩
    clear ka0 ka1 ka2 ka3 kb0 kb1 kb2 kb3 kf0 kf1 km0 km1 km2 km3
    have HB2 := hb
    replace Ha := Lib.hid (Ha.out.keep HB2)
    replace Hb := Lib.hid (Hb.out.keep HB2)
    replace Hf := Lib.hid (Hf.out.keep HB2)
    replace Hm := Lib.hid (Hm.out.keep HB2)
    replace HW := Lib.hid (HW.out.trans (HB2.mono HW.out.size))
    clear hb HB2
    have ka0 := Ha.out.c0
    have ka1 := Ha.out.c1
    have ka2 := Ha.out.c2
    have ka3 := Ha.out.c3
    have kb0 := Hb.out.c0
    have kb1 := Hb.out.c1
    have kb2 := Hb.out.c2
    have kb3 := Hb.out.c3
    have kf0 := Hf.out.c0
    have kf1 := Hf.out.c1
    have km0 := Hm.out.c0
    have km1 := Hm.out.c1
    have km2 := Hm.out.c2
    have km3 := Hm.out.c3
    simp only at ka0 ka1 ka2 ka3 kb0 kb1 kb2 kb3 kf0 kf1 km0 km1 km2 km3
    go_wp2_with fail
    go_region_held3 (fun w' => w'.cell? ⟨w.heap.size, 0, none⟩ = some (.int .i64 a1) ∧ w'.cell? ⟨w.heap.size, 1, none⟩ = some (.int .i64 a2) ∧ w'.cell? ⟨w.heap.size, 2, none⟩ = some (.int .i64 a3) ∧ w'.cell? ⟨w.heap.size, 3, none⟩ = some (.int .i64 a4) ∧ w'.cell? ⟨w.heap.size + 1, 0, none⟩ = some (.int .i64 b1) ∧ w'.cell? ⟨w.heap.size + 1, 1, none⟩ = some (.int .i64 b2) ∧ w'.cell? ⟨w.heap.size + 1, 2, none⟩ = some (.int .i64 b3) ∧ w'.cell? ⟨w.heap.size + 1, 3, none⟩ = some (.int .i64 b4) ∧ w'.cell? ⟨w.heap.size + 1 + 1, 0, none⟩ = some (.int .i64 f1) ∧ w'.cell? ⟨w.heap.size + 1 + 1, 1, none⟩ = some (.int .i64 f2))
      ((first | exact z | exact ⟨ka0, ka1, ka2, ka3, kb0, kb1, kb2, kb3, kf0, kf1⟩))
      (first
        | (go_at_call 13; refine (HV.out _).mono ?_; rintro e v ⟨rfl, hb⟩; (try (with_reducible replace hb := undrew hb)); replace Ha := Lib.hid (Ha.out.keep hb); replace Hb := Lib.hid (Hb.out.keep hb); replace Hf := Lib.hid (Hf.out.keep hb); replace HW := Lib.hid (HW.out.trans (hb.mono HW.out.size)); (try clear z); have z := zof Ha.out Hb.out Hf.out; clear hb)
        | (go_at_call 12; refine (HRV.out _).mono ?_; rintro e v ⟨rfl, hb⟩; (try (with_reducible replace hb := undrew hb)); replace Ha := Lib.hid (Ha.out.keep hb); replace Hb := Lib.hid (Hb.out.keep hb); replace Hf := Lib.hid (Hf.out.keep hb); replace HW := Lib.hid (HW.out.trans (hb.mono HW.out.size)); (try clear z); have z := zof Ha.out Hb.out Hf.out; clear hb)
        | (go_at_call 14; refine (HC.out _).mono ?_; rintro e v ⟨rfl, hb⟩; (try (with_reducible replace hb := undrew hb)); replace Ha := Lib.hid (Ha.out.keep hb); replace Hb := Lib.hid (Hb.out.keep hb); replace Hf := Lib.hid (Hf.out.keep hb); replace HW := Lib.hid (HW.out.trans (hb.mono HW.out.size)); (try clear z); have z := zof Ha.out Hb.out Hf.out; clear hb)
        | (go_at_call 15; refine (HRC.out _).mono ?_; rintro e v ⟨rfl, hb⟩; (try (with_reducible replace hb := undrew hb)); replace Ha := Lib.hid (Ha.out.keep hb); replace Hb := Lib.hid (Hb.out.keep hb); replace Hf := Lib.hid (Hf.out.keep hb); replace HW := Lib.hid (HW.out.trans (hb.mono HW.out.size)); (try clear z); have z := zof Ha.out Hb.out Hf.out; clear hb)
        | (go_at_call 16; refine (HI.out _).mono ?_; rintro e v ⟨rfl, hb⟩; (try (with_reducible replace hb := undrew hb)); replace Ha := Lib.hid (Ha.out.keep hb); replace Hb := Lib.hid (Hb.out.keep hb); replace Hf := Lib.hid (Hf.out.keep hb); replace HW := Lib.hid (HW.out.trans (hb.mono HW.out.size)); (try clear z); have z := zof Ha.out Hb.out Hf.out; clear hb)
        | (go_at_call 17; refine (HRI.out _).mono ?_; rintro e v ⟨rfl, hb⟩; (try (with_reducible replace hb := undrew hb)); replace Ha := Lib.hid (Ha.out.keep hb); replace Hb := Lib.hid (Hb.out.keep hb); replace Hf := Lib.hid (Hf.out.keep hb); replace HW := Lib.hid (HW.out.trans (hb.mono HW.out.size)); (try clear z); have z := zof Ha.out Hb.out Hf.out; clear hb))
    all_goals
      go_wp2
      go_ret
      exact ⟨rfl, HW.out⟩
  | true =>
    simp only [if_true, if_false, Bool.false_eq_true, zV, zF] at HM
    go_wp2_with fail
    refine (HM.out _).mono ?_
    rintro e w1 ⟨rfl, hb⟩
    clear ka0 ka1 ka2 ka3 kb0 kb1 kb2 kb3 kf0 kf1
    have HB0 := hb.alloc hb.size (.cells #[.int .i64 a1, .int .i64 a2, .int .i64 a3, .int .i64 a4] 25)
    have Hm := Lib.hid (al_new w1 a1 a2 a3 a4)
    replace Ha := Lib.hid (Ha.out.keep HB0)
    replace Hb := Lib.hid (Hb.out.keep HB0)
    replace Hf := Lib.hid (Hf.out.keep HB0)
    replace HW := Lib.hid (HW.out.trans (HB0.mono HW.out.size))
    clear hb HB0
    have ka0 := Ha.out.c0
    have ka1 := Ha.out.c1
    have ka2 := Ha.out.c2
    have ka3 := Ha.out.c3
    have kb0 := Hb.out.c0
    have kb1 := Hb.out.c1
    have kb2 := Hb.out.c2
    have kb3 := Hb.out.c3
    have kf0 := Hf.out.c0
    have kf1 := Hf.out.c1
    have km0 := Hm.out.c0
    have km1 := Hm.out.c1
    have km2 := Hm.out.c2
    have km3 := Hm.out.c3
    simp only at ka0 ka1 ka2 ka3 kb0 kb1 kb2 kb3 kf0 kf1 km0 km1 km2 km3
    go_wp2_with fail
    refine (HRV.out _).mono ?_
    rintro e w2 ⟨rfl, hb⟩
    clear ka0 ka1 ka2 ka3 kb0 kb1 kb2 kb3 kf0 kf1 km0 km1 km2 km3
    have HB2 := hb
    replace Ha := Lib.hid (Ha.out.keep HB2)
    replace Hb := Lib.hid (Hb.out.keep HB2)
    replace Hf := Lib.hid (Hf.out.keep HB2)
    replace Hm := Lib.hid (Hm.out.keep HB2)
    replace HW := Lib.hid (HW.out.trans (HB2.mono HW.out.size))
    clear hb HB2
    have ka0 := Ha.out.c0
    have ka1 := Ha.out.c1
    have ka2 := Ha.out.c2
    have ka3 := Ha.out.c3
    have kb0 := Hb.out.c0
    have kb1 := Hb.out.c1
    have kb2 := Hb.out.c2
    have kb3 := Hb.out.c3
    have kf0 := Hf.out.c0
    have kf1 := Hf.out.c1
    have km0 := Hm.out.c0
    have km1 := Hm.out.c1
    have km2 := Hm.out.c2
    have km3 := Hm.out.c3
    simp only at ka0 ka1 ka2 ka3 kb0 kb1 kb2 kb3 kf0 kf1 km0 km1 km2 km3
    go_wp2_with fail
    go_region_held3 (fun w' => w'.cell? ⟨w.heap.size, 0, none⟩ = some (.int .i64 a1) ∧ w'.cell? ⟨w.heap.size, 1, none⟩ = some (.int .i64 a2) ∧ w'.cell? ⟨w.heap.size, 2, none⟩ = some (.int .i64 a3) ∧ w'.cell? ⟨w.heap.size, 3, none⟩ = some (.int .i64 a4) ∧ w'.cell? ⟨w.heap.size + 1, 0, none⟩ = some (.int .i64 b1) ∧ w'.cell? ⟨w.heap.size + 1, 1, none⟩ = some (.int .i64 b2) ∧ w'.cell? ⟨w.heap.size + 1, 2, none⟩ = some (.int .i64 b3) ∧ w'.cell? ⟨w.heap.size + 1, 3, none⟩ = some (.int .i64 b4) ∧ w'.cell? ⟨w.heap.size + 1 + 1, 0, none⟩ = some (.int .i64 f1) ∧ w'.cell? ⟨w.heap.size + 1 + 1, 1, none⟩ = some (.int .i64 f2))
      ((first | exact z | exact ⟨ka0, ka1, ka2, ka3, kb0, kb1, kb2, kb3, kf0, kf1⟩))
      (first
        | (go_at_call 13; refine (HV.out _).mono ?_; rintro e v ⟨rfl, hb⟩; (try (with_reducible replace hb := undrew hb)); replace Ha := Lib.hid (Ha.out.keep hb); replace Hb := Lib.hid (Hb.out.keep hb); replace Hf := Lib.hid (Hf.out.keep hb); replace HW := Lib.hid (HW.out.trans (hb.mono HW.out.size)); (try clear z); have z := zof Ha.out Hb.out Hf.out; clear hb)
        | (go_at_call 12; refine (HRV.out _).mono ?_; rintro e v ⟨rfl, hb⟩; (try (with_reducible replace hb := undrew hb)); replace Ha := Lib.hid (Ha.out.keep hb); replace Hb := Lib.hid (Hb.out.keep hb); replace Hf := Lib.hid (Hf.out.keep hb); replace HW := Lib.hid (HW.out.trans (hb.mono HW.out.size)); (try clear z); have z := zof Ha.out Hb.out Hf.out; clear hb)
        | (go_at_call 14; refine (HC.out _).mono ?_; rintro e v ⟨rfl, hb⟩; (try (with_reducible replace hb := undrew hb)); replace Ha := Lib.hid (Ha.out.keep hb); replace Hb := Lib.hid (Hb.out.keep hb); replace Hf := Lib.hid (Hf.out.keep hb); replace HW := Lib.hid (HW.out.trans (hb.mono HW.out.size)); (try clear z); have z := zof Ha.out Hb.out Hf.out; clear hb)
        | (go_at_call 15; refine (HRC.out _).mono ?_; rintro e v ⟨rfl, hb⟩; (try (with_reducible replace hb := undrew hb)); replace Ha := Lib.hid (Ha.out.keep hb); replace Hb := Lib.hid (Hb.out.keep hb); replace Hf := Lib.hid (Hf.out.keep hb); replace HW := Lib.hid (HW.out.trans (hb.mono HW.out.size)); (try clear z); have z := zof Ha.out Hb.out Hf.out; clear hb)
        | (go_at_call 16; refine (HI.out _).mono ?_; rintro e v ⟨rfl, hb⟩; (try (with_reducible replace hb := undrew hb)); replace Ha := Lib.hid (Ha.out.keep hb); replace Hb := Lib.hid (Hb.out.keep hb); replace Hf := Lib.hid (Hf.out.keep hb); replace HW := Lib.hid (HW.out.trans (hb.mono HW.out.size)); (try clear z); have z := zof Ha.out Hb.out Hf.out; clear hb)
        | (go_at_call 17; refine (HRI.out _).mono ?_; rintro e v ⟨rfl, hb⟩; (try (with_reducible replace hb := undrew hb)); replace Ha := Lib.hid (Ha.out.keep hb); replace Hb := Lib.hid (Hb.out.keep hb); replace Hf := Lib.hid (Hf.out.keep hb); replace HW := Lib.hid (HW.out.trans (hb.mono HW.out.size)); (try clear z); have z := zof Ha.out Hb.out Hf.out; clear hb))
    all_goals
      go_wp2
      go_ret
      exact ⟨rfl, HW.out⟩
end Go.Proofs.Ytbjmibaepccbeaa
