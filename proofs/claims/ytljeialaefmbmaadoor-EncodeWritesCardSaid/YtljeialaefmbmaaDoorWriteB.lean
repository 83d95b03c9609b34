/- Contracts of package encode: Open, Close, Depth of a Writer. -/
import Derived.Test.YtljeialaefmbmaaDoorWrite
set_option linter.unusedSimpArgs false
set_option linter.unusedVariables false
namespace Go.Proofs.YtljeialaefmbmaaDoor
open Go.RowKit

theorem But.refl (b : Nat) (w : World) : But b w w := But.of (Below.refl _ _)

set_option maxRecDepth 100000 in
theorem wdepth_any (b : Nat) (l : List ByteArray) (o : Nat) (w : World) (hW : WAt w b l o) :
    Calls Tryd.prog 9 #[.pointer (some ⟨b, 0, none⟩)] w fun e w' => e = .returned (.int .i64 (o : Int)) ∧ w = w' := by
  obtain ⟨⟨v, c0, hc⟩, c1, c2, ff, lt⟩ := hW
  clear hc c0 c1
  go_enter Tryd.func9, Tryd.ntmps9
  go_wp2
  go_ret
  exact ⟨rfl, rfl⟩

set_option maxHeartbeats 1000000 in
set_option maxRecDepth 100000 in
theorem wopen_any (b : Nat) (l : List ByteArray) (o : Nat) (w : World) (hW : WAt w b l o) (hs : sumLen l + 1 ≤ 4611686018427387904) (ho : o ≤ 4611686018427387904) :
    Calls Tryd.prog 10 #[.pointer (some ⟨b, 0, none⟩)] w fun e w' => e = .returned (.tuple #[]) ∧ WAt w' b (⟨#[108]⟩ :: l) (o + 1) ∧ But b w w' := by
  have HA := Lib.hid (add_any b l o ⟨#[108]⟩ w hW hs)
  clear hW
  go_enter Tryd.func10, Tryd.ntmps10
  go_wp2_with fail
  refine HA.out.mono ?_
  rintro e w1 ⟨rfl, hW1, hb⟩
  obtain ⟨⟨v, c0, hc⟩, c1, c2, ff, lt⟩ := hW1
  obtain ⟨p, rfl⟩ := hc.ptr
  have HC := Lib.hid hc
  clear hc
  generalize hsl : sumLen (⟨#[108]⟩ :: l) = sl at *
  have HSL := Lib.hid hsl
  clear hsl
  have HB := Lib.hid hb
  clear hb
  go_wp2
  simp [bodyPost, results, Tryd.results10]
  have hbut0 : But b w1 w1 := But.refl _ _
  refine ⟨⟨⟨.pointer p, ?_, HC.out.keep (hbut0.set _ _)⟩, ?_, ?_, fun o => ?_, ?_⟩, HB.out.trans (hbut0.set _ _)⟩
  · simp (maxDischargeDepth := 6) [go_sem, c0, c1, c2, ff, lt]
  · rw [HSL.out]; simp (maxDischargeDepth := 6) [go_sem, c0, c1, c2, ff, lt]
  · simp (maxDischargeDepth := 6) [go_sem, c0, c1, c2, ff, lt]
  · simp (maxDischargeDepth := 6) [go_sem, c0, c1, c2, ff, lt]
  · simpa using lt

set_option maxHeartbeats 1000000 in
set_option maxRecDepth 100000 in
theorem wclose_any (b : Nat) (l : List ByteArray) (o : Nat) (w : World) (hW : WAt w b l o) (hs : sumLen l + 1 ≤ 4611686018427387904) (ho : o ≤ 4611686018427387904) :
    Calls Tryd.prog 24 #[.pointer (some ⟨b, 0, none⟩)] w fun e w' => e = .returned (.tuple #[]) ∧ WAt w' b (if o = 0 then l else ⟨#[101]⟩ :: l) (o - 1) ∧ But b w w' := by
  have HA := Lib.hid (add_any b l o ⟨#[101]⟩ w hW hs)
  have HW := Lib.hid hW
  obtain ⟨⟨v0, c0, hc⟩, c1, c2, ff, lt⟩ := hW
  clear hc c0 c1
  by_cases h0 : o = 0
  · rw [if_pos h0]
    subst h0
    go_enter Tryd.func24, Tryd.ntmps24
    go_wp2
    simp [bodyPost, results, Tryd.results24]
    exact ⟨HW.out, But.refl _ _⟩
  · rw [if_neg h0]
    obtain ⟨q, rfl⟩ : ∃ q, o = q + 1 := ⟨o - 1, by omega⟩
    have y0 : ((q : Int) + 1 == 0) = false := by simp; omega
    have HL := Lib.hid lt
    clear h0
    go_enter Tryd.func24, Tryd.ntmps24
    go_wp2_with fail
    refine HA.out.mono ?_
    rintro e w1 ⟨rfl, hW1, hb⟩
    clear c2 ff lt
    obtain ⟨⟨v, c0, hc⟩, c1, c2, ff, lt⟩ := hW1
    obtain ⟨p, rfl⟩ := hc.ptr
    have HC := Lib.hid hc
    clear hc
    generalize hsl : sumLen (⟨#[101]⟩ :: l) = sl at *
    have HSL := Lib.hid hsl
    clear hsl
    have HB := Lib.hid hb
    clear hb
    go_wp2
    simp [bodyPost, results, Tryd.results24]
    have hbut0 : But b w1 w1 := But.refl _ _
    refine ⟨⟨⟨.pointer p, ?_, HC.out.keep (hbut0.set _ _)⟩, ?_, ?_, fun o => ?_, ?_⟩, HB.out.trans (hbut0.set _ _)⟩
    · simp (maxDischargeDepth := 6) [go_sem, c0, c1, c2, ff, lt]
    · rw [HSL.out]; simp (maxDischargeDepth := 6) [go_sem, c0, c1, c2, ff, lt]
    · simp (maxDischargeDepth := 6) [go_sem, c0, c1, c2, ff, lt]
    · simp (maxDischargeDepth := 6) [go_sem, c0, c1, c2, ff, lt]
    · simpa using lt
end Go.Proofs.YtljeialaefmbmaaDoor
