/- math/bits.Div64: the contract, for every upper half that is not zero. -/
import Derived.Test.YtbjmibaepccbeaaNumG
import Derived.Test.YtbjmibaepccbeaaDivM
import Derived.Laws.BitsAllLaws
import Derived.Laws.Shifts
import Derived.Deep.CutBlock
import Derived.Deep.DeepCutAuto
import Derived.Deep.DeepFit
set_option linter.unusedSimpArgs false
set_option linter.unusedVariables false
namespace Go.Proofs.Ytbjmibaepccbeaa
open Go.RowKit

theorem wrapR {X v Q Y R : Int} (h0 : 0 ≤ R) (h1 : R ≤ 18446744073709551615) (h : X * 4294967296 + v - Q * Y = R) :
    IntKind.u64.wrap (IntKind.u64.wrap (IntKind.u64.wrap (X * 4294967296) + v) - IntKind.u64.wrap (Q * Y)) = R := by
  rw [IntKind.wrap_u64, IntKind.wrap_u64, IntKind.wrap_u64, IntKind.wrap_u64]
  omega

set_option maxHeartbeats 4000000 in
set_option maxRecDepth 100000 in
theorem div64_core (hi lo y k Y U V yn1 yn0 v1 v0 q r : Int) (h0 : 0 < hi) (h0' : hi < y) (h1 : 0 ≤ lo) (h1' : lo ≤ 18446744073709551615) (h2' : y ≤ 18446744073709551615) (k0 : 0 ≤ k) (k1 : k ≤ 63)
    (E1 : IntKind.u64.wrap (y * 2 ^ k.toNat) = Y) (E2 : Y / 4294967296 = yn1) (E3 : bits .and .u64 Y 4294967295 = yn0)
    (E4 : bits .or .u64 (IntKind.u64.wrap (hi * 2 ^ k.toNat)) (lo / 2 ^ (64 - k).toNat) = U)
    (E5 : IntKind.u64.wrap (lo * 2 ^ k.toNat) = V) (E6 : V / 4294967296 = v1) (E7 : bits .and .u64 V 4294967295 = v0)
    (E8 : U / yn1 = q) (E9 : U - q * yn1 = r) (hY : Y ≤ 18446744073709551615) (hU : U ≤ 18446744073709551615) (hv0 : 0 ≤ v0) (hv0' : v0 ≤ 4294967295)
    (D : Hid (Dv.Dig U v1 Y yn1 yn0 q r)) (hr1 : r ≤ 4294967295) (w : World)
    (HL : Hid (∀ W : World, Calls Try.prog 86 #[.int .u64 y] W fun e w' => e = .returned (.int .i64 k) ∧ W = w')) :
    Calls Try.prog 85 #[.int .u64 hi, .int .u64 lo, .int .u64 y] w fun e w' => e = .returned (.tuple #[.int .u64 (((U * 4294967296 + v1) / Y) * 4294967296 + ((U * 4294967296 + v1) % Y * 4294967296 + v0) / Y), .int .u64 (((U * 4294967296 + v1) % Y * 4294967296 + v0) % Y / 2 ^ k.toNat)]) ∧ ∃ n, w' = w.drewN n := by
  have yz : ¬ y = 0 := by omega
  have yz' : (y == 0) = false := by simpa using yz
  have hz' : (hi == 0) = false := by simp; omega
  have yl : ¬ y ≤ hi := by omega
  have kk : IntKind.u64.wrap k = k := IntWalk.u64_in _ (by omega)
  have kk2 : IntKind.u64.wrap (64 - k) = 64 - k := IntWalk.u64_in _ (by omega)
  have a0 := D.out.a0
  have a1 := D.out.a1
  have b0 := D.out.b0
  have b1 := D.out.b1
  have u0 := D.out.u0
  have c0 := D.out.v0
  have c1 := D.out.v1
  have q0 := D.out.q0
  have r0 := D.out.r0
  have q33 := D.out.q33
  have yn1z : ¬ yn1 = 0 := by omega
  have p0 : 0 ≤ q * yn1 := Int.mul_nonneg q0 (by omega)
  have p1 : q * yn1 ≤ U := by omega
  go_enter Try.func85, Try.ntmps85
  go_wp2_with fail
  refine (HL.out _).mono ?_
  rintro e w1 ⟨rfl, rfl⟩
  go_upto_block 0 with fail
  go_cut [15] (fun s15 wx => s15 = .int .u64 ((U * 4294967296 + v1) / Y) ∧ wx = w)
  case first =>
    go_wp2_with fail
    go_loop [15, 16] (fun s15 s16 => ∃ q' r' : Int, s15 = .int .u64 q' ∧ s16 = .int .u64 r' ∧ r' ≤ 4294967295 ∧ Hid (Dv.Dig U v1 Y yn1 yn0 q' r')) (fun s15 _ => (intOf s15).toNat)
    case atStart => exact ⟨q, r, by rw [E8], rfl, hr1, D⟩
    case round =>
      obtain ⟨q', r', rfl, rfl, hr', D'⟩ := hrel
      have q0' := D'.out.q0
      have r0' := D'.out.r0
      have q33' := D'.out.q33
      clear q0 r0 q33 p0 p1 E1 E2 E3 E4 E5 E6 E7 E8 E9
      by_cases t1 : 4294967296 ≤ q'
      · have D2 := Lib.hid (D'.out.step (.inl t1))
        by_cases t2 : 4294967296 ≤ r' + yn1
        · have Q := Lib.hid (D2.out.outgrown t2)
          go_wp2
          go_meet
          case rel => exact ⟨by rw [Q.out], rfl⟩
        · go_wp2
          go_round
          case rel => exact ⟨q' - 1, r' + yn1, rfl, rfl, by omega, D2⟩
          case measure => simp [intOf]; omega
      · have P := D'.out.qyn0 (by omega)
        obtain ⟨P0, P1⟩ := P
        by_cases t3 : 4294967296 * r' + v1 < q' * yn0
        · have D2 := Lib.hid (D'.out.step (.inr t3))
          have q1' : 0 ≤ q' - 1 := D2.out.q0
          by_cases t2 : 4294967296 ≤ r' + yn1
          · have Q := Lib.hid (D2.out.outgrown t2)
            go_wp2
            go_meet
            case rel => exact ⟨by rw [Q.out], rfl⟩
          · go_wp2
            go_round
            case rel => exact ⟨q' - 1, r' + yn1, rfl, rfl, by omega, D2⟩
            case measure => simp [intOf]; omega
        · have Q := Lib.hid (D'.out.done (by omega))
          go_wp2
          go_meet
          case rel => exact ⟨by rw [Q.out], rfl⟩
  case rest =>
    obtain ⟨rfl, rfl⟩ := hcut
    obtain ⟨Q1, hQ1⟩ : ∃ Q1, Q1 = (U * 4294967296 + v1) / Y := ⟨_, rfl⟩
    obtain ⟨R1, hR1⟩ : ∃ R1, R1 = (U * 4294967296 + v1) % Y := ⟨_, rfl⟩
    rw [← hQ1]
    have HQ1 := Lib.hid hQ1
    have HR1 := Lib.hid hR1
    have yp := D.out.ypos
    have R10 : 0 ≤ R1 := by rw [hR1]; exact Int.emod_nonneg _ (by omega)
    have R11 : R1 < Y := by rw [hR1]; exact Int.emod_lt_of_pos _ yp
    have Q10 : 0 ≤ Q1 := by rw [hQ1]; exact Int.ediv_nonneg (by omega) (by omega)
    have Q11 : Q1 < 4294967296 := by rw [hQ1]; exact D.out.lt32
    have F1 := Lib.hid (wrapR (X := U) (v := v1) (Q := Q1) (Y := Y) R10 (by omega) (by have := Int.emod_add_mul_ediv (U * 4294967296 + v1) Y; rw [← hQ1, ← hR1, Int.mul_comm] at this; omega))
    have D3 := Lib.hid (Dv.Dig.start (u := R1) (v := v0) D.out.hy a0 a1 b0 b1 R10 R11 hv0 hv0')
    have r20 : R1 % yn1 ≤ 4294967295 := by have := Int.emod_lt_of_pos R1 (show 0 < yn1 by omega); omega
    have F3 := Lib.hid (show R1 - R1 / yn1 * yn1 = R1 % yn1 by rw [Int.emod_def, Int.mul_comm])
    have p2 : 0 ≤ R1 / yn1 := D3.out.q0
    have p4 : 0 ≤ R1 % yn1 := D3.out.r0
    have p3 : 0 ≤ R1 / yn1 * yn1 := Int.mul_nonneg p2 (by omega)
    have p5 : R1 / yn1 ≤ 8589934592 := D3.out.q33
    have p6 : R1 / yn1 * yn1 ≤ R1 := by have := F3.out; omega
    clear hQ1 hR1 q0 r0 q33 p0 p1 E1 E2 E3 E4 E5 E6 E7 E8 E9 D hr1
    have F1' := F1.out
    have F3' := F3.out
    go_upto_block 2 with fail
    go_cut [18] (fun s18 wx => s18 = .int .u64 ((R1 * 4294967296 + v0) / Y) ∧ wx = wc)
    case first =>
      go_wp2_with fail
      go_loop [18, 16] (fun s18 s16 => ∃ q' r' : Int, s18 = .int .u64 q' ∧ s16 = .int .u64 r' ∧ r' ≤ 4294967295 ∧ Hid (Dv.Dig R1 v0 Y yn1 yn0 q' r')) (fun s18 _ => (intOf s18).toNat)
      case atStart => exact ⟨R1 / yn1, R1 % yn1, rfl, rfl, r20, D3⟩
      case round =>
        obtain ⟨q', r', rfl, rfl, hr', D'⟩ := hrel
        have q0' := D'.out.q0
        have r0' := D'.out.r0
        have q33' := D'.out.q33
        clear F1' F3' p2 p3 p4 p5 p6 r20
        by_cases t1 : 4294967296 ≤ q'
        · have D2 := Lib.hid (D'.out.step (.inl t1))
          by_cases t2 : 4294967296 ≤ r' + yn1
          · have Q := Lib.hid (D2.out.outgrown t2)
            go_wp2
            go_meet
            case rel => exact ⟨by rw [Q.out], rfl⟩
          · go_wp2
            go_round
            case rel => exact ⟨q' - 1, r' + yn1, rfl, rfl, by omega, D2⟩
            case measure => simp [intOf]; omega
        · have P := D'.out.qyn0 (by omega)
          obtain ⟨P0, P1⟩ := P
          by_cases t3 : 4294967296 * r' + v0 < q' * yn0
          · have D2 := Lib.hid (D'.out.step (.inr t3))
            have q1' : 0 ≤ q' - 1 := D2.out.q0
            by_cases t2 : 4294967296 ≤ r' + yn1
            · have Q := Lib.hid (D2.out.outgrown t2)
              go_wp2
              go_meet
              case rel => exact ⟨by rw [Q.out], rfl⟩
            · go_wp2
              go_round
              case rel => exact ⟨q' - 1, r' + yn1, rfl, rfl, by omega, D2⟩
              case measure => simp [intOf]; omega
          · have Q := Lib.hid (D'.out.done (by omega))
            go_wp2
            go_meet
            case rel => exact ⟨by rw [Q.out], rfl⟩
    case rest =>
      obtain ⟨rfl, rfl⟩ := hcut
      obtain ⟨Q0, hQ0⟩ : ∃ Q0, Q0 = (R1 * 4294967296 + v0) / Y := ⟨_, rfl⟩
      obtain ⟨R0, hR0⟩ : ∃ R0, R0 = (R1 * 4294967296 + v0) % Y := ⟨_, rfl⟩
      rw [← hQ0]
      have HQ0 := Lib.hid hQ0
      have HR0 := Lib.hid hR0
      have R00 : 0 ≤ R0 := by rw [hR0]; exact Int.emod_nonneg _ (by omega)
      have R01 : R0 < Y := by rw [hR0]; exact Int.emod_lt_of_pos _ yp
      have Q00 : 0 ≤ Q0 := by rw [hQ0]; exact Int.ediv_nonneg (by omega) (by omega)
      have Q01 : Q0 < 4294967296 := by rw [hQ0]; exact D3.out.lt32
      have G1 := wrapR (X := R1) (v := v0) (Q := Q0) (Y := Y) R00 (by omega) (by have := Int.emod_add_mul_ediv (R1 * 4294967296 + v0) Y; rw [← hQ0, ← hR0, Int.mul_comm] at this; omega)
      clear hQ0 hR0 F1' F3' p2 p3 p4 p5 p6 r20 D3
      go_wp2
      go_ret2
      refine ⟨?_, 0, rfl⟩
      rw [← HQ1.out, ← HR1.out, ← HQ0.out, ← HR0.out]
      rfl
end Go.Proofs.Ytbjmibaepccbeaa
