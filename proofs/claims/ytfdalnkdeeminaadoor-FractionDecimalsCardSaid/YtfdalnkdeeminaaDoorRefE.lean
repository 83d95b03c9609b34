/- Contracts of the reference of fractions, fifth part: Valid, Make, Milli, Neg. -/
import Derived.Test.YtfdalnkdeeminaaDoorRefD
import Derived.Test.YtfdalnkdeeminaaDoorNumD
set_option linter.unusedSimpArgs false
set_option linter.unusedVariables false
namespace Go.Proofs.YtfdalnkdeeminaaDoor
open Go.RowKit

theorem undrew' {W w1 : World} (hb : Below W.drew.heap.size W.drew w1) : Below W.heap.size W w1 := ⟨hb.os, hb.tape, hb.output, hb.size, hb.block⟩

theorem w64 {a : Int} (h : 0 ≤ a) (h' : a ≤ 18446744073709551615) : hiW a = 0 ∧ loW a = a := by unfold hiW loW; omega

/-- the reference's divisor and build at numbers of one word -/
theorem rdivisor_one (a b : Int) (h1 : 0 ≤ a) (h1' : a ≤ 18446744073709551615) (h2 : 0 < b) (h2' : b ≤ 18446744073709551615) (w : World) :
    Calls Tryd.prog 48 #[.agg #[.int .u64 0, .int .u64 a], .agg #[.int .u64 0, .int .u64 b]] w fun e w' =>
      e = .returned (.agg #[.int .u64 0, .int .u64 (gcdI a b)]) ∧ Below w.heap.size w w' := by
  have h := rdivisor_any a b h1 (by omega) (by omega) (by omega) w
  have g1 := gcdI_pos a b h2
  have g2 := gcdI_le a b h2
  rwa [(w64 h1 h1').1, (w64 h1 h1').2, (w64 (by omega) h2').1, (w64 (by omega) h2').2, (w64 (a := gcdI a b) (by omega) (by omega)).1, (w64 (a := gcdI a b) (by omega) (by omega)).2] at h
theorem rbuild_one (neg : Bool) (n d : Int) (h1 : 0 ≤ n) (h1' : n ≤ 18446744073709551615) (h2 : 0 < d) (h2' : d ≤ 18446744073709551615) (w : World) :
    Calls Tryd.prog 44 #[.bool neg, .agg #[.int .u64 0, .int .u64 n], .agg #[.int .u64 0, .int .u64 d]] w fun e w' => e = .returned (fracE (bndI neg n d)) ∧ Below w.heap.size w w' := by
  have h := rbuild_any neg n d h1 (by omega) h2 (by omega) w
  rwa [(w64 h1 h1').1, (w64 h1 h1').2, (w64 (by omega) h2').1, (w64 (by omega) h2').2] at h

set_option maxHeartbeats 400000 in
theorem rmake_any (n d : Int) (h1 : -9223372036854775808 ≤ n) (h1' : n ≤ 9223372036854775807) (h2 : -9223372036854775808 ≤ d) (h2' : d ≤ 9223372036854775807) (w : World) :
    Calls Tryd.prog 13 #[.int .i64 n, .int .i64 d] w fun e w' => e = .returned (fracE (makeS n d)) ∧ Below w.heap.size w w' := by
  by_cases hd : d = 0
  · subst hd
    unfold makeS
    rw [if_pos rfl]
    go_enter Tryd.func13, Tryd.ntmps13
    go_wp2
    refine bodyPost_ret (v := fracE (0, 0, 1)) (by simp [results, Tryd.results13, go_sem]) rfl ⟨rfl, (by repeat (first | with_reducible exact Below.refl _ _ | (with_reducible refine Below.setCell ?_ (by first | exact Nat.le_refl _ | omega | (simp; done) | (simp; omega)) _) | (with_reducible refine Below.alloc ?_ (by first | exact Nat.le_refl _ | omega | (simp; done) | (simp; omega)) _) | with_reducible refine Below.drew ?_ | with_reducible refine bel_drewN ?_ _ | (with_reducible refine bel_by (by with_reducible assumption) (by first | exact Nat.le_refl _ | omega | (simp; done) | (simp; omega)) ?_)))⟩
  · unfold makeS
    rw [if_neg hd]
    have a0 := absI_0 n
    have a1 := absI_1 h1 h1'
    have b0 : 0 < absI d := by unfold absI; omega
    have b1 := absI_1 h2 h2'
    have R := fun W => rbuild_one (decide (n < 0) != decide (d < 0)) (absI n) (absI d) a0 (by omega) b0 (by omega) W
    have M1 := fun W => rsize_any n h1 h1' W
    have M2 := fun W => rsize_any d h2 h2' W
    generalize absI n = x at *
    generalize absI d = y at *
    generalize bndI (decide (n < 0) != decide (d < 0)) x y = t at *
    have HR := Lib.hid R
    have HM1 := Lib.hid M1
    have HM2 := Lib.hid M2
    clear R M1 M2
    go_enter Tryd.func13, Tryd.ntmps13
    go_wp2_with fail
    refine (HM1.out _).mono ?_
    rintro e w1 ⟨rfl, rfl⟩
    go_wp2_with fail
    refine (HM2.out _).mono ?_
    rintro e w1 ⟨rfl, rfl⟩
    go_wp2_with fail
    refine (HR.out _).mono ?_
    rintro e w2 ⟨rfl, hb2⟩
    obtain ⟨hc2, hf2⟩ := bcell hb2
    have hz2 := bsize hb2
    simp at hz2
    go_wp2
    refine bodyPost_ret (v := fracE t) (by simp [results, Tryd.results13, go_sem, hc2, hf2, hz2]) rfl ⟨rfl, (by repeat (first | with_reducible exact Below.refl _ _ | (with_reducible refine Below.setCell ?_ (by first | exact Nat.le_refl _ | omega | (simp; done) | (simp; omega)) _) | (with_reducible refine Below.alloc ?_ (by first | exact Nat.le_refl _ | omega | (simp; done) | (simp; omega)) _) | with_reducible refine Below.drew ?_ | with_reducible refine bel_drewN ?_ _ | (with_reducible refine bel_by (by with_reducible assumption) (by first | exact Nat.le_refl _ | omega | (simp; done) | (simp; omega)) ?_)))⟩

theorem rmilli_any (n : Int) (h1 : -9223372036854775808 ≤ n) (h1' : n ≤ 9223372036854775807) (w : World) :
    Calls Tryd.prog 19 #[.int .i64 n] w fun e w' => e = .returned (.agg #[.int .i64 (milliS n).1, .int .i64 (milliS n).2]) ∧ Below w.heap.size w w' := by
  by_cases hr : -1000000000000000000 ≤ n ∧ n ≤ 1000000000000000000
  · unfold milliS
    rw [if_pos hr]
    obtain ⟨r0, r1⟩ := hr
    have M := fun W => rmake_any n 1000 h1 h1' (by omega) (by omega) W
    generalize makeS n 1000 = t at *
    have HM := Lib.hid M
    clear M
    go_enter Tryd.func19, Tryd.ntmps19
    go_wp2_with fail
    refine (HM.out _).mono ?_
    rintro e w1 ⟨rfl, hb1⟩
    obtain ⟨hc1, hf1⟩ := bcell hb1
    have hz1 := bsize hb1
    simp at hz1
    have k0 : w.heap.size < w1.heap.size := by omega
    go_wp2
    refine bodyPost_ret (v := .agg #[.int .i64 t.1, .int .i64 t.2.1]) (by simp [results, Tryd.results19, go_sem, hc1, hf1, hz1, k0]) rfl ⟨rfl, (by repeat (first | with_reducible exact Below.refl _ _ | (with_reducible refine Below.setCell ?_ (by first | exact Nat.le_refl _ | omega | (simp; done) | (simp; omega)) _) | (with_reducible refine Below.alloc ?_ (by first | exact Nat.le_refl _ | omega | (simp; done) | (simp; omega)) _) | with_reducible refine Below.drew ?_ | with_reducible refine bel_drewN ?_ _ | (with_reducible refine bel_by (by with_reducible assumption) (by first | exact Nat.le_refl _ | omega | (simp; done) | (simp; omega)) ?_)))⟩
  · unfold milliS
    rw [if_neg hr]
    have hk : (decide (n < -1000000000000000000) || decide (1000000000000000000 < n)) = true := by simp; omega
    clear hr
    go_enter Tryd.func19, Tryd.ntmps19
    go_wp2_with fail
    all_goals refine bodyPost_ret (v := .agg #[.int .i64 0, .int .i64 0]) (by simp [results, Tryd.results19, go_sem]) rfl ⟨rfl, (by repeat (first | with_reducible exact Below.refl _ _ | (with_reducible refine Below.setCell ?_ (by first | exact Nat.le_refl _ | omega | (simp; done) | (simp; omega)) _) | (with_reducible refine Below.alloc ?_ (by first | exact Nat.le_refl _ | omega | (simp; done) | (simp; omega)) _) | with_reducible refine Below.drew ?_ | with_reducible refine bel_drewN ?_ _ | (with_reducible refine bel_by (by with_reducible assumption) (by first | exact Nat.le_refl _ | omega | (simp; done) | (simp; omega)) ?_)))⟩

end Go.Proofs.YtfdalnkdeeminaaDoor
