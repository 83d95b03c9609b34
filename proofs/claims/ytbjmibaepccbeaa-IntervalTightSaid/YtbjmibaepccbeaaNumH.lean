/- Contracts of package fraction, eighth part: split, signedSum. -/
import Derived.Test.YtbjmibaepccbeaaDivB
set_option linter.unusedSimpArgs false
set_option linter.unusedVariables false
namespace Go.Proofs.Ytbjmibaepccbeaa
open Go.RowKit

/-- math/bits.Div64 -/
theorem div64_any (hi lo y : Int) (h0 : 0 ≤ hi) (h0' : hi < y) (h1 : 0 ≤ lo) (h1' : lo ≤ 18446744073709551615) (h2 : 0 < y) (h2' : y ≤ 18446744073709551615) (w : World) :
    Calls Try.prog 85 #[.int .u64 hi, .int .u64 lo, .int .u64 y] w fun e w' => e = .returned (.tuple #[.int .u64 (valW hi lo / y), .int .u64 (valW hi lo % y)]) ∧ ∃ n, w' = w.drewN n := by
  by_cases h : hi = 0
  · subst h
    rw [show valW 0 lo = lo from by unfold valW; omega]
    exact div64_zero lo y h1 h1' h2 h2' w
  · exact div64_pos hi lo y (by omega) h0' h1 h1' h2' w

theorem split_math (ph pl d : Int) (h0 : 0 ≤ ph) (h1 : 0 ≤ pl) (h1' : pl ≤ 18446744073709551615) (h2 : 0 < d) :
    hiW (valW ph pl / d) = ph / d ∧ loW (valW ph pl / d) = valW (ph % d) pl / d ∧ valW ph pl % d = valW (ph % d) pl % d ∧ 0 ≤ valW (ph % d) pl / d ∧ valW (ph % d) pl / d ≤ 18446744073709551615 := by
  have m0 : 0 ≤ ph % d := Int.emod_nonneg _ (by omega)
  have m1 : ph % d < d := Int.emod_lt_of_pos _ h2
  have e : valW ph pl = valW (ph % d) pl + d * ((ph / d) * 18446744073709551616) := by
    have := Int.emod_add_mul_ediv ph d
    unfold valW
    calc ph * 18446744073709551616 + pl = (ph % d + d * (ph / d)) * 18446744073709551616 + pl := by rw [this]
      _ = _ := by rw [Int.add_mul, Int.mul_assoc]; omega
  have q0 : 0 ≤ valW (ph % d) pl / d := Int.ediv_nonneg (valW_0 m0 h1) (by omega)
  have q1 : valW (ph % d) pl / d < 18446744073709551616 := by
    apply Int.ediv_lt_of_lt_mul h2
    unfold valW
    have : (ph % d) * 18446744073709551616 ≤ (d - 1) * 18446744073709551616 := Int.mul_le_mul_of_nonneg_right (by omega) (by omega)
    omega
  have e1 : valW ph pl / d = valW (ph % d) pl / d + (ph / d) * 18446744073709551616 := by
    rw [e, Int.add_mul_ediv_left _ _ (by omega)]
  have e2 : valW ph pl % d = valW (ph % d) pl % d := by rw [e, Int.add_mul_emod_self_left]
  refine ⟨?_, ?_, e2, q0, by omega⟩
  · rw [e1]; unfold hiW; omega
  · rw [e1]; unfold loW; omega

set_option maxRecDepth 100000 in
set_option maxHeartbeats 1000000 in
/-- (fraction.product).split -/
theorem split_any (ph pl d : Int) (h1 : 0 ≤ ph) (h1' : ph ≤ 18446744073709551615) (h2 : 0 ≤ pl) (h2' : pl ≤ 18446744073709551615) (h3 : 0 < d) (h3' : d ≤ 18446744073709551615) (w : World) :
    Calls Try.prog 82 #[.agg #[.int .u64 ph, .int .u64 pl], .int .u64 d] w fun e w' =>
      e = .returned (.tuple #[.agg #[.int .u64 (hiW (valW ph pl / d)), .int .u64 (loW (valW ph pl / d))], .int .u64 (valW ph pl % d)]) ∧ Below w.heap.size w w' := by
  obtain ⟨e1, e2, e3, q0, q1⟩ := split_math ph pl d h1 h2 h2' h3
  rw [e1, e2, e3]
  clear e1 e2 e3
  have m0 : 0 ≤ ph % d := Int.emod_nonneg _ (by omega)
  have m1 : ph % d < d := Int.emod_lt_of_pos _ h3
  have D := Lib.hid (fun W => div64_any (ph % d) pl d m0 m1 h2 h2' h3 h3' W)
  have dz : ¬ d = 0 := by omega
  have dz' : (d == 0) = false := by simpa using dz
  have t1 : ph.tmod d = ph % d := Int.tmod_eq_emod_of_nonneg h1
  have t2 : IntKind.u64.wrap (ph % d) = ph % d := IntWalk.u64_in _ (by omega)
  have t3 : IntKind.u64.wrap (ph.tdiv d) = ph / d := IntWalk.u64_quo _ _ (by omega)
  have t4 : IntKind.u64.wrap (ph.tmod d) = ph % d := by rw [t1, t2]
  generalize valW (ph % d) pl / d = Q at *
  generalize valW (ph % d) pl % d = R at *
  go_enter Try.func82, Try.ntmps82
  go_wp2_with fail
  go_quiet ((first | (go_at_call 85; exact Calls.quiet_of (D.out _))))
  go_wp2
  refine bodyPost_ret (v := .tuple #[.agg #[.int .u64 (ph / d), .int .u64 Q], .int .u64 R]) (by simp [results, Try.results82, go_sem]) rfl ⟨rfl, (by repeat (first | with_reducible exact Below.refl _ _ | (with_reducible refine Below.setCell ?_ (by first | exact Nat.le_refl _ | omega | (simp; done) | (simp; omega)) _) | (with_reducible refine Below.alloc ?_ (by first | exact Nat.le_refl _ | omega | (simp; done) | (simp; omega)) _) | with_reducible refine Below.drew ?_ | with_reducible refine bel_drewN ?_ _ | (with_reducible refine bel_by (by with_reducible assumption) (by first | exact Nat.le_refl _ | omega | (simp; done) | (simp; omega)) ?_)))⟩

/-- fraction.signedSum -/
def ssN (na : Bool) (A : Int) (nb : Bool) (B : Int) : Bool × Int := if na = nb then (na, A + B) else if A < B then (nb, B - A) else (na, A - B)
set_option maxHeartbeats 1000000 in
theorem ssum_any (na nb : Bool) (ah al bh bl : Int) (h1 : 0 ≤ ah) (h1' : ah ≤ 18446744073709551615) (h2 : 0 ≤ al) (h2' : al ≤ 18446744073709551615) (h3 : 0 ≤ bh) (h3' : bh ≤ 18446744073709551615) (h4 : 0 ≤ bl) (h4' : bl ≤ 18446744073709551615)
    (hs : valW ah al + valW bh bl < B128) (w : World) :
    Calls Try.prog 81 #[.bool na, .agg #[.int .u64 ah, .int .u64 al], .bool nb, .agg #[.int .u64 bh, .int .u64 bl]] w fun e w' =>
      e = .returned (.tuple #[.bool (ssN na (valW ah al) nb (valW bh bl)).1, .agg #[.int .u64 (hiW (ssN na (valW ah al) nb (valW bh bl)).2), .int .u64 (loW (ssN na (valW ah al) nb (valW bh bl)).2)]]) ∧ Below w.heap.size w w' := by
  by_cases hn : na = nb
  · subst hn
    unfold ssN
    rw [if_pos rfl]
    have P := Lib.hid (fun W => pplus_any ah al bh bl h1 h1' h2 h2' h3 h3' h4 h4' hs W)
    clear hs
    have t : (na == na) = true := by simp
    generalize valW ah al + valW bh bl = S at *
    go_enter Try.func81, Try.ntmps81
    go_wp2_with fail
    refine (P.out _).mono ?_
    rintro e w1 ⟨rfl, hb1⟩
    obtain ⟨hc1, hf1⟩ := bcell hb1
    have hz1 := bsize hb1
    simp at hz1
    go_wp2
    refine bodyPost_ret (v := .tuple #[.bool na, .agg #[.int .u64 (hiW S), .int .u64 (loW S)]]) (by simp [results, Try.results81, go_sem, hc1, hf1]) rfl ⟨rfl, (by repeat (first | with_reducible exact Below.refl _ _ | (with_reducible refine Below.setCell ?_ (by first | exact Nat.le_refl _ | omega | (simp; done) | (simp; omega)) _) | (with_reducible refine Below.alloc ?_ (by first | exact Nat.le_refl _ | omega | (simp; done) | (simp; omega)) _) | with_reducible refine Below.drew ?_ | with_reducible refine bel_drewN ?_ _ | (with_reducible refine bel_by (by with_reducible assumption) (by first | exact Nat.le_refl _ | omega | (simp; done) | (simp; omega)) ?_)))⟩
  · have t : (na == nb) = false := by simpa using hn
    have L := fun W => pless_any ah al bh bl h1 h1' h2 h2' h3 h3' h4 h4' W
    by_cases hl : valW ah al < valW bh bl
    · unfold ssN
      rw [if_neg hn, if_pos hl]
      have P := Lib.hid (fun W => pminus_any bh bl ah al h3 h3' h4 h4' h1 h1' h2 h2' (by omega) W)
      rw [show decide (valW ah al < valW bh bl) = true from by simpa using hl] at L
      have HL := Lib.hid L
      clear hs L hl hn
      generalize valW bh bl - valW ah al = S at *
      go_enter Try.func81, Try.ntmps81
      go_wp2_with fail
      refine (HL.out _).mono ?_
      rintro e w1 ⟨rfl, hb1⟩
      obtain ⟨hc1, hf1⟩ := bcell hb1
      have hz1 := bsize hb1
      simp at hz1
      have k0 : w.heap.size < w1.heap.size := by omega
      have k1 : w.heap.size + 1 < w1.heap.size := by omega
      have k2 : w.heap.size + 1 + 1 < w1.heap.size := by omega
      go_wp2_with fail
      refine (P.out _).mono ?_
      rintro e w2 ⟨rfl, hb2⟩
      obtain ⟨hc2, hf2⟩ := bcell hb2
      have hz2 := bsize hb2
      go_wp2
      refine bodyPost_ret (v := .tuple #[.bool nb, .agg #[.int .u64 (hiW S), .int .u64 (loW S)]]) (by simp [results, Try.results81, go_sem, hc1, hf1, hc2, hf2, k0, k1, k2]) rfl ⟨rfl, (by repeat (first | with_reducible exact Below.refl _ _ | (with_reducible refine Below.setCell ?_ (by first | exact Nat.le_refl _ | omega | (simp; done) | (simp; omega)) _) | (with_reducible refine Below.alloc ?_ (by first | exact Nat.le_refl _ | omega | (simp; done) | (simp; omega)) _) | with_reducible refine Below.drew ?_ | with_reducible refine bel_drewN ?_ _ | (with_reducible refine bel_by (by with_reducible assumption) (by first | exact Nat.le_refl _ | omega | (simp; done) | (simp; omega)) ?_)))⟩
    · unfold ssN
      rw [if_neg hn, if_neg hl]
      have P := Lib.hid (fun W => pminus_any ah al bh bl h1 h1' h2 h2' h3 h3' h4 h4' (by omega) W)
      rw [show decide (valW ah al < valW bh bl) = false from by simpa using hl] at L
      have HL := Lib.hid L
      clear hs L hl hn
      generalize valW ah al - valW bh bl = S at *
      go_enter Try.func81, Try.ntmps81
      go_wp2_with fail
      refine (HL.out _).mono ?_
      rintro e w1 ⟨rfl, hb1⟩
      obtain ⟨hc1, hf1⟩ := bcell hb1
      have hz1 := bsize hb1
      simp at hz1
      have k0 : w.heap.size < w1.heap.size := by omega
      have k1 : w.heap.size + 1 < w1.heap.size := by omega
      have k2 : w.heap.size + 1 + 1 < w1.heap.size := by omega
      go_wp2_with fail
      refine (P.out _).mono ?_
      rintro e w2 ⟨rfl, hb2⟩
      obtain ⟨hc2, hf2⟩ := bcell hb2
      have hz2 := bsize hb2
      go_wp2
      refine bodyPost_ret (v := .tuple #[.bool na, .agg #[.int .u64 (hiW S), .int .u64 (loW S)]]) (by simp [results, Try.results81, go_sem, hc1, hf1, hc2, hf2, k0, k1, k2]) rfl ⟨rfl, (by repeat (first | with_reducible exact Below.refl _ _ | (with_reducible refine Below.setCell ?_ (by first | exact Nat.le_refl _ | omega | (simp; done) | (simp; omega)) _) | (with_reducible refine Below.alloc ?_ (by first | exact Nat.le_refl _ | omega | (simp; done) | (simp; omega)) _) | with_reducible refine Below.drew ?_ | with_reducible refine bel_drewN ?_ _ | (with_reducible refine bel_by (by with_reducible assumption) (by first | exact Nat.le_refl _ | omega | (simp; done) | (simp; omega)) ?_)))⟩
end Go.Proofs.Ytbjmibaepccbeaa
