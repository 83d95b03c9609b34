/- Contracts of package encode: Depth, Valid, Skip. -/
import Derived.Test.YtljeialaefmbmaaDoorMeas
set_option linter.unusedSimpArgs false
set_option linter.unusedVariables false
namespace Go.Proofs.YtljeialaefmbmaaDoor
open Go.RowKit

def depthS (s : ByteArray) : Int := if (measS s 0).1 = (s.size : Int) then (measS s 0).2 else -1
theorem measF_bd (s : ByteArray) (f : Nat) : ∀ (a : Nat) (o d : Int), 0 ≤ d → d ≤ 32 → 0 ≤ o → -1 ≤ (measF s f a o d).2 ∧ (measF s f a o d).2 ≤ 32 ∧ 0 ≤ (measF s f a o d).1 ∧ (measF s f a o d).1 ≤ s.size := by
  induction f with
  | zero => intro a o d _ _ _; simp [measF]
  | succ f ih =>
    intro a o d h1 h2 h3
    unfold measF
    have hk := headS_kind s a
    split
    · simp
    · rename_i h0
      have hk := hk.2.2 h0
      split
      · simp
      · rename_i h4
        have hd : 0 ≤ stepD (headS s a).kind o d ∧ stepD (headS s a).kind o d ≤ 32 := by
          unfold stepD
          split
          · rename_i h5
            have : stepO (headS s a).kind o = o + 1 := by unfold stepO; rw [if_pos h5]
            omega
          · omega
        split
        · exact ⟨by simp only; omega, by simp only; omega, by simp only; omega, by simp only; omega⟩
        · exact ih _ _ _ hd.1 hd.2 (by omega)
theorem measS_bd (s : ByteArray) (a : Nat) : -1 ≤ (measS s a).2 ∧ (measS s a).2 ≤ 32 ∧ 0 ≤ (measS s a).1 ∧ (measS s a).1 ≤ s.size := measF_bd s _ _ _ _ (by omega) (by omega) (by omega)

set_option maxHeartbeats 1000000 in
theorem depth_any (s : ByteArray) (hs : s.size ≤ 4611686018427387904) (w : World) :
    Calls Tryd.prog 22 #[.string s] w fun r w' => r = .returned (.int .i64 (depthS s)) ∧ Below w.heap.size w w' := by
  have HM := Lib.hid (fun W => meas_any s 0 hs (by omega) W)
  have HM' : Hid (∀ W, Calls Tryd.prog 31 #[.string s, .int .i64 0] W fun r w' => r = .returned (.tuple #[.int .i64 (measS s 0).1, .int .i64 (measS s 0).2]) ∧ Below W.heap.size W w') := HM.out
  unfold depthS
  clear HM
  generalize measS s 0 = t at *
  by_cases h : t.1 = (s.size : Int)
  · rw [if_pos h]
    have y0 : (t.1 != (s.size : Int)) = false := by simpa using h
    clear h
    go_enter Tryd.func22, Tryd.ntmps22
    go_wp2_with fail
    refine (HM'.out _).mono ?_
    rintro r w1 ⟨rfl, hb1⟩
    go_wp2
    go_ret
    exact ⟨rfl, (by repeat (first | with_reducible exact Below.refl _ _ | (with_reducible refine Below.setCell ?_ (by first | exact Nat.le_refl _ | omega | (simp; done) | (simp; omega)) _) | (with_reducible refine Below.alloc ?_ (by first | exact Nat.le_refl _ | omega | (simp; done) | (simp; omega)) _) | with_reducible refine Below.drew ?_ | with_reducible refine bel_drewN ?_ _ | (with_reducible refine bel_by (by with_reducible assumption) (by first | exact Nat.le_refl _ | omega | (simp; done) | (simp; omega)) ?_)))⟩
  · rw [if_neg h]
    have y0 : (t.1 != (s.size : Int)) = true := by simpa using h
    clear h
    go_enter Tryd.func22, Tryd.ntmps22
    go_wp2_with fail
    refine (HM'.out _).mono ?_
    rintro r w1 ⟨rfl, hb1⟩
    go_wp2
    go_ret
    exact ⟨rfl, (by repeat (first | with_reducible exact Below.refl _ _ | (with_reducible refine Below.setCell ?_ (by first | exact Nat.le_refl _ | omega | (simp; done) | (simp; omega)) _) | (with_reducible refine Below.alloc ?_ (by first | exact Nat.le_refl _ | omega | (simp; done) | (simp; omega)) _) | with_reducible refine Below.drew ?_ | with_reducible refine bel_drewN ?_ _ | (with_reducible refine bel_by (by with_reducible assumption) (by first | exact Nat.le_refl _ | omega | (simp; done) | (simp; omega)) ?_)))⟩

set_option maxHeartbeats 1000000 in
theorem valid_any (s : ByteArray) (hs : s.size ≤ 4611686018427387904) (w : World) :
    Calls Tryd.prog 23 #[.string s] w fun r w' => r = .returned (.bool (decide (0 ≤ depthS s))) ∧ Below w.heap.size w w' := by
  have HD := Lib.hid (fun W => depth_any s hs W)
  generalize depthS s = t at *
  go_enter Tryd.func23, Tryd.ntmps23
  go_wp2_with fail
  refine (HD.out _).mono ?_
  rintro r w1 ⟨rfl, hb1⟩
  go_wp2
  go_ret
  exact ⟨rfl, (by repeat (first | with_reducible exact Below.refl _ _ | (with_reducible refine Below.setCell ?_ (by first | exact Nat.le_refl _ | omega | (simp; done) | (simp; omega)) _) | (with_reducible refine Below.alloc ?_ (by first | exact Nat.le_refl _ | omega | (simp; done) | (simp; omega)) _) | with_reducible refine Below.drew ?_ | with_reducible refine bel_drewN ?_ _ | (with_reducible refine bel_by (by with_reducible assumption) (by first | exact Nat.le_refl _ | omega | (simp; done) | (simp; omega)) ?_)))⟩

def skipS (s : ByteArray) (a : Int) : Int × Bool := if a < 0 then (0, false) else ((measS s a.toNat).1, decide (0 ≤ (measS s a.toNat).2))
set_option maxHeartbeats 1000000 in
theorem measn_any (s : ByteArray) (a : Int) (ha : a < 0) (w : World) :
    Calls Tryd.prog 31 #[.string s, .int .i64 a] w fun r w' => r = .returned (.tuple #[.int .i64 0, .int .i64 (-1)]) ∧ Below w.heap.size w w' := by
  go_enter Tryd.func31, Tryd.ntmps31
  go_wp2
  go_ret2
  exact ⟨rfl, (by repeat (first | with_reducible exact Below.refl _ _ | (with_reducible refine Below.setCell ?_ (by first | exact Nat.le_refl _ | omega | (simp; done) | (simp; omega)) _) | (with_reducible refine Below.alloc ?_ (by first | exact Nat.le_refl _ | omega | (simp; done) | (simp; omega)) _) | with_reducible refine Below.drew ?_ | with_reducible refine bel_drewN ?_ _ | (with_reducible refine bel_by (by with_reducible assumption) (by first | exact Nat.le_refl _ | omega | (simp; done) | (simp; omega)) ?_)))⟩
set_option maxHeartbeats 1000000 in
theorem skip_any (s : ByteArray) (a : Int) (hs : s.size ≤ 4611686018427387904) (h63 : a ≤ 9223372036854775807) (w : World) :
    Calls Tryd.prog 19 #[.string s, .int .i64 a] w fun r w' => r = .returned (.tuple #[.int .i64 (skipS s a).1, .bool (skipS s a).2]) ∧ Below w.heap.size w w' := by
  unfold skipS
  by_cases h : a < 0
  · rw [if_pos h]
    have HM := Lib.hid (fun W => measn_any s a h W)
    clear h
    go_enter Tryd.func19, Tryd.ntmps19
    go_wp2_with fail
    refine (HM.out _).mono ?_
    rintro r w1 ⟨rfl, hb1⟩
    go_wp2
    go_ret2
    exact ⟨rfl, (by repeat (first | with_reducible exact Below.refl _ _ | (with_reducible refine Below.setCell ?_ (by first | exact Nat.le_refl _ | omega | (simp; done) | (simp; omega)) _) | (with_reducible refine Below.alloc ?_ (by first | exact Nat.le_refl _ | omega | (simp; done) | (simp; omega)) _) | with_reducible refine Below.drew ?_ | with_reducible refine bel_drewN ?_ _ | (with_reducible refine bel_by (by with_reducible assumption) (by first | exact Nat.le_refl _ | omega | (simp; done) | (simp; omega)) ?_)))⟩
  · rw [if_neg h]
    obtain ⟨b, rfl⟩ := Int.eq_ofNat_of_zero_le (show 0 ≤ a by omega)
    have HM := Lib.hid (fun W => meas_any s b hs (by omega) W)
    rw [Int.toNat_natCast]
    generalize measS s b = t at *
    clear h
    go_enter Tryd.func19, Tryd.ntmps19
    go_wp2_with fail
    refine (HM.out _).mono ?_
    rintro r w1 ⟨rfl, hb1⟩
    go_wp2
    go_ret2
    exact ⟨rfl, (by repeat (first | with_reducible exact Below.refl _ _ | (with_reducible refine Below.setCell ?_ (by first | exact Nat.le_refl _ | omega | (simp; done) | (simp; omega)) _) | (with_reducible refine Below.alloc ?_ (by first | exact Nat.le_refl _ | omega | (simp; done) | (simp; omega)) _) | with_reducible refine Below.drew ?_ | with_reducible refine bel_drewN ?_ _ | (with_reducible refine bel_by (by with_reducible assumption) (by first | exact Nat.le_refl _ | omega | (simp; done) | (simp; omega)) ?_)))⟩
end Go.Proofs.YtljeialaefmbmaaDoor
