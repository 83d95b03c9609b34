/- Contract of layer 9: Valid. -/
import Derived.Test.YtepigooldelgnaaDoorVal
import Derived.Test.YtepigooldelgnaaDoorLexJ
import Derived.Sort.Grow
set_option linter.unusedSimpArgs false
set_option linter.unusedVariables false
namespace Go.Proofs.YtepigooldelgnaaDoor
open Go.RowKit

theorem validT_two (s : ByteArray) (n a : Int) : validT ⟨2, s, n, a⟩ = ((s.data.toList.isEmpty && decide (0 ≤ n)) && decide (n ≤ 1000000000)) := rfl
theorem validT_no {k : Int} (h : k ≠ 2) (s : ByteArray) (n a : Int) : validT ⟨k, s, n, a⟩ = ((n == 0) && vText k s.data.toList) := by
  unfold validT; simp only; rw [if_neg h]
theorem empty_no {s : ByteArray} (h : 0 < s.size) : s.data.toList.isEmpty = false := by
  cases hh : s.data.toList with
  | nil => have := list_size s; rw [hh] at this; simp at this; omega
  | cons c t => rfl
set_option maxHeartbeats 2000000 in
set_option maxRecDepth 100000 in
theorem valid_any (t : Tk) (hs : t.t.size ≤ 1000000000) (w : World) (hT : Tabs w) : Calls Tryd.prog 35 #[t.val] w fun e w' => e = .returned (.bool (validT t)) ∧ Below w.heap.size w w' := by
  obtain ⟨k, s, n, a⟩ := t
  unfold Tk.val
  simp only at hs ⊢
  have HT := Lib.hid hT
  clear hT
  by_cases e2 : k = 2
  · subst e2
    have HR := Lib.hid (validT_two s n a)
    generalize validT ⟨2, s, n, a⟩ = r at *
    by_cases h0 : s.size = 0
    · obtain ⟨k1, k2⟩ := str_empty h0
      rw [size0 h0] at HR
      by_cases h1 : 0 ≤ n
      · by_cases h2 : n ≤ 1000000000
        · have HZ := Lib.hid (show r = true by rw [HR.out]; simp [h1, h2])
          have d1 : decide (n ≥ 0) = true := decide_eq_true h1
          clear HR h0
          go_enter Tryd.func35, Tryd.ntmps35
          go_wp2_with fail
          go_ret
          exact ⟨ret_bool (by simp [HZ.out, h2]), (by repeat (first | with_reducible exact Below.refl _ _ | (with_reducible refine Below.setCell ?_ (by first | exact Nat.le_refl _ | omega | (simp; done) | (simp; omega)) _) | (with_reducible refine Below.alloc ?_ (by first | exact Nat.le_refl _ | omega | (simp; done) | (simp; omega)) _) | with_reducible refine Below.drew ?_ | with_reducible refine bel_drewN ?_ _ | (with_reducible refine bel_by (by with_reducible assumption) (by first | exact Nat.le_refl _ | omega | (simp; done) | (simp; omega)) ?_)))⟩
        · have HZ := Lib.hid (show r = false by rw [HR.out]; simp [h2])
          have d1 : decide (n ≥ 0) = true := decide_eq_true h1
          clear HR h0
          go_enter Tryd.func35, Tryd.ntmps35
          go_wp2_with fail
          go_ret
          exact ⟨ret_bool (by first | (simp [HZ.out]; done) | (simp [HZ.out]; omega)), (by repeat (first | with_reducible exact Below.refl _ _ | (with_reducible refine Below.setCell ?_ (by first | exact Nat.le_refl _ | omega | (simp; done) | (simp; omega)) _) | (with_reducible refine Below.alloc ?_ (by first | exact Nat.le_refl _ | omega | (simp; done) | (simp; omega)) _) | with_reducible refine Below.drew ?_ | with_reducible refine bel_drewN ?_ _ | (with_reducible refine bel_by (by with_reducible assumption) (by first | exact Nat.le_refl _ | omega | (simp; done) | (simp; omega)) ?_)))⟩
      · have HZ := Lib.hid (show r = false by rw [HR.out]; simp [h1])
        have d1 : decide (n ≥ 0) = false := decide_eq_false h1
        clear HR h0
        go_enter Tryd.func35, Tryd.ntmps35
        go_wp2_with fail
        go_ret
        exact ⟨ret_bool (by simp [HZ.out]), (by repeat (first | with_reducible exact Below.refl _ _ | (with_reducible refine Below.setCell ?_ (by first | exact Nat.le_refl _ | omega | (simp; done) | (simp; omega)) _) | (with_reducible refine Below.alloc ?_ (by first | exact Nat.le_refl _ | omega | (simp; done) | (simp; omega)) _) | with_reducible refine Below.drew ?_ | with_reducible refine bel_drewN ?_ _ | (with_reducible refine bel_by (by with_reducible assumption) (by first | exact Nat.le_refl _ | omega | (simp; done) | (simp; omega)) ?_)))⟩
    · obtain ⟨k1, k2⟩ := str_full (show 0 < s.size by omega)
      have HZ := Lib.hid (show r = false by rw [HR.out, empty_no (by omega)]; rfl)
      clear HR h0
      go_enter Tryd.func35, Tryd.ntmps35
      go_wp2_with fail
      go_ret
      exact ⟨ret_bool (by simp [HZ.out]), (by repeat (first | with_reducible exact Below.refl _ _ | (with_reducible refine Below.setCell ?_ (by first | exact Nat.le_refl _ | omega | (simp; done) | (simp; omega)) _) | (with_reducible refine Below.alloc ?_ (by first | exact Nat.le_refl _ | omega | (simp; done) | (simp; omega)) _) | with_reducible refine Below.drew ?_ | with_reducible refine bel_drewN ?_ _ | (with_reducible refine bel_by (by with_reducible assumption) (by first | exact Nat.le_refl _ | omega | (simp; done) | (simp; omega)) ?_)))⟩
  · have HR := Lib.hid (validT_no e2 s n a)
    have q2 : (k == 2) = false := by simpa using e2
    generalize validT ⟨k, s, n, a⟩ = r at *
    clear e2
    by_cases h0 : n = 0
    · subst h0
      have HV := Lib.hid (fun W hW => validText_any k s hs W hW)
      have HZ := Lib.hid (show r = vText k s.data.toList by rw [HR.out]; rfl)
      generalize vText k s.data.toList = q at *
      clear HR
      go_enter Tryd.func35, Tryd.ntmps35
      go_wp2_with fail
      refine (HV.out _ (HT.out.below (by repeat (first | with_reducible exact Below.refl _ _ | (with_reducible refine Below.setCell ?_ (by first | exact Nat.le_refl _ | omega | (simp; done) | (simp; omega)) _) | (with_reducible refine Below.alloc ?_ (by first | exact Nat.le_refl _ | omega | (simp; done) | (simp; omega)) _) | with_reducible refine Below.drew ?_ | with_reducible refine bel_drewN ?_ _ | (with_reducible refine bel_by (by with_reducible assumption) (by first | exact Nat.le_refl _ | omega | (simp; done) | (simp; omega)) ?_))))).mono ?_
      rintro e w1 ⟨rfl, hb1⟩
      have hz1 := bsize hb1
      simp at hz1
      have HB := Lib.hid (show Below w.heap.size w w1 from (by repeat (first | with_reducible exact Below.refl _ _ | (with_reducible refine Below.setCell ?_ (by first | exact Nat.le_refl _ | omega | (simp; done) | (simp; omega)) _) | (with_reducible refine Below.alloc ?_ (by first | exact Nat.le_refl _ | omega | (simp; done) | (simp; omega)) _) | with_reducible refine Below.drew ?_ | with_reducible refine bel_drewN ?_ _ | (with_reducible refine bel_by (by with_reducible assumption) (by first | exact Nat.le_refl _ | omega | (simp; done) | (simp; omega)) ?_))))
      clear hb1
      go_wp2_with fail
      go_ret
      exact ⟨ret_bool HZ.out.symm, HB.out⟩
    · have q0 : (n == 0) = false := by simpa using h0
      have HZ := Lib.hid (show r = false by rw [HR.out, q0]; rfl)
      clear HR h0
      go_enter Tryd.func35, Tryd.ntmps35
      go_wp2_with fail
      go_ret
      exact ⟨ret_bool HZ.out.symm, (by repeat (first | with_reducible exact Below.refl _ _ | (with_reducible refine Below.setCell ?_ (by first | exact Nat.le_refl _ | omega | (simp; done) | (simp; omega)) _) | (with_reducible refine Below.alloc ?_ (by first | exact Nat.le_refl _ | omega | (simp; done) | (simp; omega)) _) | with_reducible refine Below.drew ?_ | with_reducible refine bel_drewN ?_ _ | (with_reducible refine bel_by (by with_reducible assumption) (by first | exact Nat.le_refl _ | omega | (simp; done) | (simp; omega)) ?_)))⟩
end Go.Proofs.YtepigooldelgnaaDoor
