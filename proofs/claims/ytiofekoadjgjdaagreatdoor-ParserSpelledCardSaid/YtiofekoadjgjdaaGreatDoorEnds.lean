/- Contract of layer 10: the closure ends within entries. -/
import Derived.Test.YtiofekoadjgjdaaGreatDoorNxt
set_option linter.unusedSimpArgs false
set_option linter.unusedVariables false
namespace Go.Proofs.YtiofekoadjgjdaaGreatDoor
open Go.RowKit

set_option maxHeartbeats 4000000 in
set_option maxRecDepth 100000 in
theorem ends_any (t : Tk) (w : World) (ob o : Nat) (ho : o ≤ 1000000) (hob : w.cell? ⟨ob, 0, none⟩ = some (.int .i64 (o : Int))) (hlt : ob < w.heap.size) :
    Calls Tryz.prog 32 #[t.val, .pointer (some ⟨ob, 0, none⟩)] w fun e w' => e = .returned (.bool (endsB o t)) ∧ Below w.heap.size w w' := by
  have HS := Lib.hid (fun x W => isSign_any t x W)
  have H3 := Lib.hid (sgnS_bs t 125)
  unfold bs at H3
  unfold endsB
  have HO := Lib.hid hob
  clear hob
  obtain ⟨k, s, n, a⟩ := t
  simp only [Tk.val] at HS ⊢
  by_cases h : o = 0
  · subst h
    have c := HO.out
    go_enter Tryz.func32, Tryz.ntmps32
    go_wp2_with fail
    go_ret
    exact ⟨ret_bool (by first | rfl | (simp; done)), (by repeat (first | with_reducible exact Below.refl _ _ | (with_reducible refine Below.setCell ?_ (by first | exact Nat.le_refl _ | omega | (simp; done) | (simp; omega)) _) | (with_reducible refine Below.alloc ?_ (by first | exact Nat.le_refl _ | omega | (simp; done) | (simp; omega)) _) | with_reducible refine Below.drew ?_ | with_reducible refine bel_drewN ?_ _ | (with_reducible refine bel_by (by with_reducible assumption) (by first | exact Nat.le_refl _ | omega | (simp; done) | (simp; omega)) ?_)))⟩
  · have h0 : ((o : Int) == 0) = false := by simp; omega
    have h1 : ¬ (o : Int) = 0 := by omega
    have c := HO.out
    rw [if_neg h]
    go_enter Tryz.func32, Tryz.ntmps32
    go_wp2_with fail
    have HK := Lib.hid (tk_new w ⟨k, s, n, a⟩ 51)
    obtain ⟨c0, c1, c2, c3, cf, cl⟩ := HK.out
    go_wp2_with fail
    refine (HS.out _ _).mono ?_
    rintro e w1 ⟨rfl, hb1⟩
    rw [H3.out]
    go_wp2_with fail
    go_ret
    exact ⟨rfl, (by repeat (first | with_reducible exact Below.refl _ _ | (with_reducible refine Below.setCell ?_ (by first | exact Nat.le_refl _ | omega | (simp; done) | (simp; omega)) _) | (with_reducible refine Below.alloc ?_ (by first | exact Nat.le_refl _ | omega | (simp; done) | (simp; omega)) _) | with_reducible refine Below.drew ?_ | with_reducible refine bel_drewN ?_ _ | (with_reducible refine bel_by (by with_reducible assumption) (by first | exact Nat.le_refl _ | omega | (simp; done) | (simp; omega)) ?_)))⟩
end Go.Proofs.YtiofekoadjgjdaaGreatDoor
