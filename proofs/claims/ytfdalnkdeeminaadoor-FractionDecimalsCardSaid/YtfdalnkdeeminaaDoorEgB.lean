/- The examples of the chapter on fractions, second part: Round, Decimal, Text. -/
import Derived.Test.YtfdalnkdeeminaaDoorEgA
import Derived.Lib.AppendIntMem
set_option linter.unusedSimpArgs false
set_option linter.unusedVariables false
namespace Go.Proofs.YtfdalnkdeeminaaDoor
open Go.RowKit

/-- the table that writing a number reads -/
def TabW (w : World) : Prop := Lib.TabIs Tryd.prog w "internal/strconv.uint64pow10" .u64 Lib.pow10Tab
theorem TabW.below {w w' : World} (h : TabW w) (hb : Below w.heap.size w w') : TabW w' := Lib.tabBelow_of_tabIs h w' hb
theorem below_grow {w : World} (k : Nat) (os : Array Obj) : Below w.heap.size w (Sort.grow (w.drewN k) os) :=
  ⟨rfl, rfl, rfl, by simp [Sort.grow], fun i hi => by simp only [Sort.grow]; exact Array.getElem?_append_left hi⟩

theorem eg_valid (n d : Int) (b : Bool) (hb : vldI n d = b) (h1 : -9223372036854775808 ≤ n) (h1' : n ≤ 9223372036854775807) (h2 : -9223372036854775808 ≤ d) (h2' : d ≤ 9223372036854775807) (w : World) :
    Calls Tryd.prog 15 #[.agg #[.int .i64 n, .int .i64 d]] w fun e w' => e = .returned (.bool b) ∧ Below w.heap.size w w' := by
  rw [← hb]; exact valid_any n d h1 h1' h2 h2' w

theorem eg_text (w : World) (ht : TabW w) : Calls Tryd.prog 40 #[.agg #[.int .i64 (-3), .int .i64 2]] w fun e w' => e = .returned (.string ⟨#[45, 51, 47, 50]⟩) ∧ Below w.heap.size w w' := by
  have HT := Lib.hid ht
  clear ht
  go_enter Tryd.func40, Tryd.ntmps40
  go_wp2_with fail
  refine (eg_valid (-3) 2 true (by decide +kernel) (by decide) (by decide) (by decide) (by decide) _).mono ?_
  rintro e w1 ⟨rfl, hb1⟩
  have ht1 : TabW w1 := (HT.out.below (by repeat (first | with_reducible exact Below.refl _ _ | (with_reducible refine Below.setCell ?_ (by first | exact Nat.le_refl _ | omega | (simp; done) | (simp; omega)) _) | (with_reducible refine Below.alloc ?_ (by first | exact Nat.le_refl _ | omega | (simp; done) | (simp; omega)) _) | with_reducible refine Below.drew ?_ | with_reducible refine bel_drewN ?_ _ | (with_reducible refine bel_by (by with_reducible assumption) (by first | exact Nat.le_refl _ | omega | (simp; done) | (simp; omega)) ?_)))).below hb1
  have HT1 := Lib.hid ht1
  clear ht1
  obtain ⟨hc1, hf1⟩ := bcell hb1
  have hz1 := bsize hb1
  simp at hz1
  go_wp2_with fail
  refine (Tryd.strconv_FormatInt_10 (-3) (by decide) (by decide) _ HT1.out).mono ?_
  rintro e w2 ⟨rfl, k2, os2, hw2⟩
  have hb2 : Below w1.heap.size w1 w2 := by rw [hw2]; exact below_grow k2 os2
  clear hw2
  rw [show (Lib.itoa (-3)).toArray = #[45, 51] from by kernel_rfl]
  obtain ⟨hc2, hf2⟩ := bcell hb2
  have hz2 := bsize hb2
  have k0 : w.heap.size < w1.heap.size := by omega
  have k1 : w.heap.size < w2.heap.size := by omega
  go_wp2_with fail
  refine (Tryd.strconv_FormatInt_10_small 2 (by decide) _).mono ?_
  rintro e w3 ⟨rfl, rfl⟩
  rw [show (Lib.decDigits 2).toArray = #[50] from by kernel_rfl]
  go_wp2
  go_ret
  exact ⟨rfl, (by repeat (first | with_reducible exact Below.refl _ _ | (with_reducible refine Below.setCell ?_ (by first | exact Nat.le_refl _ | omega | (simp; done) | (simp; omega)) _) | (with_reducible refine Below.alloc ?_ (by first | exact Nat.le_refl _ | omega | (simp; done) | (simp; omega)) _) | with_reducible refine Below.drew ?_ | with_reducible refine bel_drewN ?_ _ | (with_reducible refine bel_by (by with_reducible assumption) (by first | exact Nat.le_refl _ | omega | (simp; done) | (simp; omega)) ?_)))⟩

theorem eg_fmt (w : World) : Calls Tryd.prog 60 #[.int .u64 5, .int .i64 10] w fun e w' => e = .returned (.string ⟨#[53]⟩) ∧ w = w' := by
  go_enter Tryd.func60, Tryd.ntmps60
  go_wp2_with (first | (go_at_call 82; go_in) | (go_at_call 94; refine (Tryd.internal_strconv_small 5 (by decide) _).mono ?_; rintro e w3 ⟨rfl, rfl⟩))
  go_ret
  exact ⟨by kernel_rfl, rfl⟩
end Go.Proofs.YtfdalnkdeeminaaDoor
