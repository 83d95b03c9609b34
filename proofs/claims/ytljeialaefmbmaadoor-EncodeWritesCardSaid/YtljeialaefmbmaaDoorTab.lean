/- What writing a number reads, and the texts of numbers. -/
import Derived.Test.YtljeialaefmbmaaDoorSt
import Derived.Test.YtljeialaefmbmaaDoorShelf
import Derived.Lib.LaidTab
import Derived.Lib.AppendIntMem
set_option linter.unusedSimpArgs false
set_option linter.unusedVariables false
namespace Go.Proofs.YtljeialaefmbmaaDoor
open Go.RowKit

/-- the table that writing a number reads is as the text lays it -/
def TabW (w : World) : Prop := Lib.TabIs Tryd.prog w "internal/strconv.uint64pow10" .u64 Lib.pow10Tab
theorem TabW.below {w w' : World} (h : TabW w) (hb : Below w.heap.size w w') : TabW w' := Lib.tabBelow_of_tabIs h w' hb
theorem below_grow {w : World} (k : Nat) (os : Array Obj) : Below w.heap.size w (Sort.grow (w.drewN k) os) :=
  ⟨rfl, rfl, rfl, by simp [Sort.grow], fun i hi => by simp only [Sort.grow]; exact Array.getElem?_append_left hi⟩
theorem digits_decL (u : Nat) : Lib.decDigits u = decL u := by
  induction u using Nat.strongRecOn with
  | _ u ih =>
    by_cases h : u < 10
    · rw [Lib.decDigits, dif_pos h, decL_lt h]
      unfold dig
      rw [Nat.mod_eq_of_lt h]
    · rw [Lib.decDigits, dif_neg h, decL_ge h, ih (u / 10) (by omega)]
      rfl
theorem itoa_decS (n : Int) : Lib.itoa n = decS n := by
  unfold Lib.itoa decS
  rw [digits_decL, digits_decL]
  split
  · rename_i h
    rw [show n.natAbs = (-n).toNat by omega]
  · rfl
theorem fint_any (n : Int) (h0 : -9223372036854775808 ≤ n) (h1 : n ≤ 9223372036854775807) (w : World) (ht : TabW w) :
    Calls Tryd.prog 32 #[.int .i64 n, .int .i64 10] w fun e w' => e = .returned (.string ⟨(decS n).toArray⟩) ∧ Below w.heap.size w w' := by
  refine (Tryd.strconv_FormatInt_10 n h0 h1 w ht).mono ?_
  rintro e w' ⟨rfl, k, os, rfl⟩
  rw [itoa_decS]
  exact ⟨rfl, below_grow k os⟩
end Go.Proofs.YtljeialaefmbmaaDoor
