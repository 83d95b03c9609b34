/- Contracts of the reference of fractions, fifth part: Valid, Make, Milli, Neg. -/
import Derived.Test.YtbjmibaepccbeaaRefD
import Derived.Test.YtbjmibaepccbeaaNumD
set_option linter.unusedSimpArgs false
set_option linter.unusedVariables false
namespace Go.Proofs.Ytbjmibaepccbeaa
open Go.RowKit

theorem undrew' {W w1 : World} (hb : Below W.drew.heap.size W.drew w1) : Below W.heap.size W w1 := ⟨hb.os, hb.tape, hb.output, hb.size, hb.block⟩

theorem w64 {a : Int} (h : 0 ≤ a) (h' : a ≤ 18446744073709551615) : hiW a = 0 ∧ loW a = a := by unfold hiW loW; omega

/-- the reference's divisor and build at numbers of one word -/
theorem rdivisor_one (a b : Int) (h1 : 0 ≤ a) (h1' : a ≤ 18446744073709551615) (h2 : 0 < b) (h2' : b ≤ 18446744073709551615) (w : World) :
    Calls Try.prog 66 #[.agg #[.int .u64 0, .int .u64 a], .agg #[.int .u64 0, .int .u64 b]] w fun e w' =>
      e = .returned (.agg #[.int .u64 0, .int .u64 (gcdI a b)]) ∧ Below w.heap.size w w' := by
  have h := rdivisor_any a b h1 (by omega) (by omega) (by omega) w
  have g1 := gcdI_pos a b h2
  have g2 := gcdI_le a b h2
  rwa [(w64 h1 h1').1, (w64 h1 h1').2, (w64 (by omega) h2').1, (w64 (by omega) h2').2, (w64 (a := gcdI a b) (by omega) (by omega)).1, (w64 (a := gcdI a b) (by omega) (by omega)).2] at h
theorem rbuild_one (neg : Bool) (n d : Int) (h1 : 0 ≤ n) (h1' : n ≤ 18446744073709551615) (h2 : 0 < d) (h2' : d ≤ 18446744073709551615) (w : World) :
    Calls Try.prog 69 #[.bool neg, .agg #[.int .u64 0, .int .u64 n], .agg #[.int .u64 0, .int .u64 d]] w fun e w' => e = .returned (fracE (bndI neg n d)) ∧ Below w.heap.size w w' := by
  have h := rbuild_any neg n d h1 (by omega) h2 (by omega) w
  rwa [(w64 h1 h1').1, (w64 h1 h1').2, (w64 (by omega) h2').1, (w64 (by omega) h2').2] at h

end Go.Proofs.Ytbjmibaepccbeaa
