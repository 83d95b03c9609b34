/- What the rows of layer 8 share: a fraction and an interval given by value, opened and shut. -/
import Derived.Test.YtbjmibaepccbeaaPost
import Derived.Test.YtbjmibaepccbeaaRows
import Derived.Test.YtbjmibaepccbeaaIvA
import Derived.ProofKit
import Derived.ChangeMaps5
import Derived.OpenShut
import Derived.Lib.SmallJoins
import Derived.Carry
set_option linter.unusedSimpArgs false
set_option linter.unusedVariables false
namespace Go.Proofs.Ytbjmibaepccbeaa
open Go.ChangeShapes Go.WideShapes Go.ChangeAt Go.RowKit Go.Joins

theorem Try.own : ownKnob Try.prog.godebug = none := by kernel_rfl
theorem bd64 {a : Int} (h : (Lit.int .i64 a).wf = true) : -9223372036854775808 ≤ a ∧ a ≤ 9223372036854775807 := bounds_i64 h
theorem cellsF : Try.prog.cellsOf 23 = 2 := by kernel_rfl
theorem cellsV : Try.prog.cellsOf 25 = 4 := by kernel_rfl
theorem wf64_of {n m : Int} (h0 : (Lit.int .i64 n).wf = true) (h1 : (Lit.int .i64 m).wf = true) : Wf64 (n, m) := by
  have := bd64 h0
  have := bd64 h1
  exact ⟨by omega, by omega, by omega, by omega⟩
theorem four {cs : Array Value} (h : cs.size = 4) : ∃ c0 c1 c2 c3, cs = #[c0, c1, c2, c3] := by
  obtain ⟨l⟩ := cs
  match l, h with
  | [c0, c1, c2, c3], _ => exact ⟨c0, c1, c2, c3, rfl⟩
set_option maxRecDepth 100000 in
theorem open_frac {H : Type} {enc : TypeId × Value → H} {W : World} {base b0 : Nat} {sp : Nat → Bool} {hd : Bool} {v : Value} {d : DataW H} {p : List MemPlace}
    (hk : Value.okWide Try.prog W .any base 23 v) (h : DataW.Trod enc Try.prog W b0 sp hd 23 v d p) :
    ∃ n m : Int, v = .agg #[.int .i64 n, .int .i64 m] ∧ d = .agg [.lit (.int .i64 n), .lit (.int .i64 m)] ∧ p = [] ∧ (Lit.int .i64 n).wf = true ∧ (Lit.int .i64 m).wf = true := by
  obtain ⟨c0, c1, y0, y1, m, rfl, rfl, rfl, h0, h1⟩ := open_agg2 Try.underlying23 (by kernel_rfl) cellsF hk h
  obtain ⟨a, e0, rfl, wa⟩ := DataW.trod_int Try.underlying2 h0
  obtain ⟨b, e1, rfl, wb⟩ := DataW.trod_int Try.underlying2 h1
  simp at e0 e1
  subst e0 e1
  exact ⟨a, b, rfl, rfl, rfl, wa, wb⟩
set_option maxRecDepth 100000 in
theorem shut_frac {H : Type} {enc : TypeId × Value → H} {W : World} {b0 : Nat} {sp : Nat → Bool} {hd : Bool} {n m : Int}
    (h0 : (Lit.int .i64 n).wf = true) (h1 : (Lit.int .i64 m).wf = true) :
    DataW.Trod enc Try.prog W b0 sp hd 23 (.agg #[.int .i64 n, .int .i64 m]) (.agg [.lit (.int .i64 n), .lit (.int .i64 m)]) [] :=
  shut_agg2 (y0 := (.lit (.int .i64 n), [])) (y1 := (.lit (.int .i64 m), [])) Try.underlying23 (by kernel_rfl) cellsF ⟨1, by simp [DataW.trod, Try.underlying2, h0]⟩ ⟨1, by simp [DataW.trod, Try.underlying2, h1]⟩
set_option maxRecDepth 100000 in
theorem trod_frac {H : Type} {enc : TypeId × Value → H} {W : World} {b0 k : Nat} {sp : Nat → Bool} {hd : Bool} {c0 c1 : Value} {y : DataW H × List MemPlace}
    (h : DataW.trod enc Try.prog W b0 sp hd k 23 [c0, c1] = some y) :
    ∃ n m : Int, c0 = .int .i64 n ∧ c1 = .int .i64 m ∧ y = (.agg [.lit (.int .i64 n), .lit (.int .i64 m)], []) ∧ (Lit.int .i64 n).wf = true ∧ (Lit.int .i64 m).wf = true := by
  obtain ⟨y0, y1, n, rfl, _, h0, h1⟩ := trod_struct2 Try.underlying23 h
  have k0 : Try.prog.cellsOf 2 = 1 := by kernel_rfl
  simp only [k0] at h0 h1
  obtain ⟨a, e0, rfl, wa⟩ := DataW.trod_int Try.underlying2 h0
  obtain ⟨b, e1, rfl, wb⟩ := DataW.trod_int Try.underlying2 h1
  simp at e0 e1
  subst e0 e1
  exact ⟨a, b, rfl, rfl, rfl, wa, wb⟩
set_option maxRecDepth 100000 in
theorem open_iv {H : Type} {enc : TypeId × Value → H} {W : World} {base b0 : Nat} {sp : Nat → Bool} {hd : Bool} {v : Value} {d : DataW H} {p : List MemPlace}
    (hk : Value.okWide Try.prog W .any base 25 v) (h : DataW.Trod enc Try.prog W b0 sp hd 25 v d p) :
    ∃ n m r s : Int, v = .agg #[.int .i64 n, .int .i64 m, .int .i64 r, .int .i64 s] ∧ d = .agg [.agg [.lit (.int .i64 n), .lit (.int .i64 m)], .agg [.lit (.int .i64 r), .lit (.int .i64 s)]] ∧ p = [] ∧ (Lit.int .i64 n).wf = true ∧ (Lit.int .i64 m).wf = true ∧ (Lit.int .i64 r).wf = true ∧ (Lit.int .i64 s).wf = true := by
  obtain ⟨cs, rfl, hsz⟩ := okWide_struct Try.underlying25 hk
  obtain ⟨c0, c1, c2, c3, rfl⟩ := four (hsz.trans cellsV)
  obtain ⟨fuel, hf⟩ := h
  obtain ⟨y0, y1, n, hx, _, h0, h1⟩ := trod_struct2 Try.underlying25 hf
  simp only [Prod.mk.injEq] at hx
  obtain ⟨rfl, rfl⟩ := hx
  simp only [cellsF] at h0 h1
  obtain ⟨a, b, e0, e1, rfl, wa, wb⟩ := trod_frac (c0 := c0) (c1 := c1) h0
  obtain ⟨c, d, e2, e3, rfl, wc, wd⟩ := trod_frac (c0 := c2) (c1 := c3) h1
  subst e0 e1 e2 e3
  exact ⟨a, b, c, d, rfl, rfl, rfl, wa, wb, wc, wd⟩
set_option maxRecDepth 100000 in
theorem shut_iv {H : Type} {enc : TypeId × Value → H} {W : World} {b0 : Nat} {sp : Nat → Bool} {hd : Bool} {n m r s : Int}
    (h0 : (Lit.int .i64 n).wf = true) (h1 : (Lit.int .i64 m).wf = true) (h2 : (Lit.int .i64 r).wf = true) (h3 : (Lit.int .i64 s).wf = true) :
    DataW.Trod enc Try.prog W b0 sp hd 25 (.agg #[.int .i64 n, .int .i64 m, .int .i64 r, .int .i64 s]) (.agg [.agg [.lit (.int .i64 n), .lit (.int .i64 m)], .agg [.lit (.int .i64 r), .lit (.int .i64 s)]]) [] := by
  obtain ⟨k, hk⟩ := shut_frac (enc := enc) (W := W) (b0 := b0) (sp := sp) (hd := hd) h0 h1
  obtain ⟨l, hl⟩ := shut_frac (enc := enc) (W := W) (b0 := b0) (sp := sp) (hd := hd) h2 h3
  have ts := trod_struct2_mk (enc := enc) (w := W) (base := b0) (spare := sp) (held := hd) (n := max k l) (cs := [.int .i64 n, .int .i64 m, .int .i64 r, .int .i64 s]) Try.underlying25 (by simp [cellsV])
    (y0 := (.agg [.lit (.int .i64 n), .lit (.int .i64 m)], [])) (y1 := (.agg [.lit (.int .i64 r), .lit (.int .i64 s)], []))
    (by simp only [cellsF]; exact DataW.trod_le (Nat.le_max_left k l) (by simpa [Value.cells] using hk)) (by simp only [cellsF]; exact DataW.trod_le (Nat.le_max_right k l) (by simpa [Value.cells] using hl))
  exact ⟨_, by simpa [Value.cells] using ts⟩
end Go.Proofs.Ytbjmibaepccbeaa
