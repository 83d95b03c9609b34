/- Edges as keys of a map; a look-up of booleans at the operation. -/
import Derived.Test.YtpcdbnlljdfogaaCkB
import Derived.Maps.Own
import Derived.Maps.OwnOps
import Derived.Maps.Views
import Derived.DeepKeys4
import Derived.MapViews
set_option linter.unusedSimpArgs false
set_option linter.unusedVariables false
namespace Go.Proofs.Ytpcdbnlljdfogaa
open Go.RowKit
open Go.Maps (Keyed)

theorem boolE_inv {H : Type} {P : Program} {e : TypeId} (he : P.underlying e = some .bool) {v : Value} {z : DataW H × List MemPlace} (h : plainElem P e v = some z) : ∃ x, v = .bool x ∧ z = (.lit (.bool x), []) := by
  unfold plainElem at h
  rw [he] at h
  cases v <;> simp at h
  exact ⟨_, rfl, h.symm⟩
theorem look_bool {H : Type} {w : World} {P : Program} {k : TypeId} {b n : Nat} {D : DataW H} {t e : TypeId} (h : w.ownsMap P k (plainElem P e) b n D) (K : Keyed P k) (ht : P.underlying t = some (.map k e)) (he : P.underlying e = some .bool) (hz : (zeroValue e).run P w = .ok (.bool false) w)
    {key : Value} {kl : Lit} (hkey : keyOf P k key = some kl) : ∃ c, (Instr.lookup t (.map (some b)) key false).run P w = .ok (.bool c) w ∧ D.atKey kl (.lit (.bool false)) = .lit (.bool c) := by
  obtain ⟨v, ps, hrun, hv⟩ := h.lookup K ht hz (plainElem_bool he false) hkey
  obtain ⟨c, rfl, hc⟩ := boolE_inv he hv
  simp only [Prod.mk.injEq] at hc
  exact ⟨c, hrun, hc.1⟩
theorem wp_look_bool {H : Type} {P : Program} (w : World) {ops : Array Oper} {rest : List Oper} {o : Oper} {a : Act} {Q : Exit → Act → World → Prop}
    (hg : o.guard = none) (m x : Operand) (t : TypeId) (hop : o.op = Op.lookup t m x false)
    (k e : TypeId) (K : Keyed P k) (ht : P.underlying t = some (.map k e)) (he : P.underlying e = some .bool) (hz : (zeroValue e).run P w = .ok (.bool false) w) (b n : Nat) (D : DataW H)
    (hm : a.eval m = .map (some b)) (hown : w.ownsMap P k (plainElem P e) b n D) (key : Value) (kl : Lit) (hx : a.eval x = key) (hkey : keyOf P k key = some kl) (c : Bool) (hc : D.atKey kl (.lit (.bool false)) = .lit (.bool c))
    (hK : wpList P ops Q rest (a.put o.dst (.bool c)) w) :
    wpList P ops Q (o :: rest) a w := by
  refine wpList_plain hg fun K' hK' => ?_
  obtain ⟨c', hrun, hat⟩ := look_bool hown K ht he hz hkey
  rw [hc] at hat
  obtain rfl : c = c' := by simpa using hat
  unfold Oper.wp
  simp [execOp, hop, hm, hx, hrun, Result.andThen]
  exact hK' _ _ hK

theorem pLaid : laidOutB Try.prog = true := by kernel_rfl
theorem pRow : (52 : TypeId) < Try.prog.types.size := of_decide_eq_true (by kernel_rfl)
theorem pWide : (match Try.prog.underlying 52 with | some (.array _ _) | some (.struct _) => true | _ => false) = true := by kernel_rfl
theorem pKeyed : Keyed Try.prog 52 := Keyed.of_law (deep_law_laid pLaid (m := 2) (by omega) pRow (by kernel_rfl) pWide)
theorem pCells : Try.prog.cellsOf 52 = 2 := by kernel_rfl
theorem iCells : Try.prog.cellsOf 3 = 1 := by kernel_rfl
theorem pKeyT : Try.prog.keyType 52 = true := by kernel_rfl
def klit (e : Int × Int) : Lit := .string (keyBytes [.int .i64 e.1, .int .i64 e.2])
theorem key_mk (e : Int × Int) (h1 : (Lit.int .i64 e.1).wf = true) (h2 : (Lit.int .i64 e.2).wf = true) : keyOf Try.prog 52 (.agg #[.int .i64 e.1, .int .i64 e.2]) = some (klit e) := by
  have hf : (Value.agg #[.int .i64 e.1, .int .i64 e.2]).formed Try.prog 52 = true := by simp [Value.formed, Try.underlying52, pCells]
  have hk : ∀ d, Try.prog.keyLits (d + 2) 52 [.int .i64 e.1, .int .i64 e.2] = some [.int .i64 e.1, .int .i64 e.2] := by
    intro d
    have hr : List.range 2 = [0, 1] := by decide
    unfold Program.keyLits
    simp only [Try.underlying52, pCells, iCells, hr]
    unfold Program.keyLits
    simp [Try.underlying3, h1, h2]
  unfold keyOf
  simp [Try.underlying52, pKeyT, hf, Value.cells, klit]
  exact ⟨_, hk _, rfl⟩
theorem klit_key (e : Int × Int) : WideAt.IsKeyLit (klit e) := by simp [klit, WideAt.IsKeyLit]
theorem klit_inj {e f : Int × Int} (h1 : (Lit.int .i64 e.1).wf = true) (h2 : (Lit.int .i64 e.2).wf = true) (g1 : (Lit.int .i64 f.1).wf = true) (g2 : (Lit.int .i64 f.2).wf = true) (h : klit e = klit f) : e = f := by
  have k1 := key_mk e h1 h2
  have k2 := key_mk f g1 g2
  rw [← h] at k2
  have := pKeyed.inj k1 k2
  simp at this
  exact Prod.ext this.1 this.2
end Go.Proofs.Ytpcdbnlljdfogaa
