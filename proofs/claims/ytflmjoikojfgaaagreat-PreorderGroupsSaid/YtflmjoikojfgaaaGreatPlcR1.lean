/- preorder.placed at []salchow/api.Frac: the place of each element. -/
import Derived.Test.YtflmjoikojfgaaaGreatClnR
import Derived.Test.YtflmjoikojfgaaaGreatClnI
import Derived.Laws.MakeOwn
set_option linter.unusedSimpArgs false
set_option linter.unusedVariables false
namespace Go.Proofs.YtflmjoikojfgaaaGreat
open Go.RowKit Go.Sort

set_option maxHeartbeats 1000000 in
set_option maxRecDepth 100000 in
theorem plcR1_any {α : Type} {enc : α → Value} {cf : α → α → Int} {x y : α} {W : World} {bo bx g : Nat} {cb : Array Value}
    (eg : ∀ args w, (callFunc g args).run Tryz.prog w = .ok (.enter g args) w) (c1 : W.cell? ⟨bo, 0, none⟩ = some (.func (.func g) #[] cb)) (c2 : W.cell? ⟨bx, 0, none⟩ = some (enc x))
    (hg : Calls Tryz.prog g (#[enc y, enc x] ++ cb) W fun e w' => e = .returned (.int .i64 (cf y x)) ∧ Grw W w') :
    Calls Tryz.prog 81 #[enc y, .pointer (some ⟨bo, 0, none⟩), .pointer (some ⟨bx, 0, none⟩)] W fun e w' => e = .returned (.bool (decide (cf y x < 0))) ∧ Grw W w' := by
  have HG := Lib.hid hg
  clear hg
  go_enter Tryz.func81, Tryz.ntmps81
  go_wp2_with fail
  refine HG.out.mono ?_
  rintro e w1 ⟨rfl, hb⟩
  have HB := Lib.hid hb
  clear hb
  go_wp2
  go_ret
  exact ⟨rfl, HB.out⟩
end Go.Proofs.YtflmjoikojfgaaaGreat
