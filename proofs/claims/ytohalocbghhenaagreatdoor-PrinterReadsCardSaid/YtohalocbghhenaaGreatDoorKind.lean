/- Contracts of layer 9: the kinds of bytes; counts of them; runs, words, digits. -/
import Derived.Test.YtohalocbghhenaaGreatDoorTabs
import Derived.Test.YtohalocbghhenaaGreatDoorLexQ
set_option linter.unusedSimpArgs false
set_option linter.unusedVariables false
namespace Go.Proofs.YtohalocbghhenaaGreatDoor
open Go.RowKit

set_option maxHeartbeats 400000 in
theorem kind_any (c : UInt8) (w : World) (hT : Tabs w) : Calls Tryz.prog 103 #[.int .u8 (c.toNat : Int)] w fun e w' => e = .returned (.int .u8 (kB c : Int)) ∧ w = w' := by
  have hb := c.toNat_lt
  by_cases h : c.toNat < 128
  · have hc := hT.kind h
    have k1 : decide ((c.toNat : Int) ≥ 128) = false := by simp; omega
    go_enter Tryz.func103, Tryz.ntmps103
    go_wp2
    go_ret
    exact ⟨rfl, rfl⟩
  · have k1 : decide ((c.toNat : Int) ≥ 128) = true := by simp; omega
    have hk : kB c = 0 := by unfold kB kN; (repeat' split) <;> omega
    have HK := Lib.hid hk
    clear hk
    go_enter Tryz.func103, Tryz.ntmps103
    go_wp2
    go_ret
    exact ⟨by rw [HK.out]; rfl, rfl⟩
theorem kind_is (c : UInt8) (k : Int) (h : (kB c : Int) = k) (w : World) (hT : Tabs w) : Calls Tryz.prog 103 #[.int .u8 (c.toNat : Int)] w fun e w' => e = .returned (.int .u8 k) ∧ w = w' := by
  subst h; exact kind_any c w hT
end Go.Proofs.YtohalocbghhenaaGreatDoor
