/- The tables and variables that the code reads, as the program's text lays them. -/
import Derived.Test.YtohalocbghhenaaGreatDoorLexQ
import Derived.Test.YtohalocbghhenaaGreatDoorShelf
import Derived.Lib.LaidTab
import Derived.Lib.AppendIntMem
import Derived.ProofKit
set_option linter.unusedSimpArgs false
set_option linter.unusedVariables false
namespace Go.Proofs.YtohalocbghhenaaGreatDoor
open Go.RowKit

def kindsL : List Int := (List.range 128).map fun n => (kN n : Int)
structure Tabs (w : World) : Prop where
  kinds : Lib.TabIs Tryz.prog w "salchow/lexer.kinds" .u8 kindsL
  pow : Lib.TabIs Tryz.prog w "internal/strconv.uint64pow10" .u64 Lib.pow10Tab
  err : ∃ tp p, w.var? Tryz.prog "strconv.ErrRange" = some #[.iface tp p]
  max : ∃ m, w.cell? ⟨0, 0, none⟩ = some (.int .i64 m)
theorem var_below {P : Program} {w w' : World} {n : String} {cs : Array Value} (h : w.var? P n = some cs) (hb : Below w.heap.size w w') : w'.var? P n = some cs := by
  unfold World.var? at h ⊢
  cases hg : P.globalNamed n with
  | none => simp [hg] at h
  | some g =>
    simp only [hg, Option.bind_some] at h ⊢
    have hlt : g < w.heap.size := by
      rcases Nat.lt_or_ge g w.heap.size with h' | h'
      · exact h'
      · simp [Array.getElem?_eq_none h'] at h
    rw [hb.block g hlt]
    exact h
theorem Tabs.below {w w' : World} (h : Tabs w) (hb : Below w.heap.size w w') : Tabs w' := by
  refine ⟨var_below h.kinds hb, var_below h.pow hb, ?_, ?_⟩
  · obtain ⟨tp, p, he⟩ := h.err
    exact ⟨tp, p, var_below he hb⟩
  · obtain ⟨m, hm⟩ := h.max
    exact ⟨m, (hb.cell (p := ⟨_, 0, none⟩) (World.block_lt_of_cell? w _ hm)).trans hm⟩
theorem gKinds : Tryz.prog.globalNamed "salchow/lexer.kinds" = some 1 := by kernel_rfl
theorem Tabs.kind {w : World} (h : Tabs w) {n : Nat} (hn : n < 128) : w.cell? ⟨1, n, none⟩ = some (.int .u8 (kN n : Int)) := by
  have hc := World.var?_cell gKinds h.kinds n
  rw [hc]
  simp [kindsL, hn]
theorem below_grow {w : World} (k : Nat) (os : Array Obj) : Below w.heap.size w (Sort.grow (w.drewN k) os) :=
  ⟨rfl, rfl, rfl, by simp [Sort.grow], fun i hi => by simp only [Sort.grow]; exact Array.getElem?_append_left hi⟩
theorem empty_list (s : ByteArray) : s.toList = s.data.toList := Lib.toList_data s
theorem below_drewN (w : World) (n : Nat) : Below w.heap.size w (w.drewN n) := bel_drewN (Below.refl _ w) n
end Go.Proofs.YtohalocbghhenaaGreatDoor
/- Contracts of layer 9: the kinds of bytes; counts of them; runs, words, digits. -/
namespace Go.Proofs.YtohalocbghhenaaGreatDoor
open Go.RowKit

set_option maxHeartbeats 400000 in
theorem kind_any (c : UInt8) (w : World) (hT : Tabs w) : Calls Tryz.prog 103 #[.int .u8 (c.toNat : Int)] w fun e w' => e = .returned (.int .u8 (kB c : Int)) ∧ w = w' := by
  have hb := c.toNat_lt
  by_cases h : c.toNat < 128
  · have hc := hT.kind h
    have k1 : decide ((c.toNat : Int) ≥ 128) = false := by simp; omega
    go_enter Tryz.func103, Tryz.ntmps103
    go_wp2
    go_ret
    exact ⟨rfl, rfl⟩
  · have k1 : decide ((c.toNat : Int) ≥ 128) = true := by simp; omega
    have hk : kB c = 0 := by unfold kB kN; (repeat' split) <;> omega
    have HK := Lib.hid hk
    clear hk
    go_enter Tryz.func103, Tryz.ntmps103
    go_wp2
    go_ret
    exact ⟨by rw [HK.out]; rfl, rfl⟩
theorem kind_is (c : UInt8) (k : Int) (h : (kB c : Int) = k) (w : World) (hT : Tabs w) : Calls Tryz.prog 103 #[.int .u8 (c.toNat : Int)] w fun e w' => e = .returned (.int .u8 k) ∧ w = w' := by
  subst h; exact kind_any c w hT
end Go.Proofs.YtohalocbghhenaaGreatDoor
