/- The arcs of an edge; uses. -/
import Derived.Test.YtpcdbnlljdfogaaSrh
set_option linter.unusedSimpArgs false
set_option linter.unusedVariables false
namespace Go.Proofs.Ytpcdbnlljdfogaa
open Go.RowKit

theorem q_same {P : Program} {f : FuncId} {args : Array Value} {w : World} {v : Value} (h : Calls P f args w fun e w' => e = .returned v ∧ w = w') :
    Calls P f args w fun e w' => e = .returned v ∧ ∃ m, w' = w.drewN m :=
  h.mono (by rintro e w' ⟨rfl, rfl⟩; exact ⟨rfl, 0, rfl⟩)
theorem forth_any (i : Nat) (hi : i ≤ 1000000) (w : World) : Calls Try.prog 49 #[.int .i64 (i : Int)] w fun e w' => e = .returned (.int .i64 ((2 * i : Nat) : Int)) ∧ w = w' := by
  go_enter Try.func49, Try.ntmps49
  go_wp2_with fail
  go_ret
  exact ⟨by first | rfl | go_num, rfl⟩
theorem back_any (i : Nat) (hi : i ≤ 1000000) (w : World) : Calls Try.prog 51 #[.int .i64 (i : Int)] w fun e w' => e = .returned (.int .i64 ((2 * i + 1 : Nat) : Int)) ∧ w = w' := by
  go_enter Try.func51, Try.ntmps51
  go_wp2_with fail
  go_ret
  exact ⟨by first | rfl | go_num, rfl⟩
set_option maxHeartbeats 1000000 in
set_option maxRecDepth 100000 in
theorem uses_any (N : Nt) (nb : Nat) (w : World) (hN : NtAt w nb N) (i : Nat) (hi : 2 * i + 1 < N.R.length) (hR : N.R.length ≤ 10000) :
    Calls Try.prog 50 #[.pointer (some ⟨nb, 0, none⟩), .int .i64 (i : Int)] w fun e w' => e = .returned (.bool (decide (N.R[2 * i + 1]'hi > 0))) ∧ Below w.heap.size w w' := by
  have c3 := hN.c3
  have haR : N.aR = some ⟨N.bR, N.oR, none⟩ := hN.r.ha (by omega)
  rw [haR] at c3
  have bR := hN.r.hb (by omega)
  have hcR := hN.r.hcap
  have dR := hN.r.cell (2 * i + 1) hi
  have nl := hN.lt
  have hiz : ((2 * i + 1 : Nat) : Int) < (N.R.length : Int) := by omega
  have HBk := Lib.hid (fun W => back_any i (by omega) W)
  generalize N.R[2 * i + 1]'hi = rv at *
  generalize hk : 2 * i + 1 = k at *
  obtain ⟨b, hb⟩ : ∃ b, b = decide (rv > 0) := ⟨_, rfl⟩
  rw [← hb]
  have HB0 := Lib.hid (fun nq => bel_drewN (Below.refl w.heap.size w) nq)
  have hb' := hb.symm
  clear hk hN hb
  go_enter Try.func50, Try.ntmps50
  go_wp2_with fail
  go_quiet ((go_at_call 51; exact Calls.quiet_of (q_same (HBk.out _))))
  go_wp2_with fail
  go_ret
  exact ⟨by first | rfl | simp [hb'], HB0.out _⟩
end Go.Proofs.Ytpcdbnlljdfogaa
