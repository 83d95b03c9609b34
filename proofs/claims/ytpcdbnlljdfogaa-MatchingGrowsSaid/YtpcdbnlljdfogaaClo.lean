/- The conditions of Cover and Violator. -/
import Derived.Test.YtpcdbnlljdfogaaIdx
set_option linter.unusedSimpArgs false
set_option linter.unusedVariables false
namespace Go.Proofs.Ytpcdbnlljdfogaa
open Go.RowKit

set_option maxHeartbeats 1000000 in
set_option maxRecDepth 100000 in
theorem cov1_any (w : World) (bb g n i : Nat) (x : Int) (hb : w.cell? ⟨bb, 0, none⟩ = some (.slice (some ⟨g, 0, none⟩) n n)) (hx : w.cell? ⟨g, i, none⟩ = some (.int .i64 x)) (hi : i < n) (hn : n ≤ 1000000) :
    Calls Try.prog 45 #[.int .i64 (i : Int), .pointer (some ⟨bb, 0, none⟩)] w fun e w' => e = .returned (.bool (x == -1)) ∧ w = w' := by
  have hiz : (i : Int) < (n : Int) := by omega
  have hn2 : n ≤ 2 ^ 63 - 1 := by omega
  go_enter Try.func45, Try.ntmps45
  go_wp2_with fail
  go_ret
  exact ⟨rfl, rfl⟩
set_option maxHeartbeats 1000000 in
set_option maxRecDepth 100000 in
theorem cov2_any (w : World) (bb gb g n i : Nat) (G : Gph) (x : Int) (hb : w.cell? ⟨bb, 0, none⟩ = some (.slice (some ⟨g, 0, none⟩) n n)) (hg : GbAt w gb G) (hx : w.cell? ⟨g, G.L.length + i, none⟩ = some (.int .i64 x)) (hi : G.L.length + i < n) (hn : n ≤ 1000000) :
    Calls Try.prog 46 #[.int .i64 (i : Int), .pointer (some ⟨bb, 0, none⟩), .pointer (some ⟨gb, 0, none⟩)] w fun e w' => e = .returned (.bool (x != -1)) ∧ w = w' := by
  obtain ⟨g0, g1, g2, gl⟩ := hg
  obtain ⟨m, hm⟩ : ∃ m, m = G.L.length := ⟨_, rfl⟩
  rw [← hm] at hi hx g0
  clear hm g1 g2
  obtain ⟨k, hk⟩ : ∃ k, k = m + i := ⟨_, rfl⟩
  have hkz : (m : Int) + (i : Int) = (k : Int) := by omega
  rw [← hk] at hi hx
  have hkl : (k : Int) < (n : Int) := by omega
  have hmn : m ≤ 1000000 := by omega
  have hin : i ≤ 1000000 := by omega
  have hn2 : n ≤ 2 ^ 63 - 1 := by omega
  clear hk
  go_enter Try.func46, Try.ntmps46
  go_wp2_with fail
  go_ret
  exact ⟨rfl, rfl⟩
set_option maxHeartbeats 1000000 in
set_option maxRecDepth 100000 in
theorem vio1_any (w : World) (cb : Nat) (i : Int) {a : Option Addr} {b off len cap : Nat} {L : List Int} (hb : w.cell? ⟨cb, 0, none⟩ = some (.slice a len cap)) (h : SlI w a b off len cap L) :
    Calls Try.prog 47 #[.int .i64 i, .pointer (some ⟨cb, 0, none⟩)] w fun e w' => e = .returned (.bool (!L.contains i)) ∧ w = w' := by
  have HC := Lib.hid (has_any h i)
  obtain ⟨r, hr⟩ : ∃ r, r = L.contains i := ⟨_, rfl⟩
  rw [← hr] at HC ⊢
  clear hr h
  go_enter Try.func47, Try.ntmps47
  go_wp2_with fail
  refine HC.out.mono ?_
  rintro e w1 ⟨rfl, rfl⟩
  go_wp2_with fail
  go_ret
  exact ⟨rfl, rfl⟩
end Go.Proofs.Ytpcdbnlljdfogaa
