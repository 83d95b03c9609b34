/- Contract of layer 19's reference: Same. -/
import Derived.Test.YtoiejllkdjjdnaaRhx
import Derived.BigRegion
import Derived.Lib.Bytes
set_option linter.unusedSimpArgs false
set_option linter.unusedVariables false
namespace Go.Proofs.Ytoiejllkdjjdnaa
open Go.RowKit

theorem it_ne {x y : It} (h : x ≠ y) : (x.c.toList == y.c.toList) = false ∨ x.c = y.c ∧ ((x.d == y.d) = false ∨ x.d = y.d ∧ ((x.r == y.r) = false ∨ x.r = y.r ∧ ((x.v == y.v) = false ∨ x.v = y.v ∧ (x.j == y.j) = false))) := by
  obtain ⟨a, b, c, d, e⟩ := x
  obtain ⟨a', b', c', d', e'⟩ := y
  simp only [ne_eq, It.mk.injEq, not_and] at h ⊢
  by_cases h1 : a = a'
  · right
    refine ⟨h1, ?_⟩
    by_cases h2 : b = b'
    · right
      refine ⟨h2, ?_⟩
      by_cases h3 : c = c'
      · right
        refine ⟨h3, ?_⟩
        by_cases h4 : d = d'
        · right
          exact ⟨h4, by simpa using h h1 h2 h3 h4⟩
        · left; simpa using h4
      · left; simpa using h3
    · left; simpa using h2
  · left
    rw [beq_eq_false_iff_ne]
    intro hh
    exact h1 (bs_inj (by rw [← Lib.toList_data, ← Lib.toList_data]; exact hh))
set_option maxHeartbeats 4000000 in
set_option maxRecDepth 100000 in
theorem same_draws {w : World} {a1 a2 : Option Addr} {b1 o1 n1 c1 b2 o2 n2 c2 : Nat} {A B : List It} (hA : SlX w a1 b1 o1 n1 c1 A) (hB : SlX w a2 b2 o2 n2 c2 B) :
    Calls Try.prog 28 #[.slice a1 n1 c1, .slice a2 n2 c2] w fun e w' => e = .returned (.bool (decide (A = B))) ∧ ∃ m, w' = w.drewN m := by
  have hlA := hA.hl
  have hlB := hB.hl
  by_cases hn : n1 = n2
  · subst hn
    have hmA := hA.hmax
    unfold maxLen at hmA
    have hle : n1 ≤ 9223372036854775807 := by have := hA.hcap; omega
    have HA := Lib.hid hA
    have HB := Lib.hid hB
    clear hA hB hmA
    have k0 : (((n1 : Int)) != (n1 : Int)) = false := by simp
    go_enter Try.func28, Try.ntmps28
    go_wp2_with fail
    go_loopw [5] (fun s5 wr => ∃ k m : Nat, k ≤ n1 ∧ s5 = .int .i64 (k : Int) ∧ wr = w.drewN m ∧ Hid (∀ (j : Nat) (h1 : j < A.length) (h2 : j < B.length), j < k → (A[j]'h1) = (B[j]'h2))) (fun s5 _ => (n1 - (intOf s5)).toNat)
    case atStart => exact ⟨0, 0, Nat.zero_le _, rfl, rfl, Lib.hid (fun j _ _ h => absurd h (Nat.not_lt_zero j))⟩
    case round =>
      obtain ⟨k, m, hk, rfl, hwr, HK⟩ := hrel
      subst hwr
      have HBL := Lib.hid (bel_drewN (Below.refl w.heap.size w) m)
      by_cases hlt : k < n1
      · have hl : (k : Int) < (n1 : Int) := by omega
        have hkA : k < A.length := by omega
        have hkB : k < B.length := by omega
        have SA := HA.out
        have SB := HB.out
        obtain rfl := SA.ha (by omega)
        obtain rfl := SB.ha (by omega)
        have ba := SA.hb (by omega)
        have bb := SB.hb (by omega)
        have ca0 := SA.c0 k hkA
        have ca1 := SA.c1 k hkA
        have ca2 := SA.c2 k hkA
        have ca3 := SA.c3 k hkA
        have ca4 := SA.c4 k hkA
        have cb0 := SB.c0 k hkB
        have cb1 := SB.c1 k hkB
        have cb2 := SB.c2 k hkB
        have cb3 := SB.c3 k hkB
        have cb4 := SB.c4 k hkB
        clear SA SB
        by_cases hxy : (A[k]'hkA) = (B[k]'hkB)
        · have HX := Lib.hid hxy
          rw [hxy] at ca0 ca1 ca2 ca3 ca4
          clear hxy
          generalize (B[k]'hkB).c = x0 at ca0 cb0
          generalize (B[k]'hkB).d = x1 at ca1 cb1
          generalize (B[k]'hkB).r = x2 at ca2 cb2
          generalize (B[k]'hkB).v = x3 at ca3 cb3
          generalize (B[k]'hkB).j = x4 at ca4 cb4
          have hq : (x0.toList == x0.toList) = true := by simp
          go_wp2_with fail
          go_quiet (fail)
          go_wp2_with fail
          have hbw := HBL.out
          go_roundw
          case rel =>
            refine ⟨k + 1, _, by omega, by go_num, rfl, Lib.hid (fun j h1 h2 hj => ?_)⟩
            by_cases e : j = k
            · subst e; exact HX.out
            · exact HK.out j h1 h2 (by omega)
          case measure => simp [intOf]; omega
        · have HR := Lib.hid (show decide (A = B) = false by
            rw [decide_eq_false_iff_not]
            intro e
            subst e
            exact hxy rfl)
          have hne := it_ne hxy
          clear hxy
          generalize (A[k]'hkA).c = x0 at ca0 hne
          generalize (A[k]'hkA).d = x1 at ca1 hne
          generalize (A[k]'hkA).r = x2 at ca2 hne
          generalize (A[k]'hkA).v = x3 at ca3 hne
          generalize (A[k]'hkA).j = x4 at ca4 hne
          generalize (B[k]'hkB).c = y0 at cb0 hne
          generalize (B[k]'hkB).d = y1 at cb1 hne
          generalize (B[k]'hkB).r = y2 at cb2 hne
          generalize (B[k]'hkB).v = y3 at cb3 hne
          generalize (B[k]'hkB).j = y4 at cb4 hne
          rcases hne with h | ⟨rfl, h | ⟨rfl, h | ⟨rfl, h | ⟨rfl, h⟩⟩⟩⟩
          all_goals
            try have hq : (x0.toList == x0.toList) = true := by simp
            go_wp2_with fail
            go_quiet (fail)
            go_wp2_with fail
            go_ret
            exact ⟨by rw [HR.out]; rfl, _, World.drewN_drewN _ _ _⟩
      · obtain rfl : k = n1 := by omega
        have hl : ¬ (k : Int) < (k : Int) := by omega
        have HR := Lib.hid (show decide (A = B) = true by
          rw [decide_eq_true_eq]
          exact List.ext_getElem (by omega) (fun j h1 h2 => HK.out j h1 h2 (by omega)))
        go_wp2_with fail
        go_ret
        exact ⟨by rw [HR.out]; rfl, m, rfl⟩
  · have k0 : (((n1 : Int)) != (n2 : Int)) = true := by simp; omega
    have HR := Lib.hid (show decide (A = B) = false by
      rw [decide_eq_false_iff_not]
      intro e
      rw [e] at hlA
      omega)
    clear hA hB
    go_enter Try.func28, Try.ntmps28
    go_wp2_with fail
    go_ret
    exact ⟨by rw [HR.out]; rfl, 0, rfl⟩
theorem same_any {w : World} {a1 a2 : Option Addr} {b1 o1 n1 c1 b2 o2 n2 c2 : Nat} {A B : List It} (hA : SlX w a1 b1 o1 n1 c1 A) (hB : SlX w a2 b2 o2 n2 c2 B) :
    Calls Try.prog 28 #[.slice a1 n1 c1, .slice a2 n2 c2] w fun e w' => e = .returned (.bool (decide (A = B))) ∧ Below w.heap.size w w' :=
  (same_draws hA hB).mono fun e w' ⟨he, m, hm⟩ => ⟨he, by rw [hm]; exact bel_drewN (Below.refl _ _) _⟩
end Go.Proofs.Ytoiejllkdjjdnaa
