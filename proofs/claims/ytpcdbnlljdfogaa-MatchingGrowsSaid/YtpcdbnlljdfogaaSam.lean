/- The reference's Same. -/
import Derived.Test.YtpcdbnlljdfogaaClo
set_option linter.unusedSimpArgs false
set_option linter.unusedVariables false
namespace Go.Proofs.Ytpcdbnlljdfogaa
open Go.RowKit

theorem eq_getD {A B : List Int} (hl : A.length = B.length) (h : ∀ j, j < A.length → A.getD j 0 = B.getD j 0) : A = B := by
  apply List.ext_getElem hl
  intro j h1 h2
  have := h j h1
  simpa [List.getD, h1, h2] using this
theorem eqL_step {A B : List Int} {k : Nat} (hl : A.length = B.length) (hk : k < A.length) (h : ∀ j, j < k → A.getD j 0 = B.getD j 0) (he : A.getD k 0 = B.getD k 0) : ∀ j, j < k + 1 → A.getD j 0 = B.getD j 0 := by
  intro j hj
  by_cases e : j = k
  · subst e; exact he
  · exact h j (by omega)
set_option maxHeartbeats 1000000 in
set_option maxRecDepth 100000 in
theorem same_any {a a' : Option Addr} {b b' off off' len len' cap cap' : Nat} {A B : List Int} {w : World} (hA : SlI w a b off len cap A) (hB : SlI w a' b' off' len' cap' B) :
    Calls Try.prog 23 #[.slice a len cap, .slice a' len' cap'] w fun e w' => e = .returned (.bool (decide (A = B))) ∧ ∃ q, w' = w.drewN q := by
  by_cases hl : len = len'
  · subst hl
    have HA := Lib.hid hA
    have HB := Lib.hid hB
    have hca := hA.hcap
    have hcb := hB.hcap
    have hma := hA.hmax
    have hmb := hB.hmax
    unfold maxLen at hma hmb
    have HL := Lib.hid (show A.length = B.length by rw [hA.hl, hB.hl])
    have k0 : ((len : Int) != (len : Int)) = false := by simp
    clear hA hB
    go_enter Try.func23, Try.ntmps23
    go_wp2_with fail
    go_loopw [5] (fun s5 wr => ∃ (k q : Nat), k ≤ len ∧ s5 = .int .i64 (k : Int) ∧ w.drewN q = wr ∧ Hid (∀ j, j < k → A.getD j 0 = B.getD j 0)) (fun s5 _ => (len - (intOf s5)).toNat)
    case atStart => exact ⟨0, 0, Nat.zero_le _, rfl, rfl, Lib.hid (fun j h => absurd h (Nat.not_lt_zero j))⟩
    case round =>
      obtain ⟨k, q, hk, rfl, rfl, HZ⟩ := hrel
      by_cases hlt : k < len
      · have l1 : (k : Int) < (len : Int) := by omega
        obtain rfl := HA.out.ha (by omega)
        obtain rfl := HB.out.ha (by omega)
        have hkA : k < A.length := by rw [HA.out.hl]; exact hlt
        have hkB : k < B.length := by rw [HB.out.hl]; exact hlt
        have x1 : (w.drewN q).cell? ⟨b, off + k, none⟩ = some (.int .i64 (A.getD k 0)) := by
          have := HA.out.cell k hkA
          simpa [List.getD, hkA] using this
        have x2 : (w.drewN q).cell? ⟨b', off' + k, none⟩ = some (.int .i64 (B.getD k 0)) := by
          have := HB.out.cell k hkB
          simpa [List.getD, hkB] using this
        have HST := Lib.hid (fun he => eqL_step HL.out hkA HZ.out he)
        have HNE := Lib.hid (fun (hn : A.getD k 0 ≠ B.getD k 0) => (show decide (A = B) = false from decide_eq_false (fun e => hn (by rw [e]))))
        clear HZ
        generalize A.getD k 0 = x at *
        generalize B.getD k 0 = y at *
        generalize hw2 : w.drewN q = w2 at *
        have HW := Lib.hid hw2
        clear hw2
        by_cases he : x = y
        · subst he
          have k1 : (x != x) = false := by simp
          have HE := Lib.hid (HST.out rfl)
          clear HST HNE
          go_wp2_with fail
          go_quiet (fail)
          go_wp2_with fail
          go_roundw
          case rel => exact ⟨k + 1, q + nq, by omega, by go_num, by rw [← HW.out, World.drewN_drewN], HE⟩
          case measure => simp [intOf]; omega
        · have k1 : (x != y) = true := by simpa using he
          have HE := Lib.hid (HNE.out he)
          clear HST HNE he
          go_wp2_with fail
          go_quiet (fail)
          go_wp2_with fail
          go_ret
          exact ⟨by rw [HE.out]; rfl, q + nq, by rw [← HW.out, World.drewN_drewN]⟩
      · obtain rfl : k = len := by omega
        have l1 : ¬ (k : Int) < (k : Int) := by omega
        have HE := Lib.hid (show decide (A = B) = true from decide_eq_true (eq_getD HL.out (fun j hj => HZ.out j (by rw [← HA.out.hl]; exact hj))))
        clear HZ
        generalize hw2 : w.drewN q = w2 at *
        have HW := Lib.hid hw2
        clear hw2
        go_wp2_with fail
        go_ret
        exact ⟨by rw [HE.out]; rfl, q, HW.out.symm⟩
  · have hne : decide (A = B) = false := decide_eq_false (fun e => hl (by rw [← hA.hl, ← hB.hl, e]))
    have k0 : ((len : Int) != (len' : Int)) = true := by rw [bne_iff_ne]; omega
    rw [hne]
    clear hA hB hne hl
    go_enter Try.func23, Try.ntmps23
    go_wp2
    go_ret
    exact ⟨rfl, 0, rfl⟩
end Go.Proofs.Ytpcdbnlljdfogaa
