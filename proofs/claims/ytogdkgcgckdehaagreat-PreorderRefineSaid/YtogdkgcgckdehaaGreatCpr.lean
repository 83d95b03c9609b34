/- preorder.Compare and preorder.ahead: the first criterion that decides. -/
import Derived.Test.YtogdkgcgckdehaaGreatFrc
import Derived.Test.YtogdkgcgckdehaaGreatBox
set_option linter.unusedSimpArgs false
set_option linter.unusedVariables false
namespace Go.Proofs.YtogdkgcgckdehaaGreat
open Go.RowKit Go.Sort

theorem rowC_stop {A B : List (Int × Int)} {k : Nat} (h : ∀ (j : Nat) (h1 : j < A.length) (h2 : j < B.length), j < k → cmpF (A[j]'h1) (B[j]'h2) = 0) (hk : A.length ≤ k ∨ B.length ≤ k) : rowC A B = 0 :=
  rowC_end A B fun j h1 h2 => h j h1 h2 (by omega)
theorem rowI_at {A B : List (Int × Int)} {k : Nat} {c : Int} (h1 : k < A.length) (h2 : k < B.length) (h : ∀ (j : Nat) (h1 : j < A.length) (h2 : j < B.length), j < k → cmpF (A[j]'h1) (B[j]'h2) = 0) (hc : cmpF (A[k]'h1) (B[k]'h2) = c) (hn : c ≠ 0) :
    rowC A B = c ∧ rowI A B = (k : Int) := by
  obtain ⟨e1, e2⟩ := rowC_drop A B k h1 h2 h (by rw [hc]; exact hn)
  rw [hc] at e1
  refine ⟨e1, ?_⟩
  unfold rowI
  rw [e1, if_neg hn, e2]
theorem rowI_none {A B : List (Int × Int)} (h : rowC A B = 0) : rowI A B = -1 := by unfold rowI; rw [if_pos h]
theorem min_le {m n k : Nat} (h : min m n = k) : k ≤ m ∧ k ≤ n ∧ (k = m ∨ k = n) := by omega
set_option maxHeartbeats 2000000 in
set_option maxRecDepth 100000 in
theorem compareR_any {a a' : Option Addr} {b b' off off' len len' cap cap' : Nat} {A B : List (Int × Int)} {w : World} (hA : SlF w a b off len cap A) (hB : SlF w a' b' off' len' cap' B) :
    Calls Tryz.prog 18 #[.slice a len cap, .slice a' len' cap'] w fun e w' => e = .returned (.tuple #[.int .i64 (rowC A B), .int .i64 (rowI A B)]) ∧ Grw w w' := by
  have HA := Lib.hid hA
  have HB := Lib.hid hB
  have c1 := hA.hcap
  have c2 := hB.hcap
  have m1 := hA.hmax
  have m2 := hB.hmax
  unfold maxLen at m1 m2
  clear hA hB
  obtain ⟨m, hm⟩ : ∃ m, min len len' = m := ⟨_, rfl⟩
  obtain ⟨q1, q2, q3⟩ := min_le hm
  have HM := Lib.hid (show min (len : Int) (len' : Int) = (m : Int) by omega)
  clear hm
  go_enter Tryz.func18, Tryz.ntmps18
  go_wp2_with fail
  rw [HM.out]
  clear HM
  go_loopw [13] (fun s13 wr => ∃ (k : Nat), k ≤ m ∧ s13 = .int .i64 (k : Int) ∧ Hid (Grw w wr) ∧ Hid (∀ (j : Nat) (h1 : j < A.length) (h2 : j < B.length), j < k → cmpF (A[j]'h1) (B[j]'h2) = 0)) (fun s13 _ => (m - (intOf s13)).toNat)
  case atStart => exact ⟨0, Nat.zero_le _, rfl, Lib.hid (Grw.refl w), Lib.hid (fun j _ _ h => absurd h (Nat.not_lt_zero j))⟩
  case round =>
    obtain ⟨k, hk, rfl, HG, HZ⟩ := hrel
    by_cases hlt : k < m
    · have l1 : (k : Int) < (m : Int) := by omega
      have l2 : (k : Int) < (len : Int) := by omega
      have l3 : (k : Int) < (len' : Int) := by omega
      obtain rfl := HA.out.ha (by omega)
      obtain rfl := HB.out.ha (by omega)
      have hkA : k < A.length := by rw [HA.out.hl]; omega
      have hkB : k < B.length := by rw [HB.out.hl]; omega
      obtain ⟨x1, x2⟩ := (HA.out.grw HG.out).cell k hkA
      obtain ⟨y1, y2⟩ := (HB.out.grw HG.out).cell k hkB
      have hbA := (HA.out.grw HG.out).hb (by omega)
      have hbB := (HB.out.grw HG.out).hb (by omega)
      have wA := HA.out.wf _ (List.getElem_mem hkA)
      have wB := HB.out.wf _ (List.getElem_mem hkB)
      have HN := Lib.hid (fun (c : Int) (hc : cmpF (A[k]'hkA) (B[k]'hkB) = c) (hn : c ≠ 0) => rowI_at hkA hkB HZ.out hc hn)
      have HE := Lib.hid (fun (hc : cmpF (A[k]'hkA) (B[k]'hkB) = 0) => (fun (j : Nat) (h1 : j < A.length) (h2 : j < B.length) (hj : j < k + 1) => by
        by_cases e : j = k
        · subst e; exact hc
        · exact HZ.out j h1 h2 (by omega) : ∀ (j : Nat) (h1 : j < A.length) (h2 : j < B.length), j < k + 1 → cmpF (A[j]'h1) (B[j]'h2) = 0))
      obtain ⟨p, hp⟩ : ∃ p, A[k]'hkA = p := ⟨_, rfl⟩
      obtain ⟨q, hq⟩ : ∃ q, B[k]'hkB = q := ⟨_, rfl⟩
      rw [hp] at x1 x2 wA HN HE
      rw [hq] at y1 y2 wB HN HE
      clear hp hq HZ
      obtain ⟨pn, pd⟩ := p
      obtain ⟨qn, qd⟩ := q
      simp only at x1 x2 y1 y2
      have C := fun W => cmp_any pn pd qn qd wA wB W
      rw [show cmpS pn pd qn qd = cmpF (pn, pd) (qn, qd) from rfl] at C
      obtain ⟨c, hc⟩ : ∃ c, cmpF (pn, pd) (qn, qd) = c := ⟨_, rfl⟩
      rw [hc] at C HN HE
      have HC := Lib.hid C
      have K1 := fun n os => cell_grown (w := wr) (a := ⟨b, off + k * 2, none⟩) hbA x1 n os
      have K2 := fun n os => cell_grown (w := wr) (a := ⟨b, off + k * 2 + 1, none⟩) hbA x2 n os
      have K3 := fun n os => cell_grown (w := wr) (a := ⟨b', off' + k * 2, none⟩) hbB y1 n os
      have K4 := fun n os => cell_grown (w := wr) (a := ⟨b', off' + k * 2 + 1, none⟩) hbB y2 n os
      clear C x1 x2 y1 y2 hbA hbB wA wB hkA hkB hc
      have mixed := mix
      by_cases h0 : c = 0
      · subst h0
        go_wp2_with fail
        go_quiet_grown ((go_at_call 35; exact quietG (HC.out _)))
        have HW := Lib.hid (HG.out.trans (grw_form wr nq osq))
        clear K1 K2 K3 K4 HG
        generalize grow (wr.drewN nq) osq = w2 at *
        go_wp2_with fail
        go_roundw
        case rel => exact ⟨k + 1, by omega, by go_num, HW, Lib.hid (by first | exact HE.out rfl | exact HE.out trivial)⟩
        case measure => simp [intOf]; omega
      · have k0 : (c != 0) = true := by simpa using h0
        have k1 : (c == 0) = false := by simpa using h0
        have H0 := Lib.hid h0
        clear h0
        go_wp2_with fail
        go_quiet_grown ((go_at_call 35; exact quietG (HC.out _)))
        have HW := Lib.hid (HG.out.trans (grw_form wr nq osq))
        clear K1 K2 K3 K4 HG
        generalize grow (wr.drewN nq) osq = w2 at *
        go_wp2_with fail
        go_ret2
        obtain ⟨e1, e2⟩ := HN.out c rfl H0.out
        exact ⟨by rw [e1, e2]; rfl, HW.out⟩
    · obtain rfl : k = m := by omega
      have l1 : ¬ (k : Int) < (k : Int) := by omega
      have e1 : rowC A B = 0 := rowC_stop HZ.out (by rw [HA.out.hl, HB.out.hl]; omega)
      have H1 := Lib.hid (show rowC A B = 0 ∧ rowI A B = -1 from ⟨e1, rowI_none e1⟩)
      clear e1 HZ
      go_wp2_with fail
      go_ret2
      exact ⟨by rw [H1.out.1, H1.out.2]; rfl, HG.out⟩
theorem compareR2_any {r s : Rw} {w : World} (h1 : r.ok w) (h2 : s.ok w) :
    Calls Tryz.prog 18 #[r.val, s.val] w fun e w' => e = .returned (.tuple #[.int .i64 (rowC r.L s.L), .int .i64 (rowI r.L s.L)]) ∧ Grw w w' := compareR_any h1.1 h2.1
set_option maxHeartbeats 1000000 in
theorem ahead_any {r s : Rw} {w : World} (h1 : r.ok w) (h2 : s.ok w) :
    Calls Tryz.prog 24 #[r.val, s.val] w fun e w' => e = .returned (.int .i64 (rowC s.L r.L)) ∧ Grw w w' := by
  have H := Lib.hid (compareR2_any h2 h1)
  clear h1 h2
  generalize rowC s.L r.L = c at *
  generalize rowI s.L r.L = i at *
  generalize r.val = u at *
  generalize s.val = v at *
  go_enter Tryz.func24, Tryz.ntmps24
  go_wp2_with fail
  refine H.out.mono ?_
  rintro e w1 ⟨rfl, hb⟩
  have HB := Lib.hid hb
  clear hb
  go_wp2
  go_ret
  exact ⟨rfl, HB.out⟩
end Go.Proofs.YtogdkgcgckdehaaGreat
