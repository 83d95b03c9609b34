/- The reference's Inversions. -/
import Derived.Test.YtflmjoikojfgaaaGreatInv
import Derived.Test.YtflmjoikojfgaaaGreatSam
set_option linter.unusedSimpArgs false
set_option linter.unusedVariables false
namespace Go.Proofs.YtflmjoikojfgaaaGreat
open Go.RowKit Go.Sort

/-- a world that has drawn more, no more -/
def Drw (w w' : World) : Prop := ∃ q, w.drewN q = w'
theorem Drw.refl (w : World) : Drw w w := ⟨0, rfl⟩
theorem Drw.step {w w' : World} (h : Drw w w') (n : Nat) : Drw w (w'.drewN n) := by
  obtain ⟨q, rfl⟩ := h
  exact ⟨q + n, by rw [World.drewN_drewN]⟩
theorem Drw.grw {w w' : World} (h : Drw w w') : Grw w w' := by
  obtain ⟨q, rfl⟩ := h
  exact (Grw.refl w).drewN q
theorem zip_at {A B : List Int} {k : Nat} (hA : k < A.length) (hB : k < B.length) : (A.zip B).drop k = (A.getD k 0, B.getD k 0) :: (A.zip B).drop (k + 1) := by
  have h : k < (A.zip B).length := by rw [List.length_zip]; omega
  rw [List.drop_eq_getElem_cons h]
  simp [List.getD, hA, hB]
set_option maxHeartbeats 4000000 in
set_option maxRecDepth 100000 in
theorem rinv_any {a a' : Option Addr} {b b' off off' len cap cap' : Nat} {A B : List Int} {w : World} (hA : SlI w a b off len cap A) (hB : SlI w a' b' off' len cap' B) (hz : len ≤ 1000) :
    Calls Tryz.prog 33 #[.slice a len cap, .slice a' len cap'] w fun e w' => e = .returned (.tuple #[.int .i64 (pcN oppP (A.zip B) : Nat), .int .i64 (pcN halfP (A.zip B) : Nat)]) ∧ Drw w w' := by
  have HA := Lib.hid hA
  have HB := Lib.hid hB
  have lA := hA.hl
  have lB := hB.hl
  have hca := hA.hcap
  have hcb := hB.hcap
  have hma := hA.hmax
  have hmb := hB.hmax
  unfold maxLen at hma hmb
  have hll : (A.zip B).length = len := by rw [List.length_zip]; omega
  have hb1 := pc_bound oppP (A.zip B)
  have hb2 := pc_bound halfP (A.zip B)
  rw [hll] at hb1 hb2
  have hb3 : len * len ≤ 1000 * 1000 := Nat.mul_le_mul hz hz
  have HAT := Lib.hid (fun (k : Nat) (hk : k < len) => zip_at (A := A) (B := B) (k := k) (by omega) (by omega))
  have HND := Lib.hid (show (A.zip B).drop len = [] from List.drop_eq_nil_of_le (by omega))
  clear hA hB
  obtain ⟨L, hL⟩ : ∃ L, A.zip B = L := ⟨_, rfl⟩
  rw [hL] at hb1 hb2 HAT HND ⊢
  obtain ⟨T1, hT1⟩ : ∃ T, pcN oppP L = T := ⟨_, rfl⟩
  obtain ⟨T2, hT2⟩ : ∃ T, pcN halfP L = T := ⟨_, rfl⟩
  rw [hT1] at hb1 ⊢
  rw [hT2] at hb2 ⊢
  have HT1 := Lib.hid hT1
  have HT2 := Lib.hid hT2
  have bT1 : T1 ≤ 1000000 := by omega
  have bT2 : T2 ≤ 1000000 := by omega
  clear hT1 hT2 hL hll hb1 hb2 hb3
  go_enter Tryz.func33, Tryz.ntmps33
  go_wp2_with fail
  go_loopw [6, 7, 8] (fun s6 s7 s8 wr => ∃ (i t1 t2 : Nat), i ≤ len ∧ s6 = .int .i64 (t1 : Int) ∧ s7 = .int .i64 (t2 : Int) ∧ s8 = .int .i64 (i : Int) ∧ t1 + pcN oppP (L.drop i) = T1 ∧ t2 + pcN halfP (L.drop i) = T2 ∧ Hid (Drw w wr)) (fun _ _ s8 _ => (len - (intOf s8)).toNat)
  case atStart => exact ⟨0, 0, 0, Nat.zero_le _, rfl, rfl, rfl, by rw [List.drop_zero, Nat.zero_add]; exact HT1.out, by rw [List.drop_zero, Nat.zero_add]; exact HT2.out, Lib.hid (Drw.refl w)⟩
  case round =>
    obtain ⟨i, t1, t2, hi, rfl, rfl, rfl, e1, e2, HD⟩ := hrel
    by_cases hlt : i < len
    · have l1 : (i : Int) < (len : Int) := by omega
      obtain rfl := HA.out.ha (by omega)
      obtain rfl := HB.out.ha (by omega)
      have X1 := Lib.hid (fun (W : World) (hW : Drw w W) => (show W.cell? ⟨b, off + i, none⟩ = some (.int .i64 (A.getD i 0)) by
        have := (HA.out.grw hW.grw).cell i (by omega)
        simpa [List.getD, show i < A.length by omega] using this))
      have X2 := Lib.hid (fun (W : World) (hW : Drw w W) => (show W.cell? ⟨b', off' + i, none⟩ = some (.int .i64 (B.getD i 0)) by
        have := (HB.out.grw hW.grw).cell i (by omega)
        simpa [List.getD, show i < B.length by omega] using this))
      rw [HAT.out i hlt, pcN] at e1 e2
      have E1 := Lib.hid e1
      have E2 := Lib.hid e2
      generalize A.getD i 0 = p1 at *
      generalize B.getD i 0 = p2 at *
      have bt1 : t1 ≤ T1 := by omega
      have bt2 : t2 ≤ T2 := by omega
      clear e1 e2
      go_wp2_with fail
      go_loopw [6, 7, 9] (fun s6 s7 s9 wi => ∃ (k u1 u2 : Nat), i < k ∧ k ≤ len ∧ s6 = .int .i64 (u1 : Int) ∧ s7 = .int .i64 (u2 : Int) ∧ s9 = .int .i64 (k : Int) ∧ u1 + ((L.drop k).countP (oppP (p1, p2)) + pcN oppP (L.drop (i + 1))) = T1 ∧ u2 + ((L.drop k).countP (halfP (p1, p2)) + pcN halfP (L.drop (i + 1))) = T2 ∧ Hid (Drw w wi)) (fun _ _ s9 _ => (len - (intOf s9)).toNat)
      case atStart => exact ⟨i + 1, t1, t2, by omega, by omega, rfl, rfl, by go_num, E1.out, E2.out, HD⟩
      case round =>
        clear HD E1 E2 bt1 bt2
        obtain ⟨k, u1, u2, hik, hk, rfl, rfl, rfl, e1, e2, HD⟩ := hrel
        by_cases hltk : k < len
        · have l2 : (k : Int) < (len : Int) := by omega
          have x1 := X1.out _ HD.out
          have x2 := X2.out _ HD.out
          have y1 : wr.cell? ⟨b, off + k, none⟩ = some (.int .i64 (A.getD k 0)) := by
            have := (HA.out.grw HD.out.grw).cell k (by omega)
            simpa [List.getD, show k < A.length by omega] using this
          have y2 : wr.cell? ⟨b', off' + k, none⟩ = some (.int .i64 (B.getD k 0)) := by
            have := (HB.out.grw HD.out.grw).cell k (by omega)
            simpa [List.getD, show k < B.length by omega] using this
          rw [HAT.out k hltk, List.countP_cons] at e1 e2
          generalize A.getD k 0 = q1 at *
          generalize B.getD k 0 = q2 at *
          have bu1 : u1 ≤ T1 := by omega
          have bu2 : u2 ≤ T2 := by omega
          rcases Int.lt_trichotomy p1 q1 with g1 | g1 | g1 <;> rcases Int.lt_trichotomy p2 q2 with g2 | g2 | g2
          · have f11 : decide (p1 < q1) = true := decide_eq_true (by omega)
            have f12 : decide (q1 < p1) = false := decide_eq_false (by omega)
            have f14 : decide (p1 > q1) = false := f12
            have f13 : (p1 == q1) = false := by rw [beq_eq_false_iff_ne]; omega
            have f21 : decide (p2 < q2) = true := decide_eq_true (by omega)
            have f22 : decide (q2 < p2) = false := decide_eq_false (by omega)
            have f24 : decide (p2 > q2) = false := f22
            have f23 : (p2 == q2) = false := by rw [beq_eq_false_iff_ne]; omega
            have hop : oppP (p1, p2) (q1, q2) = false := by unfold oppP; rw [Bool.eq_iff_iff]; simp only [Bool.or_eq_true, Bool.and_eq_true, decide_eq_true_eq, Bool.false_eq_true, iff_true, iff_false]; omega
            have hhf : halfP (p1, p2) (q1, q2) = false := by simp [halfP, show ¬ p1 = q1 by omega, show ¬ p2 = q2 by omega]
            rw [hop] at e1
            rw [hhf] at e2
            simp only [if_true, if_false, Bool.false_eq_true, Nat.add_zero] at e1 e2
            clear hop hhf
            go_wp2_with fail
            go_quiet (fail)
            go_wp2_with fail
            go_quiet (fail)
            go_wp2_with fail
            go_roundw
            case rel => exact ⟨k + 1, u1, u2, by omega, by omega, by go_num, by go_num, by go_num, by omega, by omega, Lib.hid (HD.out.step _)⟩
            case measure => simp [intOf]; omega
          · subst g2
            have f11 : decide (p1 < q1) = true := decide_eq_true (by omega)
            have f12 : decide (q1 < p1) = false := decide_eq_false (by omega)
            have f14 : decide (p1 > q1) = false := f12
            have f13 : (p1 == q1) = false := by rw [beq_eq_false_iff_ne]; omega
            have f21 : decide (p2 < p2) = false := decide_eq_false (by omega)
            have f22 : decide (p2 < p2) = false := decide_eq_false (by omega)
            have f24 : decide (p2 > p2) = false := f22
            have f23 : (p2 == p2) = true := by simp
            have hop : oppP (p1, p2) (q1, p2) = false := by unfold oppP; rw [Bool.eq_iff_iff]; simp only [Bool.or_eq_true, Bool.and_eq_true, decide_eq_true_eq, Bool.false_eq_true, iff_true, iff_false]; omega
            have hhf : halfP (p1, p2) (q1, p2) = true := by simp [halfP, show ¬ p1 = q1 by omega]
            rw [hop] at e1
            rw [hhf] at e2
            simp only [if_true, if_false, Bool.false_eq_true, Nat.add_zero] at e1 e2
            clear hop hhf
            go_wp2_with fail
            go_quiet (fail)
            go_wp2_with fail
            go_quiet (fail)
            go_wp2_with fail
            go_roundw
            case rel => exact ⟨k + 1, u1, u2 + 1, by omega, by omega, by go_num, by go_num, by go_num, by omega, by omega, Lib.hid (HD.out.step _)⟩
            case measure => simp [intOf]; omega
          · have f11 : decide (p1 < q1) = true := decide_eq_true (by omega)
            have f12 : decide (q1 < p1) = false := decide_eq_false (by omega)
            have f14 : decide (p1 > q1) = false := f12
            have f13 : (p1 == q1) = false := by rw [beq_eq_false_iff_ne]; omega
            have f21 : decide (p2 < q2) = false := decide_eq_false (by omega)
            have f22 : decide (q2 < p2) = true := decide_eq_true (by omega)
            have f24 : decide (p2 > q2) = true := f22
            have f23 : (p2 == q2) = false := by rw [beq_eq_false_iff_ne]; omega
            have hop : oppP (p1, p2) (q1, q2) = true := by unfold oppP; rw [Bool.eq_iff_iff]; simp only [Bool.or_eq_true, Bool.and_eq_true, decide_eq_true_eq, Bool.false_eq_true, iff_true, iff_false]; omega
            have hhf : halfP (p1, p2) (q1, q2) = false := by simp [halfP, show ¬ p1 = q1 by omega, show ¬ p2 = q2 by omega]
            rw [hop] at e1
            rw [hhf] at e2
            simp only [if_true, if_false, Bool.false_eq_true, Nat.add_zero] at e1 e2
            clear hop hhf
            go_wp2_with fail
            go_quiet (fail)
            go_wp2_with fail
            go_quiet (fail)
            go_wp2_with fail
            go_roundw
            case rel => exact ⟨k + 1, u1 + 1, u2, by omega, by omega, by go_num, by go_num, by go_num, by omega, by omega, Lib.hid (HD.out.step _)⟩
            case measure => simp [intOf]; omega
          · subst g1
            have f11 : decide (p1 < p1) = false := decide_eq_false (by omega)
            have f12 : decide (p1 < p1) = false := decide_eq_false (by omega)
            have f14 : decide (p1 > p1) = false := f12
            have f13 : (p1 == p1) = true := by simp
            have f21 : decide (p2 < q2) = true := decide_eq_true (by omega)
            have f22 : decide (q2 < p2) = false := decide_eq_false (by omega)
            have f24 : decide (p2 > q2) = false := f22
            have f23 : (p2 == q2) = false := by rw [beq_eq_false_iff_ne]; omega
            have hop : oppP (p1, p2) (p1, q2) = false := by unfold oppP; rw [Bool.eq_iff_iff]; simp only [Bool.or_eq_true, Bool.and_eq_true, decide_eq_true_eq, Bool.false_eq_true, iff_true, iff_false]; omega
            have hhf : halfP (p1, p2) (p1, q2) = true := by simp [halfP, show ¬ p2 = q2 by omega]
            rw [hop] at e1
            rw [hhf] at e2
            simp only [if_true, if_false, Bool.false_eq_true, Nat.add_zero] at e1 e2
            clear hop hhf
            go_wp2_with fail
            go_quiet (fail)
            go_wp2_with fail
            go_quiet (fail)
            go_wp2_with fail
            go_roundw
            case rel => exact ⟨k + 1, u1, u2 + 1, by omega, by omega, by go_num, by go_num, by go_num, by omega, by omega, Lib.hid (HD.out.step _)⟩
            case measure => simp [intOf]; omega
          · subst g1
            subst g2
            have f11 : decide (p1 < p1) = false := decide_eq_false (by omega)
            have f12 : decide (p1 < p1) = false := decide_eq_false (by omega)
            have f14 : decide (p1 > p1) = false := f12
            have f13 : (p1 == p1) = true := by simp
            have f21 : decide (p2 < p2) = false := decide_eq_false (by omega)
            have f22 : decide (p2 < p2) = false := decide_eq_false (by omega)
            have f24 : decide (p2 > p2) = false := f22
            have f23 : (p2 == p2) = true := by simp
            have hop : oppP (p1, p2) (p1, p2) = false := by unfold oppP; rw [Bool.eq_iff_iff]; simp only [Bool.or_eq_true, Bool.and_eq_true, decide_eq_true_eq, Bool.false_eq_true, iff_true, iff_false]; omega
            have hhf : halfP (p1, p2) (p1, p2) = false := by simp [halfP]
            rw [hop] at e1
            rw [hhf] at e2
            simp only [if_true, if_false, Bool.false_eq_true, Nat.add_zero] at e1 e2
            clear hop hhf
            go_wp2_with fail
            go_quiet (fail)
            go_wp2_with fail
            go_quiet (fail)
            go_wp2_with fail
            go_roundw
            case rel => exact ⟨k + 1, u1, u2, by omega, by omega, by go_num, by go_num, by go_num, by omega, by omega, Lib.hid (HD.out.step _)⟩
            case measure => simp [intOf]; omega
          · subst g1
            have f11 : decide (p1 < p1) = false := decide_eq_false (by omega)
            have f12 : decide (p1 < p1) = false := decide_eq_false (by omega)
            have f14 : decide (p1 > p1) = false := f12
            have f13 : (p1 == p1) = true := by simp
            have f21 : decide (p2 < q2) = false := decide_eq_false (by omega)
            have f22 : decide (q2 < p2) = true := decide_eq_true (by omega)
            have f24 : decide (p2 > q2) = true := f22
            have f23 : (p2 == q2) = false := by rw [beq_eq_false_iff_ne]; omega
            have hop : oppP (p1, p2) (p1, q2) = false := by unfold oppP; rw [Bool.eq_iff_iff]; simp only [Bool.or_eq_true, Bool.and_eq_true, decide_eq_true_eq, Bool.false_eq_true, iff_true, iff_false]; omega
            have hhf : halfP (p1, p2) (p1, q2) = true := by simp [halfP, show ¬ p2 = q2 by omega]
            rw [hop] at e1
            rw [hhf] at e2
            simp only [if_true, if_false, Bool.false_eq_true, Nat.add_zero] at e1 e2
            clear hop hhf
            go_wp2_with fail
            go_quiet (fail)
            go_wp2_with fail
            go_quiet (fail)
            go_wp2_with fail
            go_roundw
            case rel => exact ⟨k + 1, u1, u2 + 1, by omega, by omega, by go_num, by go_num, by go_num, by omega, by omega, Lib.hid (HD.out.step _)⟩
            case measure => simp [intOf]; omega
          · have f11 : decide (p1 < q1) = false := decide_eq_false (by omega)
            have f12 : decide (q1 < p1) = true := decide_eq_true (by omega)
            have f14 : decide (p1 > q1) = true := f12
            have f13 : (p1 == q1) = false := by rw [beq_eq_false_iff_ne]; omega
            have f21 : decide (p2 < q2) = true := decide_eq_true (by omega)
            have f22 : decide (q2 < p2) = false := decide_eq_false (by omega)
            have f24 : decide (p2 > q2) = false := f22
            have f23 : (p2 == q2) = false := by rw [beq_eq_false_iff_ne]; omega
            have hop : oppP (p1, p2) (q1, q2) = true := by unfold oppP; rw [Bool.eq_iff_iff]; simp only [Bool.or_eq_true, Bool.and_eq_true, decide_eq_true_eq, Bool.false_eq_true, iff_true, iff_false]; omega
            have hhf : halfP (p1, p2) (q1, q2) = false := by simp [halfP, show ¬ p1 = q1 by omega, show ¬ p2 = q2 by omega]
            rw [hop] at e1
            rw [hhf] at e2
            simp only [if_true, if_false, Bool.false_eq_true, Nat.add_zero] at e1 e2
            clear hop hhf
            go_wp2_with fail
            go_quiet (fail)
            go_wp2_with fail
            go_quiet (fail)
            go_wp2_with fail
            go_roundw
            case rel => exact ⟨k + 1, u1 + 1, u2, by omega, by omega, by go_num, by go_num, by go_num, by omega, by omega, Lib.hid (HD.out.step _)⟩
            case measure => simp [intOf]; omega
          · subst g2
            have f11 : decide (p1 < q1) = false := decide_eq_false (by omega)
            have f12 : decide (q1 < p1) = true := decide_eq_true (by omega)
            have f14 : decide (p1 > q1) = true := f12
            have f13 : (p1 == q1) = false := by rw [beq_eq_false_iff_ne]; omega
            have f21 : decide (p2 < p2) = false := decide_eq_false (by omega)
            have f22 : decide (p2 < p2) = false := decide_eq_false (by omega)
            have f24 : decide (p2 > p2) = false := f22
            have f23 : (p2 == p2) = true := by simp
            have hop : oppP (p1, p2) (q1, p2) = false := by unfold oppP; rw [Bool.eq_iff_iff]; simp only [Bool.or_eq_true, Bool.and_eq_true, decide_eq_true_eq, Bool.false_eq_true, iff_true, iff_false]; omega
            have hhf : halfP (p1, p2) (q1, p2) = true := by simp [halfP, show ¬ p1 = q1 by omega]
            rw [hop] at e1
            rw [hhf] at e2
            simp only [if_true, if_false, Bool.false_eq_true, Nat.add_zero] at e1 e2
            clear hop hhf
            go_wp2_with fail
            go_quiet (fail)
            go_wp2_with fail
            go_quiet (fail)
            go_wp2_with fail
            go_roundw
            case rel => exact ⟨k + 1, u1, u2 + 1, by omega, by omega, by go_num, by go_num, by go_num, by omega, by omega, Lib.hid (HD.out.step _)⟩
            case measure => simp [intOf]; omega
          · have f11 : decide (p1 < q1) = false := decide_eq_false (by omega)
            have f12 : decide (q1 < p1) = true := decide_eq_true (by omega)
            have f14 : decide (p1 > q1) = true := f12
            have f13 : (p1 == q1) = false := by rw [beq_eq_false_iff_ne]; omega
            have f21 : decide (p2 < q2) = false := decide_eq_false (by omega)
            have f22 : decide (q2 < p2) = true := decide_eq_true (by omega)
            have f24 : decide (p2 > q2) = true := f22
            have f23 : (p2 == q2) = false := by rw [beq_eq_false_iff_ne]; omega
            have hop : oppP (p1, p2) (q1, q2) = false := by unfold oppP; rw [Bool.eq_iff_iff]; simp only [Bool.or_eq_true, Bool.and_eq_true, decide_eq_true_eq, Bool.false_eq_true, iff_true, iff_false]; omega
            have hhf : halfP (p1, p2) (q1, q2) = false := by simp [halfP, show ¬ p1 = q1 by omega, show ¬ p2 = q2 by omega]
            rw [hop] at e1
            rw [hhf] at e2
            simp only [if_true, if_false, Bool.false_eq_true, Nat.add_zero] at e1 e2
            clear hop hhf
            go_wp2_with fail
            go_quiet (fail)
            go_wp2_with fail
            go_quiet (fail)
            go_wp2_with fail
            go_roundw
            case rel => exact ⟨k + 1, u1, u2, by omega, by omega, by go_num, by go_num, by go_num, by omega, by omega, Lib.hid (HD.out.step _)⟩
            case measure => simp [intOf]; omega
        · obtain rfl : k = len := by omega
          have l2 : ¬ (k : Int) < (k : Int) := by omega
          rw [HND.out, List.countP_nil, Nat.zero_add] at e1 e2
          have bu1 : u1 ≤ T1 := by omega
          have bu2 : u2 ≤ T2 := by omega
          go_wp2_with fail
          go_roundw
          case rel => exact ⟨i + 1, u1, u2, by omega, rfl, rfl, by go_num, e1, e2, HD⟩
          case measure => simp [intOf]; omega
    · obtain rfl : i = len := by omega
      have l1 : ¬ (i : Int) < (i : Int) := by omega
      rw [HND.out, pcN, Nat.add_zero] at e1 e2
      subst e1 e2
      clear HT1 HT2
      go_wp2_with fail
      go_ret2
      exact ⟨rfl, HD.out⟩
end Go.Proofs.YtflmjoikojfgaaaGreat
