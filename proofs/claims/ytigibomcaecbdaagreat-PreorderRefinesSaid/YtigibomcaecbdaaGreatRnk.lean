/- The reference's Ranking. -/
import Derived.Test.YtigibomcaecbdaaGreatPla
import Derived.Test.YtigibomcaecbdaaGreatSam
set_option linter.unusedSimpArgs false
set_option linter.unusedVariables false
namespace Go.Proofs.YtigibomcaecbdaaGreat
open Go.RowKit Go.Sort

/-- how many numbers are less than x -/
def ltN (P : List Int) (x : Int) : Nat := P.countP fun y => decide (y < x)
theorem bef_lt (P : List Int) (x : Int) : befN cmpI P x = ltN P x := by
  unfold befN ltN
  congr 1
  funext y
  exact cmpI_less y x
theorem lt_step {P : List Int} {x : Int} {k : Nat} (hk : k < P.length) : ltN (P.take (k + 1)) x = ltN (P.take k) x + (if P.getD k 0 < x then 1 else 0) := by
  have e : P.getD k 0 = P[k] := by simp [List.getD, hk]
  rw [List.take_succ_eq_append_getElem hk, e]
  unfold ltN
  rw [List.countP_append, List.countP_singleton]
  by_cases h : P[k] < x <;> simp [h]
theorem ltN_le (P : List Int) (x : Int) : ltN P x ≤ P.length := List.countP_le_length
theorem plc_getD {P : List Int} {j : Nat} (h : j < P.length) : (plcL cmpI P).getD j 0 = 1 + (ltN P (P.getD j 0) : Int) := by
  unfold plcL
  simp only [List.getD, List.getElem?_map, List.getElem?_eq_getElem h, Option.map_some, Option.getD_some, bef_lt]
theorem rnk_yes {P : List Int} (h : ∀ j, j < P.length → P.getD j 0 = 1 + (ltN P (P.getD j 0) : Int)) : rnkB P = true :=
  decide_eq_true (eq_getD (plcL_len cmpI P).symm (fun j hj => by rw [plc_getD hj]; exact h j hj))
theorem rnk_no {P : List Int} {j : Nat} (hj : j < P.length) (h : P.getD j 0 ≠ 1 + (ltN P (P.getD j 0) : Int)) : rnkB P = false :=
  decide_eq_false (fun e => h (by rw [← plc_getD hj, ← e]))
theorem wrap_less {x : Int} {n : Nat} (h1 : -9223372036854775808 ≤ x) (h2 : x ≤ 9223372036854775807) (hn : n ≤ 1000000000000) : (IntKind.i64.wrap (x - 1) != (n : Int)) = !decide (x = 1 + (n : Int)) := by
  by_cases h : x = -9223372036854775808
  · subst h
    have : IntKind.i64.wrap (-9223372036854775808 - 1) = 9223372036854775807 := by decide
    rw [this, decide_eq_false (by omega)]
    simp only [Bool.not_false, bne_iff_ne]
    omega
  · rw [IntWalk.i64_in _ (by omega)]
    by_cases e : x = 1 + (n : Int)
    · rw [decide_eq_true e]; simp; omega
    · rw [decide_eq_false e]; simp; omega
/-- every number within its kind -/
def InI (P : List Int) : Prop := ∀ x ∈ P, -9223372036854775808 ≤ x ∧ x ≤ 9223372036854775807
theorem InI.get {P : List Int} (h : InI P) {k : Nat} (hk : k < P.length) : -9223372036854775808 ≤ P.getD k 0 ∧ P.getD k 0 ≤ 9223372036854775807 := by
  have e : P.getD k 0 = P[k] := by simp [List.getD, hk]
  rw [e]
  exact h _ (List.getElem_mem hk)
set_option maxHeartbeats 2000000 in
set_option maxRecDepth 100000 in
theorem rnkr_any {a : Option Addr} {b off len cap : Nat} {P : List Int} {w : World} (h : SlI w a b off len cap P) (hI : InI P) (hlen : len ≤ 1000000) :
    Calls Tryz.prog 27 #[.slice a len cap] w fun e w' => e = .returned (.bool (rnkB P)) ∧ ∃ q, w' = w.drewN q := by
  have HA := Lib.hid h
  have HI := Lib.hid hI
  have hl := h.hl
  have hcap := h.hcap
  have hmax := h.hmax
  unfold maxLen at hmax
  clear h hI
  go_enter Tryz.func27, Tryz.ntmps27
  go_wp2_with fail
  go_loopw [3] (fun s3 wr => ∃ (i q : Nat), i ≤ len ∧ s3 = .int .i64 (i : Int) ∧ w.drewN q = wr ∧ Hid (∀ j, j < i → P.getD j 0 = 1 + (ltN P (P.getD j 0) : Int))) (fun s3 _ => (len - (intOf s3)).toNat)
  case atStart => exact ⟨0, 0, Nat.zero_le _, rfl, rfl, Lib.hid (fun j h => absurd h (Nat.not_lt_zero j))⟩
  case round =>
    obtain ⟨i, q, hi, rfl, rfl, HZ⟩ := hrel
    by_cases hlt : i < len
    · have l1 : (i : Int) < (len : Int) := by omega
      obtain rfl := HA.out.ha (by omega)
      have hiA : i < P.length := by omega
      have x1 : ∀ n, (w.drewN n).cell? ⟨b, off + i, none⟩ = some (.int .i64 (P.getD i 0)) := fun n => by
        have := HA.out.cell i hiA
        simpa [List.getD, hiA] using this
      obtain ⟨r1, r2⟩ := HI.out.get hiA
      have HX1 := Lib.hid x1
      have HYES := Lib.hid (fun (he : P.getD i 0 = 1 + (ltN P (P.getD i 0) : Int)) => (show ∀ j, j < i + 1 → P.getD j 0 = 1 + (ltN P (P.getD j 0) : Int) from fun j hj => by
        by_cases e : j = i
        · subst e; exact he
        · exact HZ.out j (by omega)))
      have HNO := Lib.hid (fun he => rnk_no hiA he)
      obtain ⟨x, hx⟩ : ∃ x, P.getD i 0 = x := ⟨_, rfl⟩
      rw [hx] at r1 r2 HX1 HYES HNO
      clear hx x1 HZ
      go_wp2_with fail
      go_loopw [4, 5] (fun s4 s5 wi => ∃ (k p : Nat), k ≤ len ∧ s4 = .int .i64 (ltN (P.take k) x : Nat) ∧ s5 = .int .i64 (k : Int) ∧ w.drewN p = wi) (fun _ s5 _ => (len - (intOf s5)).toNat)
      case atStart => exact ⟨0, q, Nat.zero_le _, rfl, rfl, rfl⟩
      case round =>
        obtain ⟨k, p, hk, rfl, rfl, rfl⟩ := hrel
        have n1 := ltN_le (P.take k) x
        have n2 : (P.take k).length ≤ k := List.length_take_le _ _
        by_cases hltk : k < len
        · have l2 : (k : Int) < (len : Int) := by omega
          have hkA : k < P.length := by omega
          have x1 := HX1.out p
          have x2 : (w.drewN p).cell? ⟨b, off + k, none⟩ = some (.int .i64 (P.getD k 0)) := by
            have := HA.out.cell k hkA
            simpa [List.getD, hkA] using this
          have HST := Lib.hid (lt_step (x := x) hkA)
          generalize P.getD k 0 = y at *
          obtain ⟨m, hm⟩ : ∃ m, ltN (P.take k) x = m := ⟨_, rfl⟩
          rw [hm] at HST n1 ⊢
          generalize hw2 : w.drewN p = w2 at *
          have HW := Lib.hid hw2
          have bm : m ≤ 1000000 := by omega
          clear hw2 hm n1 n2
          by_cases he : y < x
          · have HS2 := Lib.hid (show ltN (P.take (k + 1)) x = m + 1 by rw [HST.out, if_pos he])
            clear HST
            go_wp2_with fail
            go_quiet (fail)
            go_wp2_with fail
            go_roundw
            case rel => exact ⟨k + 1, p + nq, by omega, by rw [HS2.out]; go_num, by go_num, by rw [← HW.out, World.drewN_drewN]⟩
            case measure => simp [intOf]; omega
          · have HS2 := Lib.hid (show ltN (P.take (k + 1)) x = m by rw [HST.out, if_neg he]; rfl)
            clear HST
            go_wp2_with fail
            go_quiet (fail)
            go_wp2_with fail
            go_roundw
            case rel => exact ⟨k + 1, p + nq, by omega, by rw [HS2.out], by go_num, by rw [← HW.out, World.drewN_drewN]⟩
            case measure => simp [intOf]; omega
        · obtain rfl : k = len := by omega
          have l2 : ¬ (k : Int) < (k : Int) := by omega
          have x1 := HX1.out p
          have e1 : P.take k = P := List.take_of_length_le (by omega)
          rw [e1]
          rw [e1] at n1
          obtain ⟨m, hm⟩ : ∃ m, ltN P x = m := ⟨_, rfl⟩
          rw [hm] at HYES HNO n1 ⊢
          have hwl := wrap_less (x := x) (n := m) r1 r2 (by omega)
          generalize hw2 : w.drewN p = w2 at *
          have HW := Lib.hid hw2
          clear hw2 hm n1 n2 e1
          by_cases he : x = 1 + (m : Int)
          · rw [decide_eq_true he, Bool.not_true] at hwl
            have hwn : (wrap64 (x - 1) != (m : Int)) = false := by rw [← IntWalk.i64_left]; exact hwl
            have HE := Lib.hid (HYES.out he)
            clear HYES HNO
            go_wp2_with fail
            all_goals
              go_roundw
              case rel => exact ⟨i + 1, p, by omega, by go_num, HW.out, HE⟩
              case measure => simp [intOf]; omega
          · rw [decide_eq_false he, Bool.not_false] at hwl
            have hwn : (wrap64 (x - 1) != (m : Int)) = true := by rw [← IntWalk.i64_left]; exact hwl
            have HE := Lib.hid (HNO.out he)
            clear HYES HNO he
            go_wp2_with fail
            go_ret
            exact ⟨by rw [HE.out]; rfl, p, HW.out.symm⟩
    · obtain rfl : i = len := by omega
      have l1 : ¬ (i : Int) < (i : Int) := by omega
      have HE := Lib.hid (rnk_yes (fun j hj => HZ.out j (by omega)))
      clear HZ
      generalize hw2 : w.drewN q = w2 at *
      have HW := Lib.hid hw2
      clear hw2
      go_wp2_with fail
      go_ret
      exact ⟨by rw [HE.out]; rfl, q, HW.out.symm⟩
end Go.Proofs.YtigibomcaecbdaaGreat
