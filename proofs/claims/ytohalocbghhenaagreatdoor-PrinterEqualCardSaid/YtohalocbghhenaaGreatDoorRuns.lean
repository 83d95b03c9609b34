/- Contracts of layer 9: runLength, wordlike, numerals. -/
import Derived.Test.YtohalocbghhenaaGreatDoorTalW
set_option linter.unusedSimpArgs false
set_option linter.unusedVariables false
namespace Go.Proofs.YtohalocbghhenaaGreatDoor
open Go.RowKit

/-- how many bytes a text begins with of which p holds -/
def twN (p : UInt8 → Bool) (s : ByteArray) : Nat := (s.data.toList.takeWhile p).length
theorem twN_le (p : UInt8 → Bool) (s : ByteArray) : twN p s ≤ s.size := by
  unfold twN
  have := (List.takeWhile_sublist p (l := s.data.toList)).length_le
  simpa using this
theorem tw_get (p : UInt8 → Bool) : ∀ (l : List UInt8) (k : Nat), k < (l.takeWhile p).length → ∃ c, l[k]? = some c ∧ p c = true
  | [], k, h => by simp at h
  | c :: t, k, h => by
    by_cases hc : p c = true
    · rw [List.takeWhile_cons_of_pos hc] at h
      cases k with
      | zero => exact ⟨c, rfl, hc⟩
      | succ k =>
        obtain ⟨d, h1, h2⟩ := tw_get p t k (by simpa using h)
        exact ⟨d, by simpa using h1, h2⟩
    · rw [List.takeWhile_cons_of_neg hc] at h
      simp at h
theorem tw_end (p : UInt8 → Bool) : ∀ (l : List UInt8), (l.takeWhile p).length < l.length → ∃ c, l[(l.takeWhile p).length]? = some c ∧ p c = false
  | [], h => by simp at h
  | c :: t, h => by
    by_cases hc : p c = true
    · rw [List.takeWhile_cons_of_pos hc] at h ⊢
      obtain ⟨d, h1, h2⟩ := tw_end p t (by simpa using h)
      exact ⟨d, by simpa using h1, h2⟩
    · rw [List.takeWhile_cons_of_neg hc]
      exact ⟨c, rfl, by simpa using hc⟩
theorem tw_take (p : UInt8 → Bool) (l : List UInt8) : l.take (l.takeWhile p).length = l.takeWhile p ∧ l.drop (l.takeWhile p).length = l.dropWhile p := by
  induction l with
  | nil => simp
  | cons c t ih =>
    by_cases hc : p c = true
    · rw [List.takeWhile_cons_of_pos hc, List.dropWhile_cons_of_pos hc]
      simp [ih.1, ih.2]
    · rw [List.takeWhile_cons_of_neg hc, List.dropWhile_cons_of_neg hc]
      simp
theorem twN_yes (p : UInt8 → Bool) (s : ByteArray) (k : Nat) (hk : k < s.size) (h : k < twN p s) : p (s[k]'hk) = true := by
  obtain ⟨c, h1, h2⟩ := tw_get p _ k h
  rw [list_get s k hk] at h1
  rw [Option.some.inj h1]
  exact h2
theorem twN_no (p : UInt8 → Bool) (s : ByteArray) (h : twN p s < s.size) : p (s[twN p s]'h) = false := by
  obtain ⟨c, h1, h2⟩ := tw_end p s.data.toList (by simpa [twN] using h)
  have h3 : s.data.toList[twN p s]? = some c := h1
  rw [list_get s _ h] at h3
  rw [Option.some.inj h3]
  exact h2
theorem twN_ext (p : UInt8 → Bool) (s : ByteArray) : s.extract 0 (twN p s) = bs (s.data.toList.takeWhile p) := by
  refine (bs_of ?_).symm
  rw [ext_list, List.drop_zero, Nat.sub_zero]
  exact (tw_take p _).1
theorem runB_kind (c : UInt8) (h : runB c = true) : (kB c : Int) = 4 ∨ (kB c : Int) = 5 ∨ (kB c : Int) = 6 ∨ (kB c : Int) = 7 := by
  unfold runB at h; simp at h; omega
theorem runB_not (c : UInt8) (h : runB c = false) : (((kB c : Int) == 4) = false) ∧ (((kB c : Int) == 5) = false) ∧ (((kB c : Int) == 6) = false) ∧ (((kB c : Int) == 7) = false) := by
  unfold runB at h; simp at h; simp; omega
set_option maxHeartbeats 1000000 in
set_option maxRecDepth 100000 in
theorem runLength_any (s : ByteArray) (hs : s.size ≤ 1000000000) (w : World) (hT : Tabs w) : Calls Tryz.prog 118 #[.string s] w fun e w' => e = .returned (.int .i64 (twN runB s : Nat)) ∧ w = w' := by
  have HT := Lib.hid hT
  have HY := Lib.hid (twN_yes runB s)
  have HN := Lib.hid (twN_no runB s)
  have hle := twN_le runB s
  obtain ⟨r, hr⟩ : ∃ r, twN runB s = r := ⟨_, rfl⟩
  rw [hr] at hle HY ⊢
  have HN2 := Lib.hid (show ∀ h : r < s.size, runB (s[r]'h) = false by subst hr; exact HN.out)
  clear hT hr HN
  go_enter Tryz.func118, Tryz.ntmps118
  go_wp2_with fail
  go_loop [6] (fun s6 => ∃ k : Nat, k ≤ r ∧ s6 = .int .i64 (k : Int)) (fun s6 => (s.size - (intOf s6)).toNat)
  case atStart => exact ⟨0, Nat.zero_le _, rfl⟩
  case round =>
    obtain ⟨k, hk, rfl⟩ := hrel
    by_cases hlt : k < s.size
    · have hl : (k : Int) < (s.size : Int) := by omega
      by_cases hkr : k < r
      · rcases runB_kind _ (HY.out k hlt hkr) with h | h | h | h
        all_goals
          have HK := Lib.hid (kind_is _ _ h _ HT.out)
          clear h
          go_wp2_with fail
          refine HK.out.mono ?_
          rintro e w1 ⟨rfl, rfl⟩
          go_wp2_with fail
          go_round
          case rel => exact ⟨k + 1, by omega, by go_num⟩
          case measure => simp [intOf]; omega
      · obtain rfl : k = r := by omega
        obtain ⟨n4, n5, n6, n7⟩ := runB_not _ (HN2.out hlt)
        have HK := Lib.hid (kind_any (s[k]'hlt) _ HT.out)
        generalize (kB (s[k]'hlt) : Int) = q at *
        go_wp2_with fail
        refine HK.out.mono ?_
        rintro e w1 ⟨rfl, rfl⟩
        go_wp2_with fail
        go_ret
        exact ⟨rfl, rfl⟩
    · obtain rfl : k = r := by omega
      obtain rfl : k = s.size := by omega
      have hl : ¬ (s.size : Int) < (s.size : Int) := by omega
      go_wp2_with fail
      go_ret
      exact ⟨rfl, rfl⟩
/-- a word, counted -/
def wordC (l : List UInt8) : Bool := decide (0 < cK 4 l) && (cK 4 l + cK 5 l + cK 6 l == (l.length : Int))
theorem cnt_three (l : List UInt8) : cK 4 l + cK 5 l + cK 6 l = ((l.countP wrdB : Nat) : Int) := by
  unfold cK
  induction l with
  | nil => rfl
  | cons c t ih =>
    simp only [List.countP_cons]
    have hw : wrdB c = (kB c == 4 || kB c == 5 || kB c == 6) := by
      unfold wrdB
      rw [Bool.eq_iff_iff]; simp; omega
    rw [hw]
    by_cases h4 : kB c = 4
    · simp [h4]; omega
    · by_cases h5 : kB c = 5
      · simp [h5]; omega
      · by_cases h6 : kB c = 6
        · simp [h6]; omega
        · simp [h4, h5, h6]; omega
theorem wordC_eq (l : List UInt8) : wordC l = wordB l := by
  unfold wordC wordB
  congr 1
  · rw [Bool.eq_iff_iff, decide_eq_true_eq, List.any_eq_true]
    unfold cK
    rw [show ((0 : Int) < ((l.countP fun c => kB c == 4 : Nat) : Int)) ↔ 0 < l.countP fun c => kB c == 4 by omega, List.countP_pos_iff]
    rfl
  · rw [cnt_three, Bool.eq_iff_iff, beq_iff_eq, List.all_eq_true]
    rw [show (((l.countP wrdB : Nat) : Int) = (l.length : Int)) ↔ l.countP wrdB = l.length by omega, List.countP_eq_length]
theorem digs_cnt (l : List UInt8) : (cK 5 l == (l.length : Int)) = l.all digB := by
  unfold cK
  rw [Bool.eq_iff_iff, beq_iff_eq, List.all_eq_true]
  rw [show (((l.countP fun c => kB c == 5 : Nat) : Int) = (l.length : Int)) ↔ (l.countP fun c => kB c == 5) = l.length by omega, List.countP_eq_length]
  rfl
set_option maxHeartbeats 1000000 in
set_option maxRecDepth 100000 in
theorem wordlike_any (s : ByteArray) (hs : s.size ≤ 1000000000) (w : World) (hT : Tabs w) : Calls Tryz.prog 101 #[.string s] w fun e w' => e = .returned (.bool (wordB s.data.toList)) ∧ Below w.heap.size w w' := by
  have HA := Lib.hid (tally_any s hs w hT)
  clear hT
  have HW := Lib.hid (wordC_eq s.data.toList)
  unfold wordC cKs at *
  have b4 := cK_le 4 s.data.toList
  have b5 := cK_le 5 s.data.toList
  have b6 := cK_le 6 s.data.toList
  rw [list_size] at b4 b5 b6 HW
  generalize cK 4 s.data.toList = c4 at *
  generalize cK 5 s.data.toList = c5 at *
  generalize cK 6 s.data.toList = c6 at *
  generalize wordB s.data.toList = r at *
  by_cases h1 : 0 < c4
  · have k1 : decide (c4 > 0) = true := by simpa using h1
    have k2 : (c4 + c5 + c6 == (s.size : Int)) = r := by have := HW.out; simpa [h1] using this
    clear HW
    go_enter Tryz.func101, Tryz.ntmps101
    go_wp2_with fail
    refine HA.out.mono ?_
    rintro e w1 ⟨rfl, hb⟩
    have hz1 := bsize hb
    go_wp2_with fail
    go_ret
    exact ⟨rfl, (by repeat (first | with_reducible exact Below.refl _ _ | (with_reducible refine Below.setCell ?_ (by first | exact Nat.le_refl _ | omega | (simp; done) | (simp; omega)) _) | (with_reducible refine Below.alloc ?_ (by first | exact Nat.le_refl _ | omega | (simp; done) | (simp; omega)) _) | with_reducible refine Below.drew ?_ | with_reducible refine bel_drewN ?_ _ | (with_reducible refine bel_by (by with_reducible assumption) (by first | exact Nat.le_refl _ | omega | (simp; done) | (simp; omega)) ?_)))⟩
  · have k1 : decide (c4 > 0) = false := by simpa using h1
    have k2 : r = false := by have := HW.out; simpa [h1] using this.symm
    clear HW
    subst k2
    go_enter Tryz.func101, Tryz.ntmps101
    go_wp2_with fail
    refine HA.out.mono ?_
    rintro e w1 ⟨rfl, hb⟩
    have hz1 := bsize hb
    go_wp2_with fail
    go_ret
    exact ⟨rfl, (by repeat (first | with_reducible exact Below.refl _ _ | (with_reducible refine Below.setCell ?_ (by first | exact Nat.le_refl _ | omega | (simp; done) | (simp; omega)) _) | (with_reducible refine Below.alloc ?_ (by first | exact Nat.le_refl _ | omega | (simp; done) | (simp; omega)) _) | with_reducible refine Below.drew ?_ | with_reducible refine bel_drewN ?_ _ | (with_reducible refine bel_by (by with_reducible assumption) (by first | exact Nat.le_refl _ | omega | (simp; done) | (simp; omega)) ?_)))⟩
theorem ix5 (c0 c1 c2 c3 c4 c5 c6 c7 c8 : Int) (w : World) : (Instr.index 138 (.agg #[.int .i64 c0, .int .i64 c1, .int .i64 c2, .int .i64 c3, .int .i64 c4, .int .i64 c5, .int .i64 c6, .int .i64 c7, .int .i64 c8]) (.int .i64 5)).run Tryz.prog w = .ok (.int .i64 c5) w := by
  simp [Instr.index, asIntOf, run_underlying Tryz.underlying138, run_underlying Tryz.underlying3, go_sem]
  done
set_option maxHeartbeats 1000000 in
set_option maxRecDepth 100000 in
theorem numerals_any (s : ByteArray) (hs : s.size ≤ 1000000000) (w : World) (hT : Tabs w) : Calls Tryz.prog 129 #[.string s] w fun e w' => e = .returned (.bool (digsB s.data.toList)) ∧ Below w.heap.size w w' := by
  have HA := Lib.hid (tally_any s hs w hT)
  clear hT
  have HW := Lib.hid (digs_cnt s.data.toList)
  unfold cKs at *
  have b5 := cK_le 5 s.data.toList
  rw [list_size] at b5 HW
  have HD := Lib.hid (show digsB s.data.toList = (!s.data.toList.isEmpty && s.data.toList.all digB) from rfl)
  generalize cK 5 s.data.toList = c5 at *
  generalize hall : s.data.toList.all digB = r at *
  generalize digsB s.data.toList = q at *
  by_cases h1 : s.data.toList = []
  · have k0 : s.toList = [] := by rw [empty_list]; exact h1
    have k1 : (s.toList != []) = false := by rw [k0]; rfl
    have k3 : (!s.toList.isEmpty) = false := by rw [k0]; rfl
    have k2 : q = false := by rw [HD.out, h1]; rfl
    clear HW HD hall h1
    subst k2
    go_enter Tryz.func129, Tryz.ntmps129
    go_wp2_with fail
    go_ret
    exact ⟨rfl, (by repeat (first | with_reducible exact Below.refl _ _ | (with_reducible refine Below.setCell ?_ (by first | exact Nat.le_refl _ | omega | (simp; done) | (simp; omega)) _) | (with_reducible refine Below.alloc ?_ (by first | exact Nat.le_refl _ | omega | (simp; done) | (simp; omega)) _) | with_reducible refine Below.drew ?_ | with_reducible refine bel_drewN ?_ _ | (with_reducible refine bel_by (by with_reducible assumption) (by first | exact Nat.le_refl _ | omega | (simp; done) | (simp; omega)) ?_)))⟩
  · have k0 : ¬ s.toList = [] := by rw [empty_list]; exact h1
    have k1 : (s.toList != []) = true := by simpa using k0
    have k3 : (!s.toList.isEmpty) = true := by
      cases hh : s.toList with
      | nil => exact absurd hh k0
      | cons c t => rfl
    have k4 : s.data.toList.isEmpty = false := by
      cases hh : s.data.toList with
      | nil => exact absurd hh h1
      | cons c t => rfl
    have k2 : q = r := by rw [HD.out, k4]; rfl
    have HR := Lib.hid HW.out
    clear HW HD hall h1 k4
    subst k2
    have hix := ix5
    go_enter Tryz.func129, Tryz.ntmps129
    go_wp2_with fail
    refine HA.out.mono ?_
    rintro e w1 ⟨rfl, hb⟩
    have hz1 := bsize hb
    go_wp2_with fail
    go_ret
    have HR1 := HR.out
    exact ⟨by first | rfl | (rw [← HR1]; rfl), (by repeat (first | with_reducible exact Below.refl _ _ | (with_reducible refine Below.setCell ?_ (by first | exact Nat.le_refl _ | omega | (simp; done) | (simp; omega)) _) | (with_reducible refine Below.alloc ?_ (by first | exact Nat.le_refl _ | omega | (simp; done) | (simp; omega)) _) | with_reducible refine Below.drew ?_ | with_reducible refine bel_drewN ?_ _ | (with_reducible refine bel_by (by with_reducible assumption) (by first | exact Nat.le_refl _ | omega | (simp; done) | (simp; omega)) ?_)))⟩
end Go.Proofs.YtohalocbghhenaaGreatDoor
