/- A contract of the library: slices.Repeat of one integer. -/
import Derived.Test.YtpcdbnlljdfogaaRis
import Derived.Laws.CopyOwn
set_option linter.unusedSimpArgs false
set_option linter.unusedVariables false
namespace Go.Proofs.Ytpcdbnlljdfogaa
open Go.RowKit

theorem int_info : (Try.prog.info? 3).map (·.size) = some 1 := by kernel_rfl
theorem rep_src {w : World} {g p : Nat} {Z : List Value} {t : TypeId} {v : Value} (hZ : w.heap[g]? = some (.cells Z.toArray t (0, 0))) (hZt : Z.take p = List.replicate p v) {j : Nat} (hj : j < p) : w.cell? ((⟨g, 0, none⟩ : Addr).add j) = some v := by
  have e : ((⟨g, 0, none⟩ : Addr).add j) = ⟨g, j, none⟩ := by unfold Addr.add; split <;> simp_all
  have h2 : Z[j]? = some v := by
    have := congrArg (fun l : List Value => l[j]?) hZt
    simpa [hj] using this
  rw [e]
  simp [World.cell?, hZ, h2]
theorem rep_splice {Z : List Value} {p k : Nat} {v : Value} (hZt : Z.take p = List.replicate p v) (hl : p ≤ Z.length) : (splice Z p (List.replicate k v)).take (p + k) = List.replicate (p + k) v := by
  unfold splice
  rw [hZt, ← List.append_assoc, List.replicate_append_replicate, List.take_append_of_le_length (by simp), List.take_of_length_le (by simp)]
set_option maxHeartbeats 2000000 in
set_option maxRecDepth 100000 in
theorem rpt_any (b n : Nat) (x : Int) (w : World) (hn : n ≤ 1000000) (h0 : 0 < n) (hb : w.cell? ⟨b, 0, none⟩ = some (.int .i64 x)) (hbl : b < w.heap.size) :
    Calls Try.prog 62 #[.slice (some ⟨b, 0, none⟩) 1 1, .int .i64 (n : Int)] w fun e w' => ∃ g, e = .returned (.slice (some ⟨g, 0, none⟩) n n) ∧ OwI w' w.heap.size (.slice (some ⟨g, 0, none⟩) n n) n (List.replicate n x) ∧ Below w.heap.size w w' := by
  obtain ⟨i0, hi, hz0, hz1, hz2⟩ := info_parts infoI
  obtain ⟨wA, hmk, hown, hgrow⟩ := run_make_full (P := Try.prog) w w.heap.size 22 3 i0 (.int .i64 0) 1 Try.underlying22 hi hz0 hz1 .i64 .i64 n (by rw [hz2]; omega) (by unfold maxLen; omega) (Nat.le_refl _)
  have hB1 : Below w.heap.size w wA := (Below.refl _ _).grown hgrow (Nat.le_refl _) (by simp)
  obtain ⟨cs, hrow, hcs⟩ : ∃ cs : Array Value, wA.heap[w.heap.size]? = some (.cells cs 3 (0, 0)) ∧ cs.size = n := by
    rcases hown.2 with ⟨h, _⟩ | ⟨g, cap, cur, h, _, h2, _, _, h5, _⟩
    · cases h
    · simp only [Value.slice.injEq, Option.some.injEq, Addr.mk.injEq, and_true, true_and] at h
      obtain ⟨rfl, rfl⟩ := h
      exact ⟨cur, h2, by simpa using h5⟩
  clear hown hgrow
  have hM := Try.bits_Mul 1 n (by omega) (by omega) w
  rw [Nat.one_mul, Nat.div_eq_of_lt (by omega), Nat.mod_eq_of_lt (by omega)] at hM
  have HM := Lib.hid hM
  clear hM
  have y1 : decide ((n : Int) < 0) = false := decide_eq_false (by omega)
  have y2 : IntKind.u64.wrap (n : Int) = (n : Int) := IntWalk.u64_in _ (by omega)
  have y3 : IntKind.i64.wrap (n : Int) = (n : Int) := IntWalk.i64_in _ (by omega)
  have y4 : decide ((n : Int) > 9223372036854775807) = false := decide_eq_false (by omega)
  have hsrc : ∀ j u, [Value.int .i64 x][j]? = some u → wA.cell? ((⟨b, 0, none⟩ : Addr).add j) = some u := by
    intro j u hj
    cases j with
    | zero => simp at hj; subst hj; exact (hB1.cell (p := ⟨b, 0, none⟩) hbl).trans hb
    | succ j => simp at hj
  have hone : ∀ u ∈ [Value.int .i64 x], u.oneCell' = true := by intro u hu; simp at hu; subst hu; rfl
  have hle' : 0 + [Value.int .i64 x].length ≤ cs.toList.length := by simp; omega
  obtain ⟨wB, hcp, hZ0, hB2⟩ : ∃ wB, (Builtin.copy_ #[22, 22] 3 #[.slice (some ⟨w.heap.size, 0, none⟩) n n, .slice (some ⟨b, 0, none⟩) 1 1]).run Try.prog wA = .ok (.int .i64 1) wB ∧ wB.heap[w.heap.size]? = some (.cells (splice cs.toList 0 [Value.int .i64 x]).toArray 3 (0, 0)) ∧ Below w.heap.size w wB := by
    have h := run_copy_row Try.prog wA 22 22 3 3 w.heap.size 0 n n ⟨b, 0, none⟩ 1 1 cs 3 [Value.int .i64 x] Try.underlying22 int_info hrow (Nat.min_eq_left (show 1 ≤ n by omega)).symm hsrc (by simp; omega) hone
    exact ⟨_, h, by simpa [splice] using setRow_heap wA w.heap.size _ _ _ _ hrow, below_setRow hB1 (Nat.le_refl _) _⟩
  have HZ0 := Lib.hid hZ0
  have HB2 := Lib.hid hB2
  have HZl := Lib.hid (show (splice cs.toList 0 [Value.int .i64 x]).length = n by rw [length_splice _ _ _ hle']; simpa using hcs)
  have HZt := Lib.hid (show (splice cs.toList 0 [Value.int .i64 x]).take 1 = [Value.int .i64 x] by simp [splice])
  clear hrow hsrc hB1 hZ0 hB2 hle' hcs
  go_enter Try.func62, Try.ntmps62
  go_wp2_with fail
  refine HM.out.mono ?_
  rintro e w2 ⟨rfl, hw2⟩
  obtain rfl := hw2.symm
  go_wp2_with fail
  clear hmk hcp HM
  go_loopw [8] (fun s8 wr => ∃ (p : Nat) (Z : List Value), s8 = .int .i64 (p : Int) ∧ 1 ≤ p ∧ p ≤ n ∧ Hid (wr.heap[w.heap.size]? = some (.cells Z.toArray 3 (0, 0))) ∧ Hid (Z.length = n) ∧ Hid (Z.take p = List.replicate p (Value.int .i64 x)) ∧ Hid (Below w.heap.size w wr)) (fun s8 _ => n - (intOf s8).toNat)
  case atStart => exact ⟨1, _, rfl, Nat.le_refl _, h0, HZ0, HZl, HZt, HB2⟩
  case round =>
    clear HZ0 HZl HZt HB2
    obtain ⟨p, Z, rfl, hp1, hp2, HZ, HZl, HZt, HBx⟩ := hrel
    have hZl := HZl.out
    by_cases hpn : p < n
    · have hlz : decide ((p : Int) < (n : Int)) = true := decide_eq_true (by omega)
      obtain ⟨k, hk⟩ : ∃ k, k = Nat.min p (n - p) := ⟨_, rfl⟩
      have hk1 : 1 ≤ k := by rw [hk]; exact Nat.le_min.2 ⟨by omega, by omega⟩
      have hk2 : k ≤ n - p := by rw [hk]; exact Nat.min_le_right _ _
      have hk3 : k ≤ p := by rw [hk]; exact Nat.min_le_left _ _
      have hkl : (List.replicate k (Value.int .i64 x)).length = Nat.min p (n - p) := by simp [hk]
      have hZd : wr.drew.heap[w.heap.size]? = some (.cells Z.toArray 3 (0, 0)) := HZ.out
      have hBd : Below w.heap.size w wr.drew := HBx.out.drew
      have hnp : ¬ n = p := by omega
      have hks : ∀ j u, (List.replicate k (Value.int .i64 x))[j]? = some u → wr.drew.cell? ((⟨w.heap.size, 0, none⟩ : Addr).add j) = some u := by
        intro j u hj
        have hj' : j < k := by
          have := (List.getElem?_eq_some_iff.1 hj).1
          simpa using this
        have e : u = Value.int .i64 x := by simp [hj'] at hj; exact hj.symm
        subst e
        exact rep_src hZd HZt.out (by omega)
      have HKL := Lib.hid hkl
      have hwk : IntKind.i64.wrap ((p : Int) + (k : Int)) = (p : Int) + (k : Int) := IntWalk.i64_in _ (by omega)
      clear hk hkl
      have hkf : p + (List.replicate k (Value.int .i64 x)).length ≤ Z.length := by simp; omega
      have hko : ∀ u ∈ List.replicate k (Value.int .i64 x), u.oneCell' = true := by intro u hu; rw [List.eq_of_mem_replicate hu]; rfl
      go_wp2_with fail
      go_region_law (refine step_copy_splice rfl (.tmp 41) (.tmp 44) 22 22 rfl 3 Try.underlying22 int_info (some ⟨w.heap.size, p, none⟩) (some ⟨w.heap.size, 0, none⟩) (n - p) (n - p) p n (by simp [Act.eval, Act.put, hnp]) (by simp [Act.eval, Act.put]) w.heap.size p Z 3 hZd (List.replicate k (Value.int .i64 x)) HKL.out (fun _ => ⟨rfl, _, rfl, hks⟩) hkf hko w.heap.size w hBd (Nat.le_refl _) ?_; intro w4 hg4 hb4)
      all_goals
        have hZ4 := Lib.hid hg4.out
        have hSl := Lib.hid ((length_splice Z p (List.replicate k (Value.int .i64 x)) hkf).trans hZl)
        have hSt := Lib.hid (rep_splice (k := k) HZt.out (show p ≤ Z.length by omega))
        have HB4 := Lib.hid hb4
        generalize splice Z p (List.replicate k (Value.int .i64 x)) = Z4 at *
        clear hg4 hb4
        simp [Act.put]
        go_wp2_with fail
        go_round
        case rel => exact ⟨p + k, Z4, by go_num, by omega, by omega, hZ4, hSl, hSt, HB4⟩
        case measure => simp [intOf]; omega
    · have hlz : decide ((p : Int) < (n : Int)) = false := decide_eq_false (by omega)
      obtain rfl : p = n := by omega
      have HF := Lib.hid (show OwI wr w.heap.size (.slice (some ⟨w.heap.size, 0, none⟩) p p) p (List.replicate p x) from
        ⟨by simp, .inr ⟨w.heap.size, p, Z.toArray, rfl, Nat.le_refl _, HZ.out, Nat.le_refl _, by unfold maxLen; omega, by simpa using hZl, by rw [Nat.mul_one, List.map_replicate]; exact HZt.out⟩⟩)
      go_wp2_with fail
      go_ret
      exact ⟨_, rfl, HF.out, HBx.out⟩
end Go.Proofs.Ytpcdbnlljdfogaa
