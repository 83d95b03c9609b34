/- A contract of the library: bytes.Repeat at one byte. -/
import Derived.Test.YtljeialaefmbmaaDoorWriteB
import Derived.Test.YtljeialaefmbmaaDoorShelf
import Derived.Lib.MakeNoZero
import Derived.Laws.CopyOwn
import Derived.Lib.LazyBuf
set_option linter.unusedSimpArgs false
set_option linter.unusedVariables false
namespace Go.Proofs.YtljeialaefmbmaaDoor
open Go.RowKit

theorem lt_of_cell {w : World} {b o : Nat} {v : Value} (h : w.cell? ⟨b, o, none⟩ = some v) : b < w.heap.size := by
  rcases Nat.lt_or_ge b w.heap.size with h' | h'
  · exact h'
  · simp [World.cell?, Array.getElem?_eq_none h'] at h
theorem byte_info : (Tryd.prog.info? 5).map (·.size) = some 1 := by kernel_rfl
theorem zero_call (n : Nat) (hn : n ≤ 281474976710656) (w : World) : ∃ cs : Array Value, (callFunc 35 #[.int .i64 (n : Int)]).run Tryd.prog w = .ok (.value (.slice (some ⟨w.heap.size, 0, none⟩) n cs.size)) (w.drew.drew.alloc (.cells cs 5)) ∧ n ≤ cs.size := by
  obtain ⟨cs, hrun, hle, _⟩ := Lib.run_makeNoZero (P := Tryd.prog) w #[3] 53 5 Tryd.underlying53 n hn
  refine ⟨cs, ?_, hle⟩
  rw [run_callFunc_extern Tryd.func35 (by kernel_rfl) (by kernel_rfl) (by kernel_rfl) (e := Extern.BytealgMakeNoZero.makeNoZero #[3] #[53]) (by kernel_rfl), hrun]
  rfl

theorem rep_src {w : World} {g p : Nat} {Z : List Value} {t : TypeId} {v : Value} (hZ : w.heap[g]? = some (.cells Z.toArray t (0, 0))) (hZt : Z.take p = List.replicate p v) {j : Nat} (hj : j < p) : w.cell? ((⟨g, 0, none⟩ : Addr).add j) = some v := by
  have e : ((⟨g, 0, none⟩ : Addr).add j) = ⟨g, j, none⟩ := by unfold Addr.add; split <;> simp_all
  have h2 : Z[j]? = some v := by
    have := congrArg (fun l : List Value => l[j]?) hZt
    simpa [hj] using this
  rw [e]
  simp [World.cell?, hZ, h2]

theorem rep_splice {Z : List Value} {p k : Nat} {v : Value} (hZt : Z.take p = List.replicate p v) (hl : p ≤ Z.length) : (splice Z p (List.replicate k v)).take (p + k) = List.replicate (p + k) v := by
  unfold splice
  rw [hZt, ← List.append_assoc, List.replicate_append_replicate, List.take_append_of_le_length (by simp), List.take_of_length_le (by simp)]

theorem rep0_any (b : Nat) (w : World) :
    Calls Tryd.prog 27 #[.slice (some ⟨b, 0, none⟩) 1 1, .int .i64 0] w fun e w' => (∃ p, e = .returned (.slice p 0 0)) ∧ Below w.heap.size w w' := by
  go_enter Tryd.func27, Tryd.ntmps27
  go_wp2
  go_ret
  exact ⟨⟨_, rfl⟩, (by repeat (first | with_reducible exact Below.refl _ _ | (with_reducible refine Below.setCell ?_ (by first | exact Nat.le_refl _ | omega | (simp; done) | (simp; omega)) _) | (with_reducible refine Below.alloc ?_ (by first | exact Nat.le_refl _ | omega | (simp; done) | (simp; omega)) _) | with_reducible refine Below.drew ?_ | with_reducible refine bel_drewN ?_ _ | (with_reducible refine bel_by (by with_reducible assumption) (by first | exact Nat.le_refl _ | omega | (simp; done) | (simp; omega)) ?_)))⟩

set_option maxHeartbeats 2000000 in
set_option maxRecDepth 100000 in
theorem rep_any (b n : Nat) (v : Value) (w : World) (hn : n ≤ 1099511627776) (h0 : 0 < n) (hb : w.cell? ⟨b, 0, none⟩ = some v) (h1 : v.oneCell' = true) :
    Calls Tryd.prog 27 #[.slice (some ⟨b, 0, none⟩) 1 1, .int .i64 (n : Int)] w fun e w' => ∃ (g : Nat) (Z : List Value), e = .returned (.slice (some ⟨g, 0, none⟩) n n) ∧ w'.heap[g]? = some (.cells Z.toArray 5 (0, 0)) ∧ n ≤ Z.length ∧ Z.take n = List.replicate n v ∧ w.heap.size ≤ g ∧ Below w.heap.size w w' := by
  obtain ⟨cs, hz, hle⟩ := zero_call n (by omega) w
  have hM := Tryd.bits_Mul 1 n (by omega) (by omega) w
  rw [Nat.one_mul, Nat.div_eq_of_lt (by omega), Nat.mod_eq_of_lt (by omega)] at hM
  have HM := Lib.hid hM
  clear hM
  have y0 : ((n : Int) == 0) = false := by simp; omega
  have y1 : ¬ (n : Int) < 0 := by omega
  have y2 : IntKind.u64.wrap (n : Int) = (n : Int) := IntWalk.u64_in _ (by omega)
  have y3 : IntKind.i64.wrap (n : Int) = (n : Int) := IntWalk.i64_in _ (by omega)
  have y4 : ¬ (9223372036854775807 : Int) < (n : Int) := by omega
  go_enter Tryd.func27, Tryd.ntmps27
  go_upto_region 17 with (first | (go_at_call 34; refine HM.out.mono ?_; rintro e w2 ⟨rfl, hw2⟩; obtain rfl := hw2.symm))
  all_goals
    have hlt : b < w.heap.size := lt_of_cell hb
    have hB1 : Below w.heap.size w (w.alloc (.cells cs 5)).drew.drew := (by repeat (first | with_reducible exact Below.refl _ _ | (with_reducible refine Below.setCell ?_ (by first | exact Nat.le_refl _ | omega | (simp; done) | (simp; omega)) _) | (with_reducible refine Below.alloc ?_ (by first | exact Nat.le_refl _ | omega | (simp; done) | (simp; omega)) _) | with_reducible refine Below.drew ?_ | with_reducible refine bel_drewN ?_ _ | (with_reducible refine bel_by (by with_reducible assumption) (by first | exact Nat.le_refl _ | omega | (simp; done) | (simp; omega)) ?_)))
    have hrow : (w.alloc (.cells cs 5)).drew.drew.heap[w.heap.size]? = some (.cells cs 5 (0, 0)) := Deep.blk_alloc_new _ _
    have hsrc : ∀ j u, [v][j]? = some u → (w.alloc (.cells cs 5)).drew.drew.cell? ((⟨b, 0, none⟩ : Addr).add j) = some u := by
      intro j u hj
      cases j with
      | zero => simp at hj; subst hj; exact (hB1.cell (p := ⟨b, 0, none⟩) hlt).trans hb
      | succ j => simp at hj
    have hle' : 0 + [v].length ≤ cs.toList.length := by simp; omega
    have hone : ∀ u ∈ [v], u.oneCell' = true := by intro u hu; simp at hu; subst hu; exact h1
    generalize (w.alloc (.cells cs 5)).drew.drew = wA at *
    clear hz
    obtain ⟨wB, hcp, hZ0, hB2⟩ : ∃ wB, (Builtin.copy_ #[53, 53] 3 #[.slice (some ⟨w.heap.size, 0, none⟩) n n, .slice (some ⟨b, 0, none⟩) 1 1]).run Tryd.prog wA = .ok (.int .i64 1) wB ∧ wB.heap[w.heap.size]? = some (.cells (splice cs.toList 0 [v]).toArray 5 (0, 0)) ∧ Below w.heap.size w wB := by
      have h := run_copy_row Tryd.prog wA 53 53 3 5 w.heap.size 0 n n ⟨b, 0, none⟩ 1 1 cs 5 [v] Tryd.underlying53 byte_info hrow (Nat.min_eq_left (show 1 ≤ n by omega)).symm hsrc (by simp; omega) hone
      exact ⟨_, h, by simpa [splice] using setRow_heap wA w.heap.size _ _ _ _ hrow, below_setRow hB1 (Nat.le_refl _) _⟩
    clear hrow hsrc hB1
    go_cut [8, 10] (fun s8 s10 wx => ∃ (m : Nat) (Z : List Value), s8 = .int .i64 (m : Int) ∧ 1 ≤ m ∧ m ≤ 1099511627776 ∧ s10 = .int .i64 1 ∧ wx.heap[w.heap.size]? = some (.cells Z.toArray 5 (0, 0)) ∧ n ≤ Z.length ∧ Z.take 1 = [v] ∧ Below w.heap.size w wx)
    case first =>
      go_wp2
      go_meet
      first | refine ⟨8192, _, rfl, ?_, ?_, rfl, hZ0, ?_, ?_, hB2⟩ | refine ⟨n, _, rfl, ?_, ?_, rfl, hZ0, ?_, ?_, hB2⟩
      · omega
      · omega
      · rw [length_splice _ _ _ hle']; simp; omega
      · simp [splice]
    obtain ⟨m, Z, rfl, hm1, hm2, rfl, hZ, hZl, hZt, hBx⟩ := hcut
    go_wp2
    go_loopw [10, 11] (fun s10 s11 wr => ∃ (p : Nat) (Z : List Value), s10 = .int .i64 (p : Int) ∧ 1 ≤ p ∧ p ≤ n ∧ wr.heap[w.heap.size]? = some (.cells Z.toArray 5 (0, 0)) ∧ n ≤ Z.length ∧ Z.take p = List.replicate p v ∧ Below w.heap.size w wr) (fun s10 _ _ => n - (intOf s10).toNat)
    case atStart => exact ⟨1, Z, rfl, Nat.le_refl _, h0, hZ, hZl, hZt, hBx⟩
    case round =>
      clear hZ hZl hZt hBx
      obtain ⟨p, Z, rfl, hp1, hp2, hZ, hZl, hZt, hBx⟩ := hrel
      by_cases hpn : p < n
      · by_cases hmp : (m : Int) < (p : Int)
        · have hqp : m ≤ p := by omega
          have hmin : min (p : Int) (m : Int) = (m : Int) := by omega
          obtain ⟨k, hk⟩ : ∃ k, k = Nat.min m (n - p) := ⟨_, rfl⟩
          have hk1 : 1 ≤ k := by rw [hk]; exact Nat.le_min.2 ⟨by omega, by omega⟩
          have hk2 : k ≤ n - p := by rw [hk]; exact Nat.min_le_right _ _
          have hk3 : k ≤ m := by rw [hk]; exact Nat.min_le_left _ _
          have hkl : (List.replicate k v).length = Nat.min m (n - p) := by simp [hk]
          have hZd : wr.drew.heap[w.heap.size]? = some (.cells Z.toArray 5 (0, 0)) := hZ
          have hBd : Below w.heap.size w wr.drew := hBx.drew
          have hnp : ¬ n = p := by omega
          have hmn : m ≤ n := by omega
          have hks : ∀ j u, (List.replicate k v)[j]? = some u → wr.drew.cell? ((⟨w.heap.size, 0, none⟩ : Addr).add j) = some u := by
            intro j u hj
            have hj' : j < k := by
              have := (List.getElem?_eq_some_iff.1 hj).1
              simpa using this
            have e : u = v := by simp [hj'] at hj; exact hj.symm
            subst e
            exact rep_src hZd hZt (by omega)
          have HKL := Lib.hid hkl
          have hwk : IntKind.i64.wrap ((p : Int) + (k : Int)) = (p : Int) + (k : Int) := IntWalk.i64_in _ (by omega)
          clear hk hkl
          have hkf : p + (List.replicate k v).length ≤ Z.length := by simp; omega
          have hko : ∀ u ∈ List.replicate k v, u.oneCell' = true := by intro u hu; rw [List.eq_of_mem_replicate hu]; exact h1
          go_wp2_with fail
          go_region_law (refine step_copy_splice rfl (.tmp 70) (.tmp 73) 53 53 rfl 5 Tryd.underlying53 byte_info (some ⟨w.heap.size, p, none⟩) (some ⟨w.heap.size, 0, none⟩) (n - p) (n - p) m n (by simp [Act.eval, Act.put, hnp]) (by simp [Act.eval, Act.put]) w.heap.size p Z 5 hZd (List.replicate k v) HKL.out (fun _ => ⟨rfl, _, rfl, hks⟩) hkf hko w.heap.size w hBd (Nat.le_refl _) ?_; intro w4 hg4 hb4)
          all_goals
            have hZ4 := hg4.out
            have hSl := (length_splice Z p (List.replicate k v) hkf).trans rfl
            have hSt := rep_splice (k := k) hZt (show p ≤ Z.length by omega)
            generalize splice Z p (List.replicate k v) = Z4 at *
            clear hg4
            simp [Act.put]
            go_wp2
            go_round
            case rel => exact ⟨p + k, Z4, by go_num, by omega, by omega, hZ4, by omega, hSt, hb4⟩
            case measure => simp [intOf]; omega
        · have hqp : p ≤ p := Nat.le_refl _
          have hmin : min (p : Int) (m : Int) = (p : Int) := by omega
          obtain ⟨k, hk⟩ : ∃ k, k = Nat.min p (n - p) := ⟨_, rfl⟩
          have hk1 : 1 ≤ k := by rw [hk]; exact Nat.le_min.2 ⟨by omega, by omega⟩
          have hk2 : k ≤ n - p := by rw [hk]; exact Nat.min_le_right _ _
          have hk3 : k ≤ p := by rw [hk]; exact Nat.min_le_left _ _
          have hkl : (List.replicate k v).length = Nat.min p (n - p) := by simp [hk]
          have hZd : wr.drew.heap[w.heap.size]? = some (.cells Z.toArray 5 (0, 0)) := hZ
          have hBd : Below w.heap.size w wr.drew := hBx.drew
          have hnp : ¬ n = p := by omega
          have hks : ∀ j u, (List.replicate k v)[j]? = some u → wr.drew.cell? ((⟨w.heap.size, 0, none⟩ : Addr).add j) = some u := by
            intro j u hj
            have hj' : j < k := by
              have := (List.getElem?_eq_some_iff.1 hj).1
              simpa using this
            have e : u = v := by simp [hj'] at hj; exact hj.symm
            subst e
            exact rep_src hZd hZt (by omega)
          have HKL := Lib.hid hkl
          have hwk : IntKind.i64.wrap ((p : Int) + (k : Int)) = (p : Int) + (k : Int) := IntWalk.i64_in _ (by omega)
          clear hk hkl
          have hkf : p + (List.replicate k v).length ≤ Z.length := by simp; omega
          have hko : ∀ u ∈ List.replicate k v, u.oneCell' = true := by intro u hu; rw [List.eq_of_mem_replicate hu]; exact h1
          go_wp2_with fail
          go_region_law (refine step_copy_splice rfl (.tmp 70) (.tmp 73) 53 53 rfl 5 Tryd.underlying53 byte_info (some ⟨w.heap.size, p, none⟩) (some ⟨w.heap.size, 0, none⟩) (n - p) (n - p) p n (by simp [Act.eval, Act.put, hnp]) (by simp [Act.eval, Act.put]) w.heap.size p Z 5 hZd (List.replicate k v) HKL.out (fun _ => ⟨rfl, _, rfl, hks⟩) hkf hko w.heap.size w hBd (Nat.le_refl _) ?_; intro w4 hg4 hb4)
          all_goals
            have hZ4 := hg4.out
            have hSl := (length_splice Z p (List.replicate k v) hkf).trans rfl
            have hSt := rep_splice (k := k) hZt (show p ≤ Z.length by omega)
            generalize splice Z p (List.replicate k v) = Z4 at *
            clear hg4
            simp [Act.put]
            go_wp2
            go_round
            case rel => exact ⟨p + k, Z4, by go_num, by omega, by omega, hZ4, by omega, hSt, hb4⟩
            case measure => simp [intOf]; omega
      · obtain rfl : p = n := by omega
        go_wp2
        go_ret
        exact ⟨_, Z, rfl, hZ, hZl, hZt, Nat.le_refl _, hBx⟩
end Go.Proofs.YtljeialaefmbmaaDoor
