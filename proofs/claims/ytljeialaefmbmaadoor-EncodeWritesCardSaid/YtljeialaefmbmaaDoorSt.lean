/- Steps of a Writer: plain facts, and the contracts of Small and write. -/
import Derived.Test.YtljeialaefmbmaaDoorNumE
import Derived.Test.YtljeialaefmbmaaDoorBut
import Derived.Test.YtljeialaefmbmaaDoorSl
set_option linter.unusedSimpArgs false
set_option linter.unusedVariables false
namespace Go.Proofs.YtljeialaefmbmaaDoor
open Go.RowKit

def stepL (x : Stp) (l : List ByteArray) (o : Nat) : List ByteArray :=
  if x.k = 0 then encI x.n :: l else if x.k = 1 then encT x.s :: l else if x.k = 2 then ⟨#[108]⟩ :: l else if x.k = 3 then (if o = 0 then l else ⟨#[101]⟩ :: l) else l
def stepN (x : Stp) (o : Nat) : Nat := if x.k = 2 then o + 1 else if x.k = 3 then o - 1 else o
def runF (p : List ByteArray × Nat) (xs : List Stp) : List ByteArray × Nat := xs.foldl (fun p x => (stepL x p.1 p.2, stepN x p.2)) p
def run (xs : List Stp) : List ByteArray × Nat := runF ([], 0) xs
def sumS (xs : List Stp) : Nat := (xs.map fun x => x.s.size).sum
theorem run_snoc {xs : List Stp} {k : Nat} (h : k < xs.length) : run (xs.take (k + 1)) = (stepL xs[k] (run (xs.take k)).1 (run (xs.take k)).2, stepN xs[k] (run (xs.take k)).2) := by
  unfold run runF
  rw [List.take_succ_eq_append_getElem h, List.foldl_append]
  rfl
theorem run_rest (xs : List Stp) (k : Nat) : run xs = runF (run (xs.take k)) (xs.drop k) := by
  unfold run runF
  rw [← List.foldl_append, List.take_append_drop]
theorem sumS_snoc {xs : List Stp} {k : Nat} (h : k < xs.length) : sumS (xs.take (k + 1)) = sumS (xs.take k) + xs[k].s.size := by
  unfold sumS
  rw [List.take_succ_eq_append_getElem h, List.map_append, List.sum_append]
  rfl
theorem sumS_le (xs : List Stp) (k : Nat) : sumS (xs.take k) ≤ sumS xs := by
  have e : sumS xs = sumS (xs.take k) + sumS (xs.drop k) := by
    unfold sumS
    rw [← List.sum_append, ← List.map_append, List.take_append_drop]
  omega
theorem sumLen_cons (t : ByteArray) (l : List ByteArray) : sumLen (t :: l) = t.size + sumLen l := by simp [sumLen]
theorem step_size {x : Stp} (ok : StpOk x) (hx : x.s.size ≤ 4611686018427387904) (l : List ByteArray) (o : Nat) : sumLen (stepL x l o) ≤ sumLen l + 22 + x.s.size := by
  unfold stepL
  split
  · rw [sumLen_cons]; have := encI_size ok.n0 ok.n1; omega
  · split
    · rw [sumLen_cons]; have := encT_size hx; omega
    · split
      · rw [sumLen_cons, sz1]; omega
      · split
        · split
          · omega
          · rw [sumLen_cons, sz1]; omega
        · omega
theorem encI_pos (n : Int) : 0 < (encI n).size := by
  unfold encI
  rw [ByteArray.size_append, ByteArray.size_append, sz1, sz1]
  omega
theorem encT_pos (s : ByteArray) : 0 < (encT s).size := by
  unfold encT
  rw [ByteArray.size_append, ByteArray.size_append, sz1]
  omega
theorem step_ne {x : Stp} {l : List ByteArray} {o : Nat} (h : ∀ t ∈ l, 0 < t.size) : ∀ t ∈ stepL x l o, 0 < t.size := by
  intro t ht
  unfold stepL at ht
  split at ht
  · rcases List.mem_cons.1 ht with rfl | ht
    · exact encI_pos _
    · exact h t ht
  · split at ht
    · rcases List.mem_cons.1 ht with rfl | ht
      · exact encT_pos _
      · exact h t ht
    · split at ht
      · rcases List.mem_cons.1 ht with rfl | ht
        · rw [sz1]; omega
        · exact h t ht
      · split at ht
        · split at ht
          · exact h t ht
          · rcases List.mem_cons.1 ht with rfl | ht
            · rw [sz1]; omega
            · exact h t ht
        · exact h t ht
theorem run_bd {xs : List Stp} (ok : ∀ x ∈ xs, StpOk x) (hs : sumS xs ≤ 2000) : ∀ k, k ≤ xs.length → sumLen (run (xs.take k)).1 ≤ 22 * k + sumS (xs.take k) ∧ (run (xs.take k)).2 ≤ k ∧ ∀ t ∈ (run (xs.take k)).1, 0 < t.size := by
  intro k
  induction k with
  | zero => intro _; refine ⟨by simp [run, runF, sumLen], by simp [run, runF], by simp [run, runF]⟩
  | succ k ih =>
    intro hk
    obtain ⟨h1, h2, h3⟩ := ih (by omega)
    have hle := sumS_le xs (k + 1)
    rw [run_snoc hk, sumS_snoc hk]
    rw [sumS_snoc hk] at hle
    have hok := ok _ (List.getElem_mem hk)
    have := step_size hok (by omega) (run (xs.take k)).1 (run (xs.take k)).2
    refine ⟨by simp only; omega, ?_, step_ne h3⟩
    simp only
    unfold stepN
    split
    · omega
    · split <;> omega
theorem step_join (x : Stp) (l : List ByteArray) (o : Nat) : ∃ r, joinR (stepL x l o) = joinR l ++ r := by
  unfold stepL
  split
  · exact ⟨_, rfl⟩
  · split
    · exact ⟨_, rfl⟩
    · split
      · exact ⟨_, rfl⟩
      · split
        · split
          · exact ⟨[], by simp⟩
          · exact ⟨_, rfl⟩
        · exact ⟨[], by simp⟩
theorem runF_join : ∀ (xs : List Stp) (p : List ByteArray × Nat), ∃ r, joinR (runF p xs).1 = joinR p.1 ++ r := by
  intro xs
  induction xs with
  | nil => intro p; exact ⟨[], by simp [runF]⟩
  | cons x xs ih =>
    intro p
    obtain ⟨r1, h1⟩ := step_join x p.1 p.2
    obtain ⟨r2, h2⟩ := ih (stepL x p.1 p.2, stepN x p.2)
    refine ⟨r1 ++ r2, ?_⟩
    have e : runF p (x :: xs) = runF (stepL x p.1 p.2, stepN x p.2) xs := rfl
    rw [e, h2, h1, List.append_assoc]
theorem size_data (l : List ByteArray) (o : Nat) : (dataS l o).size = sumLen l + o := by
  unfold dataS
  rw [size_mk, List.length_append, joinR_len, List.length_replicate]
theorem arr_append (x y : List UInt8) : (⟨(x ++ y).toArray⟩ : ByteArray) = (⟨x.toArray⟩ : ByteArray) ++ ⟨y.toArray⟩ := by
  apply ByteArray.ext
  simp
/-- a piece stands where it was appended -/
theorem data_agr {xs : List Stp} {k : Nat} (hk : k < xs.length) {t : ByteArray} (ht : (run (xs.take (k + 1))).1 = t :: (run (xs.take k)).1) : Agr t 0 (dataS (run xs).1 (run xs).2) (sumLen (run (xs.take k)).1) t.size := by
  obtain ⟨r, hr⟩ := runF_join (xs.drop (k + 1)) (run (xs.take (k + 1)))
  rw [← run_rest xs (k + 1), ht] at hr
  have e : dataS (run xs).1 (run xs).2 = ((⟨(joinR (run (xs.take k)).1).toArray⟩ : ByteArray) ++ t) ++ ⟨(r ++ List.replicate (run xs).2 101).toArray⟩ := by
    unfold dataS
    rw [hr, joinR, List.append_assoc, arr_append, arr_append]
  have g1 := agr_right (⟨(joinR (run (xs.take k)).1).toArray⟩ : ByteArray) t
  have g2 := agr_left ((⟨(joinR (run (xs.take k)).1).toArray⟩ : ByteArray) ++ t) ⟨(r ++ List.replicate (run xs).2 101).toArray⟩
  rw [← e] at g2
  rw [size_mk (joinR (run (xs.take k)).1), joinR_len] at g1
  have hsz : ((⟨(joinR (run (xs.take k)).1).toArray⟩ : ByteArray) ++ t).size = sumLen (run (xs.take k)).1 + t.size := by
    rw [ByteArray.size_append, size_mk (joinR (run (xs.take k)).1), joinR_len]
  rw [hsz] at g2
  have g3 := g2.drop (j := sumLen (run (xs.take k)).1) (by omega)
  rw [Nat.zero_add] at g3
  exact g1.trans (g3.le (by omega))
/-- the ends of the open lists stand at the end -/
theorem data_ends (l : List ByteArray) (o j : Nat) (hj : j < o) : at8 (dataS l o) (sumLen l + j) = 101 := by
  unfold dataS
  rw [at8_mk (l := joinR l ++ List.replicate o 101) (by rw [List.length_append, joinR_len, List.length_replicate]; omega), List.getElem_append_right (by rw [joinR_len]; omega)]
  simp

theorem small_f1 {a : Option Addr} {b off len cap : Nat} {xs : List Stp} {w : World} (h : SlT w a b off len cap xs) (hn : 60 < len) :
    Calls Tryd.prog 5 #[.slice a len cap, .int .i64 60] w fun e w' => e = .returned (.bool false) ∧ w = w' := by
  have hcap := h.hcap
  have hmax := h.hmax
  unfold maxLen at hmax
  clear h
  go_enter Tryd.func5, Tryd.ntmps5
  go_wp2
  go_ret
  exact ⟨rfl, rfl⟩
set_option maxHeartbeats 4000000 in
set_option maxRecDepth 100000 in
theorem small_any {a : Option Addr} {b off len cap : Nat} {xs : List Stp} {w : World} (h : SlT w a b off len cap xs) (hn : ¬ 60 < len) :
    Calls Tryd.prog 5 #[.slice a len cap, .int .i64 60] w fun e w' => e = .returned (.bool (decide (sumS xs ≤ 2000))) ∧ w = w' := by
  have hcap := h.hcap
  have hmax := h.hmax
  unfold maxLen at hmax
  have HL := Lib.hid h.hl
  have HSL := Lib.hid h
  have HT : Hid (∀ k, sumS (xs.take k) ≤ sumS xs) := Lib.hid (sumS_le xs)
  obtain ⟨R, hR⟩ : ∃ R, R = decide (sumS xs ≤ 2000) := ⟨_, rfl⟩
  rw [← hR]
  have HR := Lib.hid hR
  have x0b : decide ((60 : Int) < (len : Int)) = false := decide_eq_false (by omega)
  clear hR h
  go_enter Tryd.func5, Tryd.ntmps5
  go_wp2
  go_loop [5, 6] (fun s5 s6 => ∃ (k m : Nat), s5 = .int .i64 (m : Int) ∧ s6 = .int .i64 (k : Int) ∧ k ≤ len ∧ m ≤ 2000 ∧ Hid (m + sumS (xs.take k) = 2000)) (fun _ s6 => len - (intOf s6).toNat)
  case atStart => exact ⟨0, 2000, rfl, rfl, Nat.zero_le _, Nat.le_refl _, Lib.hid (by simp [sumS])⟩
  case round =>
    obtain ⟨k, m, rfl, rfl, hk, hm, hsum⟩ := hrel
    by_cases hlt : k < len
    · have hkL : k < xs.length := by have := HL.out; omega
      obtain rfl := HSL.out.ha (by omega)
      obtain ⟨c0, c1, c2⟩ := HSL.out.cell k hkL
      have hok := HSL.out.ok _ (List.getElem_mem hkL)
      have HS1 := Lib.hid (sumS_snoc hkL)
      have hsz := hok.sz
      unfold maxLen at hsz
      have HT1 := Lib.hid (HT.out (k + 1))
      generalize xs[k] = x at *
      obtain ⟨xk, xn, xs'⟩ := x
      simp only at c0 c1 c2 HS1 hsz
      clear c0 c1 hok
      by_cases hx : xs'.size ≤ m
      · have HN := Lib.hid (show (m - xs'.size) + sumS (xs.take (k + 1)) = 2000 by rw [HS1.out]; have := hsum.out; omega)
        have x1 : ¬ (m : Int) < (xs'.size : Int) := by omega
        have y1 : (m : Int) - (xs'.size : Int) = ((m - xs'.size : Nat) : Int) := by omega
        go_wp2
        go_round
        case rel => exact ⟨k + 1, m - xs'.size, by first | rfl | go_num, by go_num, by omega, by omega, HN⟩
        case measure => simp [intOf]; omega
      · have x1 : (m : Int) < (xs'.size : Int) := by omega
        have HRF := Lib.hid (show R = false by
          rw [HR.out]
          apply decide_eq_false
          have := hsum.out
          have := HT1.out
          rw [HS1.out] at this
          omega)
        go_wp2
        go_ret
        exact ⟨by rw [HRF.out]; rfl, rfl⟩
    · obtain rfl : k = len := by omega
      have HRT := Lib.hid (show R = true by
        rw [HR.out]
        apply decide_eq_true
        have := hsum.out
        rw [List.take_of_length_le (by have := HL.out; omega)] at this
        omega)
      go_wp2
      go_ret
      exact ⟨by rw [HRT.out]; rfl, rfl⟩

set_option maxHeartbeats 4000000 in
set_option maxRecDepth 100000 in
theorem write_any (b : Nat) (l : List ByteArray) (o : Nat) (x : Stp) (ok : StpOk x) (w : World) (hW : WAt w b l o) (hs : sumLen l + 22 + x.s.size ≤ 4611686018427387904) (ho : o ≤ 4611686018427387904) :
    Calls Tryd.prog 6 #[.pointer (some ⟨b, 0, none⟩), .agg #[.int .i64 x.k, .int .i64 x.n, .string x.s]] w fun e w' => e = .returned (.tuple #[]) ∧ WAt w' b (stepL x l o) (stepN x o) ∧ But b w w' := by
  obtain ⟨xk, xn, xs⟩ := x
  obtain ⟨n0, n1, sz⟩ := ok
  simp only at *
  have hA : Below w.heap.size w (w.alloc (.cells #[.int .i64 xk, .int .i64 xn, .string xs] 31)) := (by repeat (first | with_reducible exact Below.refl _ _ | (with_reducible refine Below.setCell ?_ (by first | exact Nat.le_refl _ | omega | (simp; done) | (simp; omega)) _) | (with_reducible refine Below.alloc ?_ (by first | exact Nat.le_refl _ | omega | (simp; done) | (simp; omega)) _) | with_reducible refine Below.drew ?_ | with_reducible refine bel_drewN ?_ _ | (with_reducible refine bel_by (by with_reducible assumption) (by first | exact Nat.le_refl _ | omega | (simp; done) | (simp; omega)) ?_)))
  have HB := Lib.hid (But.of (b := b) hA)
  have HW := Lib.hid (hW.below hA)
  clear hW hA sz
  by_cases q0 : xk = 0
  · have H1 := Lib.hid (wint_any b l o xn n0 n1 _ HW.out (by omega))
    subst q0
    rw [show stepL ⟨0, xn, xs⟩ l o = encI xn :: l from rfl, show stepN ⟨0, xn, xs⟩ o = o from rfl]
    go_enter Tryd.func6, Tryd.ntmps6
    go_wp2_with fail
    refine H1.out.mono ?_
    rintro e w1 ⟨rfl, hw, hb⟩
    go_wp2
    simp [bodyPost, results, Tryd.results6]
    exact ⟨hw, HB.out.trans hb⟩
  by_cases q1 : xk = 1
  · have H1 := Lib.hid (wtext_any b l o xs _ HW.out (by omega))
    subst q1
    rw [show stepL ⟨1, xn, xs⟩ l o = encT xs :: l from rfl, show stepN ⟨1, xn, xs⟩ o = o from rfl]
    clear q0
    go_enter Tryd.func6, Tryd.ntmps6
    go_wp2_with fail
    refine H1.out.mono ?_
    rintro e w1 ⟨rfl, hw, hb⟩
    go_wp2
    simp [bodyPost, results, Tryd.results6]
    exact ⟨hw, HB.out.trans hb⟩
  by_cases q2 : xk = 2
  · have H1 := Lib.hid (wopen_any b l o _ HW.out (by omega) ho)
    subst q2
    rw [show stepL ⟨2, xn, xs⟩ l o = ⟨#[108]⟩ :: l from rfl, show stepN ⟨2, xn, xs⟩ o = o + 1 from rfl]
    clear q0 q1
    go_enter Tryd.func6, Tryd.ntmps6
    go_wp2_with fail
    refine H1.out.mono ?_
    rintro e w1 ⟨rfl, hw, hb⟩
    go_wp2
    simp [bodyPost, results, Tryd.results6]
    exact ⟨hw, HB.out.trans hb⟩
  by_cases q3 : xk = 3
  · have H1 := Lib.hid (wclose_any b l o _ HW.out (by omega) ho)
    subst q3
    rw [show stepL ⟨3, xn, xs⟩ l o = (if o = 0 then l else ⟨#[101]⟩ :: l) from rfl, show stepN ⟨3, xn, xs⟩ o = o - 1 from rfl]
    clear q0 q1 q2
    generalize (if o = 0 then l else (⟨#[101]⟩ : ByteArray) :: l) = l2 at *
    generalize o - 1 = o2 at *
    go_enter Tryd.func6, Tryd.ntmps6
    go_wp2_with fail
    refine H1.out.mono ?_
    rintro e w1 ⟨rfl, hw, hb⟩
    go_wp2
    simp [bodyPost, results, Tryd.results6]
    exact ⟨hw, HB.out.trans hb⟩
  have p0 : (xk == 0) = false := by simpa using q0
  have p1 : (xk == 1) = false := by simpa using q1
  have p2 : (xk == 2) = false := by simpa using q2
  have p3 : (xk == 3) = false := by simpa using q3
  have e1 : stepL ⟨xk, xn, xs⟩ l o = l := by unfold stepL; simp [q0, q1, q2, q3]
  have e2 : stepN ⟨xk, xn, xs⟩ o = o := by unfold stepN; simp [q2, q3]
  rw [e1, e2]
  clear q0 q1 q2 q3 e1 e2
  go_enter Tryd.func6, Tryd.ntmps6
  go_wp2
  simp [bodyPost, results, Tryd.results6]
  exact ⟨HW.out, HB.out⟩
end Go.Proofs.YtljeialaefmbmaaDoor
