/- Compare returns the first criterion that decides, for any two lists of values; Check accepts exactly the matrices: the law. -/
import Derived.Test.YtigibomcaecbdaaGreatFew
import Derived.Test.YtigibomcaecbdaaGreatSam
import Derived.Test.YtigibomcaecbdaaGreatAwk
import Derived.Test.YtigibomcaecbdaaGreatRqg
set_option linter.unusedSimpArgs false
set_option linter.unusedVariables false
namespace Go.Proofs.YtigibomcaecbdaaGreat
open Go.RowKit Go.Sort

theorem rowI_turn (a b : List (Int × Int)) : rowI b a = rowI a b := by
  unfold rowI
  rw [rowN_comm b a, rowC_turn b a]
  by_cases h : rowC a b = 0
  · rw [if_pos h, if_pos (by omega)]
  · rw [if_neg h, if_neg (by omega)]
set_option maxHeartbeats 4000000 in
set_option maxRecDepth 100000 in
theorem compares_law {r s : Rw} {w : World} (h1 : r.ok w) (h2 : s.ok w) :
    Calls Tryz.prog 3 #[r.val, s.val] w fun e w' => e = .returned (.bool true) ∧ Below w.heap.size w w' := by
  have HA := Lib.hid (fun w => awake_any w)
  have d1 := h1.1.hcap
  have d2 := h2.1.hcap
  have m1 := h1.1.hmax
  have m2 := h2.1.hmax
  unfold maxLen at m1 m2
  have HC := Lib.hid (compareR2_any h1 h2)
  have HR := Lib.hid (fun W (hB : Below w.heap.size w W) => rcompare_any (h1.keep hB).1 (h2.keep hB).1)
  have HT := Lib.hid (fun W (hB : Below w.heap.size w W) => compareR2_any (h2.keep hB) (h1.keep hB))
  have HCK := Lib.hid (fun W (hB : Below w.heap.size w W) => (show SlR (W.alloc (.cells #[r.val, s.val] 22)) (some ⟨W.heap.size, 0, none⟩) W.heap.size 0 2 2 [r, s] from
    ⟨new_sl (enc := Rw.val) W [r, s] 22 2 rfl (by decide) #[r.val, s.val] rfl, fun x hx => by
      simp only [List.mem_cons, List.not_mem_nil, or_false] at hx
      have hB' := hB.trans ((new_bel W (.cells #[r.val, s.val] 22)).mono hB.size)
      rcases hx with rfl | rfl
      · exact h1.keep hB'
      · exact h2.keep hB'⟩))
  have c3 := rowC_three r.L s.L
  have HTN := Lib.hid (rowC_turn s.L r.L)
  have HTI := Lib.hid (rowI_turn r.L s.L)
  clear h1 h2
  rw [HTN.out, HTI.out] at HT
  obtain ⟨c, hc⟩ : ∃ c, rowC r.L s.L = c := ⟨_, rfl⟩
  obtain ⟨i, hi⟩ : ∃ i, rowI r.L s.L = i := ⟨_, rfl⟩
  rw [hc, hi] at HC HR HT
  rw [hc] at c3
  clear hc hi HTN HTI
  have HK := Lib.hid (fun W (hB : Below w.heap.size w W) W' (hW : Below (W.alloc (.cells #[r.val, s.val] 22)).heap.size (W.alloc (.cells #[r.val, s.val] 22)) W') => check_any ((HCK.out W hB).keep hW))
  have HKR := Lib.hid (fun W (hB : Below w.heap.size w W) W' (hW : Below (W.alloc (.cells #[r.val, s.val] 22)).heap.size (W.alloc (.cells #[r.val, s.val] 22)) W') => rcheck_any ((HCK.out W hB).keep hW))
  clear HCK
  generalize chkL (crit [r, s]) = k at *
  have k0 : (k == k) = true := by simp
  have k1 : (c == c) = true := by simp
  have k2 : (i == i) = true := by simp
  have q1 : (0 : Int) - c = -c := by omega
  have q2 : IntKind.i64.wrap (-c) = -c := IntWalk.i64_in _ (by omega)
  have q3 : IntKind.i64.wrap (0 - c) = -c := by rw [q1]; exact q2
  have q4 : ((-c) == (-c)) = true := by simp
  clear c3
  unfold Rw.val at *
  generalize r.L.length = n1 at *
  generalize s.L.length = n2 at *
  generalize r.a = a1 at *
  generalize s.a = a2 at *
  generalize r.cap = p1 at *
  generalize s.cap = p2 at *
  by_cases h25 : n1 ≤ 25 ∧ n2 ≤ 25
  · obtain ⟨e1, e2⟩ := h25
    have l1 : ¬ (n1 : Int) > 25 := by omega
    have l2 : ¬ (n2 : Int) > 25 := by omega
    have l3 : decide ((n1 : Int) > 25) = false := decide_eq_false l1
    have l4 : decide ((n2 : Int) > 25) = false := decide_eq_false l2
    go_enter Tryz.func3, Tryz.ntmps3
    go_wp2_with fail
    refine (HC.out).mono ?_
    rintro e w1 ⟨rfl, hg⟩
    have HB1 := Lib.hid hg.below
    clear hg HC
    go_wp2_with fail
    refine (HR.out _ HB1.out).mono ?_
    rintro e w2 ⟨rfl, hb⟩
    have HB2 := Lib.hid (HB1.out.trans (hb.mono HB1.out.size))
    clear hb HR HB1
    go_wp2_with fail
    refine (HT.out _ HB2.out).mono ?_
    rintro e w3 ⟨rfl, hg⟩
    have HB3 := Lib.hid (HB2.out.trans (hg.below.mono HB2.out.size))
    clear hg HT HB2
    go_wp2_with fail
    have HN := Lib.hid (new_bel w3 (.cells #[.slice a1 n1 p1, .slice a2 n2 p2] 22))
    refine (HA.out _).mono ?_
    rintro e w4 ⟨rfl, hb⟩
    have HN4 := Lib.hid hb
    clear hb HA
    go_wp2_with fail
    refine (HK.out _ HB3.out _ HN4.out).mono ?_
    rintro e w5 ⟨rfl, hb⟩
    have HN5 := Lib.hid (HN4.out.trans (hb.mono HN4.out.size))
    clear hb HK HN4
    go_wp2_with fail
    refine (HKR.out _ HB3.out _ HN5.out).mono ?_
    rintro e w6 ⟨rfl, hb⟩
    have HN6 := Lib.hid (HN5.out.trans (hb.mono HN5.out.size))
    have HB6 := Lib.hid ((HB3.out.trans (HN.out.mono HB3.out.size)).trans (HN6.out.mono (Nat.le_trans HB3.out.size HN.out.size)))
    clear hb HKR HN5 HN6 HN HB3
    go_wp2
    go_ret
    exact ⟨rfl, HB6.out⟩
  · clear HC HR HT HK HKR
    by_cases e1 : n1 ≤ 25
    · have l1 : ¬ (n1 : Int) > 25 := by omega
      have l3 : decide ((n1 : Int) > 25) = false := decide_eq_false l1
      have l2 : (n2 : Int) > 25 := by omega
      have l4 : decide ((n2 : Int) > 25) = true := decide_eq_true l2
      clear h25
      go_enter Tryz.func3, Tryz.ntmps3
      go_wp2_with fail
      refine (HA.out _).mono ?_
      rintro e w4 ⟨rfl, hb⟩
      have HB := Lib.hid hb
      clear hb HA
      go_wp2
      go_ret
      exact ⟨rfl, HB.out⟩
    · have l1 : (n1 : Int) > 25 := by omega
      have l3 : decide ((n1 : Int) > 25) = true := decide_eq_true l1
      clear h25
      go_enter Tryz.func3, Tryz.ntmps3
      go_wp2_with fail
      refine (HA.out _).mono ?_
      rintro e w4 ⟨rfl, hb⟩
      have HB := Lib.hid hb
      clear hb HA
      go_wp2
      go_ret
      exact ⟨rfl, HB.out⟩
end Go.Proofs.YtigibomcaecbdaaGreat
