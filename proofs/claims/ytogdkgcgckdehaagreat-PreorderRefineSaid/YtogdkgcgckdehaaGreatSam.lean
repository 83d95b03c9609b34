/- The reference's Same; the law's row. -/
import Derived.Test.YtogdkgcgckdehaaGreatInt
import Derived.Test.YtogdkgcgckdehaaGreatApp
import Derived.Test.YtogdkgcgckdehaaGreatPrs
set_option linter.unusedSimpArgs false
set_option linter.unusedVariables false
namespace Go.Proofs.YtogdkgcgckdehaaGreat
open Go.RowKit Go.Sort

theorem eqL_step {A B : List Int} {k : Nat} (hl : A.length = B.length) (hk : k < A.length) (h : ∀ j, j < k → A.getD j 0 = B.getD j 0) (he : A.getD k 0 = B.getD k 0) : ∀ j, j < k + 1 → A.getD j 0 = B.getD j 0 := by
  intro j hj
  by_cases e : j = k
  · subst e; exact he
  · exact h j (by omega)
set_option maxHeartbeats 1000000 in
set_option maxRecDepth 100000 in
theorem same_any {a a' : Option Addr} {b b' off off' len len' cap cap' : Nat} {A B : List Int} {w : World} (hA : SlI w a b off len cap A) (hB : SlI w a' b' off' len' cap' B) :
    Calls Tryz.prog 9 #[.slice a len cap, .slice a' len' cap'] w fun e w' => e = .returned (.bool (decide (A = B))) ∧ ∃ q, w' = w.drewN q := by
  by_cases hl : len = len'
  · subst hl
    have HA := Lib.hid hA
    have HB := Lib.hid hB
    have hca := hA.hcap
    have hcb := hB.hcap
    have hma := hA.hmax
    have hmb := hB.hmax
    unfold maxLen at hma hmb
    have HL := Lib.hid (show A.length = B.length by rw [hA.hl, hB.hl])
    have k0 : ((len : Int) != (len : Int)) = false := by simp
    clear hA hB
    go_enter Tryz.func9, Tryz.ntmps9
    go_wp2_with fail
    go_loopw [5] (fun s5 wr => ∃ (k q : Nat), k ≤ len ∧ s5 = .int .i64 (k : Int) ∧ w.drewN q = wr ∧ Hid (∀ j, j < k → A.getD j 0 = B.getD j 0)) (fun s5 _ => (len - (intOf s5)).toNat)
    case atStart => exact ⟨0, 0, Nat.zero_le _, rfl, rfl, Lib.hid (fun j h => absurd h (Nat.not_lt_zero j))⟩
    case round =>
      obtain ⟨k, q, hk, rfl, rfl, HZ⟩ := hrel
      by_cases hlt : k < len
      · have l1 : (k : Int) < (len : Int) := by omega
        obtain rfl := HA.out.ha (by omega)
        obtain rfl := HB.out.ha (by omega)
        have hkA : k < A.length := by rw [HA.out.hl]; exact hlt
        have hkB : k < B.length := by rw [HB.out.hl]; exact hlt
        have x1 : (w.drewN q).cell? ⟨b, off + k, none⟩ = some (.int .i64 (A.getD k 0)) := by
          have := HA.out.cell k hkA
          simpa [List.getD, hkA] using this
        have x2 : (w.drewN q).cell? ⟨b', off' + k, none⟩ = some (.int .i64 (B.getD k 0)) := by
          have := HB.out.cell k hkB
          simpa [List.getD, hkB] using this
        have HST := Lib.hid (fun he => eqL_step HL.out hkA HZ.out he)
        have HNE := Lib.hid (fun (hn : A.getD k 0 ≠ B.getD k 0) => (show decide (A = B) = false from decide_eq_false (fun e => hn (by rw [e]))))
        clear HZ
        generalize A.getD k 0 = x at *
        generalize B.getD k 0 = y at *
        generalize hw2 : w.drewN q = w2 at *
        have HW := Lib.hid hw2
        clear hw2
        by_cases he : x = y
        · subst he
          have k1 : (x != x) = false := by simp
          have HE := Lib.hid (HST.out rfl)
          clear HST HNE
          go_wp2_with fail
          go_quiet (fail)
          go_wp2_with fail
          go_roundw
          case rel => exact ⟨k + 1, q + nq, by omega, by go_num, by rw [← HW.out, World.drewN_drewN], HE⟩
          case measure => simp [intOf]; omega
        · have k1 : (x != y) = true := by simpa using he
          have HE := Lib.hid (HNE.out he)
          clear HST HNE he
          go_wp2_with fail
          go_quiet (fail)
          go_wp2_with fail
          go_ret
          exact ⟨by rw [HE.out]; rfl, q + nq, by rw [← HW.out, World.drewN_drewN]⟩
      · obtain rfl : k = len := by omega
        have l1 : ¬ (k : Int) < (k : Int) := by omega
        have HE := Lib.hid (show decide (A = B) = true from decide_eq_true (eq_getD HL.out (fun j hj => HZ.out j (by rw [← HA.out.hl]; exact hj))))
        clear HZ
        generalize hw2 : w.drewN q = w2 at *
        have HW := Lib.hid hw2
        clear hw2
        go_wp2_with fail
        go_ret
        exact ⟨by rw [HE.out]; rfl, q, HW.out.symm⟩
  · have hne : decide (A = B) = false := decide_eq_false (fun e => hl (by rw [← hA.hl, ← hB.hl, e]))
    have k0 : ((len : Int) != (len' : Int)) = true := by rw [bne_iff_ne]; omega
    rw [hne]
    clear hA hB hne hl
    go_enter Tryz.func9, Tryz.ntmps9
    go_wp2
    go_ret
    exact ⟨rfl, 0, rfl⟩
theorem infoF : (Tryz.prog.info? 37).map (fun i => (i.zero, i.size, i.bytes)) = some (some (.agg #[.int .i64 0, .int .i64 0]), 2, 16) := by kernel_rfl
theorem new2 (w : World) (x y : Int) (t : TypeId) : ∀ j u, ([Value.int .i64 x, Value.int .i64 y] : List Value)[j]? = some u → (w.alloc (.cells #[.int .i64 x, .int .i64 y] t)).cell? ((⟨w.heap.size, 0, none⟩ : Addr).add j) = some u := by
  intro j u hu
  match j, hu with
  | 0, hu => simp only [List.getElem?_cons_zero, Option.some.injEq] at hu; subst hu; unfold World.cell?; simp only [Addr.add_lit]; rw [heap_alloc_new]; rfl
  | 1, hu => simp only [List.getElem?_cons_succ, List.getElem?_cons_zero, Option.some.injEq] at hu; subst hu; unfold World.cell?; simp only [Addr.add_lit]; rw [heap_alloc_new]; rfl
  | j + 2, hu => simp at hu
theorem one2 (x y : Int) : ∀ u ∈ ([Value.int .i64 x, Value.int .i64 y] : List Value), u.oneCell' = true := by
  intro u hu; simp only [List.mem_cons, List.not_mem_nil, or_false] at hu; rcases hu with rfl | rfl <;> rfl
def RowPost (w : World) (x y : Int) (e : Ending) (w' : World) : Prop := ∃ g cap, e = .returned (.slice (some ⟨g, 0, none⟩) 2 cap) ∧ w'.ownsRow w.heap.size 37 2 (.slice (some ⟨g, 0, none⟩) 2 cap) 2 (flatP [(x, 1), (y, 1)]) ∧ Below w.heap.size w w'
set_option maxHeartbeats 1000000 in
set_option maxRecDepth 100000 in
theorem row2_any {g : Nat} {x y : Int} {w : World} (hg : g < w.heap.size) (x1 : w.cell? ⟨g, 0, none⟩ = some (.int .i64 x)) (x2 : w.cell? ⟨g, 1, none⟩ = some (.int .i64 y)) :
    Calls Tryz.prog 15 #[.slice (some ⟨g, 0, none⟩) 2 2] w (RowPost w x y) := by
  obtain ⟨i0, hi, hz0, hz1, hz2⟩ := info_parts infoF
  go_enter Tryz.func15, Tryz.ntmps15
  go_wp2_with fail
  have hown0 : (w.alloc (.cells #[] 37)).ownsRow w.heap.size 37 2 (.slice (some ⟨w.heap.size, 0, none⟩) 0 0) 0 [] := World.ownsRow_made w #[] 0 (Nat.le_refl _) (Nat.zero_le _) (by simp)
  have hB0 : Below w.heap.size w (w.alloc (.cells #[] 37)) := (by repeat (first | with_reducible exact Below.refl _ _ | (with_reducible refine Below.setCell ?_ (by first | exact Nat.le_refl _ | omega | (simp; done) | (simp; omega)) _) | (with_reducible refine Below.alloc ?_ (by first | exact Nat.le_refl _ | omega | (simp; done) | (simp; omega)) _) | with_reducible refine Below.drew ?_ | with_reducible refine bel_drewN ?_ _ | (with_reducible refine bel_by (by with_reducible assumption) (by first | exact Nat.le_refl _ | omega | (simp; done) | (simp; omega)) ?_)))
  generalize w.alloc (.cells #[] 37) = W at *
  generalize (Value.slice (some ⟨w.heap.size, 0, none⟩) 0 0) = v0 at *
  have y1 : W.cell? ⟨g, 0, none⟩ = some (.int .i64 x) := (hB0.cell (p := ⟨g, 0, none⟩) hg).trans x1
  have HO := Lib.hid hown0
  have HB := Lib.hid hB0
  have HX2 := Lib.hid x2
  clear hown0 hB0 x1 x2
  refine wp_loop_rounds 3 ?_
  rw [rounds_succ]
  have HBA := Lib.hid (HB.out.alloc HB.out.size (.cells #[.int .i64 x, .int .i64 1] 37))
  go_wp2_with (at_builtin; refine wpList_append_own _ rfl _ _ 27 rfl w.heap.size 37 i0 (.agg #[.int .i64 0, .int .i64 0]) 2 16 Tryz.underlying27 hi hz0 hz1 hz2 rfl (by decide) _ 0 [] rfl (HO.out.alloc _) ⟨W.heap.size, 0, none⟩ 1 1 [.int .i64 x, .int .i64 1] rfl rfl (new2 W x 1 _) (one2 x 1) ?n2 ?n3 ?n4 ?_)
  case n2 => decide
  case n3 => decide
  case n4 => exact HBA.out.size
  intro v1 w1 ho hg1 _
  have HO1 := Lib.hid (show w1.ownsRow w.heap.size 37 2 v1 1 [.int .i64 x, .int .i64 1] by simpa using ho)
  have HB1 := Lib.hid (HBA.out.grown hg1 HBA.out.size (fun k hk => ((HO.out.lt k hk).1)))
  have y2 : w1.cell? ⟨g, 1, none⟩ = some (.int .i64 y) := (HB1.out.cell (p := ⟨g, 1, none⟩) hg).trans HX2.out
  clear ho hg1 HBA HO HB y1
  go_wp2_with fail
  rw [rounds_succ]
  have HBA := Lib.hid (HB1.out.alloc HB1.out.size (.cells #[.int .i64 y, .int .i64 1] 37))
  go_wp2_with (at_builtin; refine wpList_append_own _ rfl _ _ 27 rfl w.heap.size 37 i0 (.agg #[.int .i64 0, .int .i64 0]) 2 16 Tryz.underlying27 hi hz0 hz1 hz2 rfl (by decide) _ 1 [.int .i64 x, .int .i64 1] rfl (HO1.out.alloc _) ⟨w1.heap.size, 0, none⟩ 1 1 [.int .i64 y, .int .i64 1] rfl rfl (new2 w1 y 1 _) (one2 y 1) ?n2 ?n3 ?n4 ?_)
  case n2 => decide
  case n3 => decide
  case n4 => exact HBA.out.size
  intro v2 w2 ho hg2 _
  have HO2 := Lib.hid (show w2.ownsRow w.heap.size 37 2 v2 2 (flatP [(x, 1), (y, 1)]) from ho)
  have HB2 := Lib.hid (HBA.out.grown hg2 HBA.out.size (fun k hk => ((HO1.out.lt k hk).1)))
  clear ho hg2 HBA HO1 HB1 y2
  go_wp2_with fail
  rw [rounds_succ]
  go_wp2_with fail
  go_ret
  rcases HO2.out.2 with ⟨_, h0⟩ | ⟨gv, cap, cur, rfl, _⟩
  · omega
  · exact ⟨gv, cap, rfl, HO2.out, HB2.out⟩
end Go.Proofs.YtogdkgcgckdehaaGreat
