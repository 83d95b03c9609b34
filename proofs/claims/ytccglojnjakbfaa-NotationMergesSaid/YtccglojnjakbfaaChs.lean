/- Contracts of layer 19: Chains, the code's and the reference's; Clone; Split. -/
import Derived.Test.YtccglojnjakbfaaQrs
import Derived.Test.YtccglojnjakbfaaCha
import Derived.Test.YtccglojnjakbfaaSlm
import Derived.Lib.SliceRun
set_option linter.unusedSimpArgs false
set_option linter.unusedVariables false
namespace Go.Proofs.Ytccglojnjakbfaa
open Go.RowKit

/-- what Chains gives -/
def ChsPost (w : World) (L : List It) (e : Ending) (w' : World) : Prop :=
  ∃ v, e = .returned v ∧ w'.ownsRow w.heap.size 42 2 v (chnL 0 0 L).length (flatQ (chnL 0 0 L)) ∧ Below w.heap.size w w'
set_option maxHeartbeats 4000000 in
set_option maxRecDepth 100000 in
theorem chains_any {w : World} {a : Option Addr} {b off len cap : Nat} {L : List It} (h : SlX w a b off len cap L) (hm : len ≤ 1000000) :
    Calls Try.prog 21 #[.slice a len cap] w (ChsPost w L) := by
  obtain ⟨iz, hi, hz0, hz1, hz2⟩ := info_parts infoQ
  have hl0 := h.hl
  have HS := Lib.hid h
  obtain ⟨C, hC⟩ : ∃ C, chnL 0 0 L = C := ⟨_, rfl⟩
  unfold ChsPost
  rw [hC]
  have HC := Lib.hid hC
  clear h hC
  go_enter Try.func21, Try.ntmps21
  go_wp2_with fail
  go_loopw [3, 4, 9] (fun s3 s4 s9 wr => ∃ (k f : Nat) (ac : List (Nat × Nat)), k ≤ len ∧ f ≤ k ∧ ac.length ≤ k ∧ s9 = .int .i64 (k : Int) ∧ s4 = .int .i64 (f : Int) ∧ Hid (wr.ownsRow w.heap.size 42 2 s3 ac.length (flatQ ac)) ∧ Hid (Below w.heap.size w wr) ∧ Hid (ac ++ chnL f k (L.drop k) = C)) (fun _ _ s9 _ => (len - (intOf s9)).toNat)
  case atStart => exact ⟨0, 0, [], Nat.zero_le _, Nat.le_refl _, Nat.le_refl _, rfl, rfl, Lib.hid (World.ownsRow_nil _ _ _ _), Lib.hid (Below.refl _ _), Lib.hid (by rw [List.drop_zero, List.nil_append]; exact HC.out)⟩
  case round =>
    obtain ⟨k, f, ac, hk, hf, hac, rfl, rfl, HO, HB, HE⟩ := hrel
    obtain ⟨ao, cv, rfl⟩ := own_form HO.out
    clear HC
    by_cases hlt : k < len
    · have hl : (k : Int) < (len : Int) := by omega
      have hkL : k < L.length := by omega
      have S := HS.out.keep HB.out
      obtain rfl := S.ha (by omega)
      have sb := S.hb (by omega)
      have c0 := S.c0 k hkL
      have c1 := S.c1 k hkL
      have c2 := S.c2 k hkL
      have c3 := S.c3 k hkL
      have c4 := S.c4 k hkL
      have HE2 := Lib.hid (show ac ++ (if (L[k]'hkL).j = false ∨ k + 1 = L.length then (f, k + 1) :: chnL (k + 1) (k + 1) (L.drop (k + 1)) else chnL f (k + 1) (L.drop (k + 1))) = C by rw [← chnL_cut hkL]; exact HE.out)
      clear S HE
      generalize L[k]'hkL = x at *
      obtain ⟨xc, xd, xr, xv, xj⟩ := x
      simp only at c0 c1 c2 c3 c4 HE2
      have HIT := Lib.hid (it_new wr ⟨xc, xd, xr, xv, xj⟩ 49)
      have HOV := Lib.hid (HO.out.alloc (.cells #[.string xc, .int .i64 xd, .bool xr, .bool xv, .bool xj] 49))
      have HBV := Lib.hid (show Below w.heap.size w (wr.alloc (.cells #[.string xc, .int .i64 xd, .bool xr, .bool xv, .bool xj] 49)) from HB.out.alloc HB.out.size _)
      have HKC := Lib.hid (show (k : Int) + 1 = ((k + 1 : Nat) : Int) by omega)
      have hszw : w.heap.size ≤ wr.heap.size := HB.out.size
      obtain ⟨n1, hn1⟩ : ∃ n1, len = n1 + 1 := ⟨len - 1, by omega⟩
      have HN1 := Lib.hid hn1
      have g3 : (len : Int) - 1 = (n1 : Int) := by omega
      have g5 : IntKind.i64.wrap ((len : Int) - 1) = (n1 : Int) := by rw [g3]; exact IntWalk.i64_in _ (by omega)
      have g6 : IntKind.i64.wrap (n1 : Int) = (n1 : Int) := IntWalk.i64_in _ (by omega)
      have g7 : IntKind.i64.wrap ((k : Int) + 1) = (k : Int) + 1 := IntWalk.i64_in _ (by omega)
      obtain ⟨z0, z1, z2, z3, z4, zf, zl⟩ := HIT.out
      simp only at z0 z1 z2 z3 z4
      have hcont : (xj = false ∨ k + 1 = L.length) ∨ (xj = true ∧ ¬ k + 1 = L.length) := by
        cases xj <;> by_cases e : k + 1 = L.length <;> simp [e]
      clear hn1
      rcases hcont with hcon | ⟨hj, hne⟩
      · have HE3 := Lib.hid (show (ac ++ [(f, k + 1)]) ++ chnL (k + 1) (k + 1) (L.drop (k + 1)) = C by
          rw [← HE2.out, if_pos hcon]; simp)
        have HO3 := Lib.hid (HOV.out.alloc (.cells #[.int .i64 (f : Int), .int .i64 ((k + 1 : Nat) : Int)] 42))
        have HB3 := Lib.hid (HBV.out.alloc (show w.heap.size ≤ _ by simp; omega) (.cells #[.int .i64 (f : Int), .int .i64 ((k + 1 : Nat) : Int)] 42))
        have hE2 : encQ (f, k + 1) = [.int .i64 (f : Int), .int .i64 ((k : Int) + 1)] := by unfold encQ; rw [HKC.out]
        have HE2Q := Lib.hid hE2
        have hce := q_cells (wr.alloc (.cells #[.string xc, .int .i64 xd, .bool xr, .bool xv, .bool xj] 49)) (f, k + 1)
        rw [hE2] at hce
        simp only [World.size_alloc] at hce
        rw [← HKC.out] at hce HO3 HB3
        have HCE := Lib.hid hce
        clear hE2
        have HOL := Lib.hid (fun g h => HO.out.lt g h)
        clear hce HE2 HO HOV HBV HB
        have hkm : k ≤ 1000000 := by omega
        by_cases hj : xj = false
        · subst hj
          clear hcon
          go_wp2_with (at_builtin; go_loud (refine wpList_append_blk _ rfl _ _ 38 rfl w.heap.size 42 iz (.agg #[.int .i64 0, .int .i64 0]) 2 16 Try.underlying38 hi hz0 hz1 hz2 rfl (by decide) _ _ _ rfl HO3.out ⟨wr.heap.size + 1, 0, none⟩ 1 1 [.int .i64 (f : Int), .int .i64 ((k : Int) + 1)] rfl rfl HCE.out ?n1 ?n2 ?n3 ?n4 (by decide) ?_))
          case n1 => exact ⟨rfl, rfl⟩
          case n2 => unfold maxLen; omega
          case n3 => omega
          case n4 => first | omega | (simp; omega)
          intro v' w7 ho hg hbk
          have HO7 := Lib.hid (show w7.ownsRow w.heap.size 42 2 v' (ac ++ [(f, k + 1)]).length (flatQ (ac ++ [(f, k + 1)])) by rw [List.length_append, List.length_singleton, flatQ_snoc, HE2Q.out]; exact ho)
          have HB7 := Lib.hid (HB3.out.grown hg (by simp; omega) (fun g h => (HOL.out g h).1))
          clear ho hg hbk HO3 HB3 HCE HOL z0 z1 z2 z3 z4 zf zl
          go_wp2_with fail
          go_roundw
          case rel =>
            rw [HKC.out]
            exact ⟨k + 1, k + 1, ac ++ [(f, k + 1)], by omega, Nat.le_refl _, by rw [List.length_append, List.length_singleton]; omega, rfl, rfl, HO7, HB7, HE3⟩
          case measure => simp [intOf]; omega
        · have hj1 : xj = true := by simpa using hj
          subst hj1
          have hlast : k + 1 = L.length := hcon.resolve_left (by simp)
          have hkn : (k : Int) = (n1 : Int) := by have := HN1.out; omega
          have g8 : ((k : Int) == (n1 : Int)) = true := by rw [hkn]; simp
          have g9 : ((k : Int) == (len : Int) - 1) = true := by rw [g3, hkn]; simp
          clear hcon hj hlast hkn
          go_wp2_with (at_builtin; go_loud (refine wpList_append_blk _ rfl _ _ 38 rfl w.heap.size 42 iz (.agg #[.int .i64 0, .int .i64 0]) 2 16 Try.underlying38 hi hz0 hz1 hz2 rfl (by decide) _ _ _ rfl HO3.out ⟨wr.heap.size + 1, 0, none⟩ 1 1 [.int .i64 (f : Int), .int .i64 ((k : Int) + 1)] rfl rfl HCE.out ?n1 ?n2 ?n3 ?n4 (by decide) ?_))
          case n1 => exact ⟨rfl, rfl⟩
          case n2 => unfold maxLen; omega
          case n3 => omega
          case n4 => first | omega | (simp; omega)
          intro v' w7 ho hg hbk
          have HO7 := Lib.hid (show w7.ownsRow w.heap.size 42 2 v' (ac ++ [(f, k + 1)]).length (flatQ (ac ++ [(f, k + 1)])) by rw [List.length_append, List.length_singleton, flatQ_snoc, HE2Q.out]; exact ho)
          have HB7 := Lib.hid (HB3.out.grown hg (by simp; omega) (fun g h => (HOL.out g h).1))
          clear ho hg hbk HO3 HB3 HCE HOL z0 z1 z2 z3 z4 zf zl
          go_wp2_with fail
          go_roundw
          case rel =>
            rw [HKC.out]
            exact ⟨k + 1, k + 1, ac ++ [(f, k + 1)], by omega, Nat.le_refl _, by rw [List.length_append, List.length_singleton]; omega, rfl, rfl, HO7, HB7, HE3⟩
          case measure => simp [intOf]; omega
      · subst hj
        have HE3 := Lib.hid (show ac ++ chnL f (k + 1) (L.drop (k + 1)) = C by rw [← HE2.out, if_neg (by simp [hne])])
        have hkn : ¬ (k : Int) = (n1 : Int) := by have := HN1.out; omega
        have g8 : ((k : Int) == (n1 : Int)) = false := by simpa using hkn
        have g9 : ((k : Int) == (len : Int) - 1) = false := by rw [g3]; exact g8
        clear HE2 hne hkn
        go_wp2_with fail
        go_roundw
        case rel =>
          rw [HKC.out]
          exact ⟨k + 1, f, ac, by omega, by omega, by omega, rfl, rfl, HOV, HBV, HE3⟩
        case measure => simp [intOf]; omega
    · obtain rfl : k = len := by omega
      have hl : ¬ (k : Int) < (k : Int) := by omega
      have HE2 := Lib.hid (show ac = C by
        have := HE.out
        rw [List.drop_eq_nil_of_le (by omega), chnL, List.append_nil] at this
        exact this)
      go_wp2_with fail
      go_ret
      rw [← HE2.out]
      exact ⟨_, rfl, HO.out, HB.out⟩
end Go.Proofs.Ytccglojnjakbfaa
