/- Contract of layer 20's reference: without. -/
import Derived.Test.YtlleebgkglbelaaKys
import Derived.Test.YtlleebgkglbelaaLin
set_option linter.unusedSimpArgs false
set_option linter.unusedVariables false
namespace Go.Proofs.Ytlleebgkglbelaa
open Go.RowKit

def barS (x : Rg) : Rg := if (x.c.toList == []) = true then Rg.zero else x
/-- what without gives -/
def WtoPost (w : World) (R : List Rg) (e : Ending) (w' : World) : Prop :=
  Below w.heap.size w w' ∧ ∃ v, e = .returned v ∧ w'.ownsRow w.heap.size 35 7 v (R.map barS).length (flatR (R.map barS))
set_option maxHeartbeats 4000000 in
set_option maxRecDepth 100000 in
theorem without_any {w : World} {a : Option Addr} {b off len cap : Nat} {L : List Rg} (hL : SlR w a b off len cap L) (hm : len ≤ 1000000) : Calls Try.prog 41 #[.slice a len cap] w (WtoPost w L) := by
  obtain ⟨iz, hi, hz0, hz1, hz2⟩ := info_parts infoR
  have hl0 := hL.hl
  have HS := Lib.hid hL
  unfold WtoPost
  obtain ⟨M, hM⟩ : ∃ M, L.map barS = M := ⟨_, rfl⟩
  rw [hM]
  have HM := Lib.hid hM
  have hMl : M.length = len := by rw [← hM, List.length_map, hl0]
  clear hL hM
  go_enter Try.func41, Try.ntmps41
  go_wp2_with fail
  have HB1 := Lib.hid (show Below w.heap.size w (w.alloc (.cells #[] 35)) from (by repeat (first | with_reducible exact Below.refl _ _ | (with_reducible refine Below.setCell ?_ (by first | exact Nat.le_refl _ | omega | (simp; done) | (simp; omega)) _) | (with_reducible refine Below.alloc ?_ (by first | exact Nat.le_refl _ | omega | (simp; done) | (simp; omega)) _) | with_reducible refine Below.drew ?_ | with_reducible refine bel_drewN ?_ _ | (with_reducible refine bel_by (by with_reducible assumption) (by first | exact Nat.le_refl _ | omega | (simp; done) | (simp; omega)) ?_))))
  have HO1 := Lib.hid (World.ownsRow_made (e := 35) (size := 7) (base := w.heap.size) w #[] 0 (by omega) (Nat.zero_le _) rfl)
  go_loopw [3, 4] (fun s2 s3 wr => ∃ (R : List Rg), R.length ≤ len ∧ s3 = .int .i64 (R.length : Int) ∧ Hid (wr.ownsRow w.heap.size 35 7 s2 R.length (flatR R)) ∧ Hid (Below w.heap.size w wr) ∧ Hid (R = M.take R.length)) (fun _ s3 _ => (len - (intOf s3)).toNat)
  case atStart => exact ⟨[], Nat.zero_le _, rfl, HO1, HB1, Lib.hid (by simp)⟩
  case round =>
    obtain ⟨R, hk, rfl, HO, HB, HR⟩ := hrel
    obtain ⟨ao, cv, rfl⟩ := own_form HO.out
    clear HB1 HO1
    by_cases hlt : R.length < len
    · have hl : (R.length : Int) < (len : Int) := by omega
      have hkL : R.length < L.length := by omega
      have S := HS.out.keep HB.out
      obtain rfl := S.ha (by omega)
      have sb := S.hb (by omega)
      have c0 := S.c0 R.length hkL
      have c1 := S.c1 R.length hkL
      have c2 := S.c2 R.length hkL
      have c3 := S.c3 R.length hkL
      have c4 := S.c4 R.length hkL
      have c5 := S.c5 R.length hkL
      have c6 := S.c6 R.length hkL
      have HX := Lib.hid (show M.take (R.length + 1) = R ++ [barS (L[R.length]'hkL)] by
        rw [List.take_succ_eq_append_getElem (by rw [hMl]; exact hlt), ← HR.out]
        congr 1
        have := HM.out
        subst this
        simp)
      clear S
      generalize L[R.length]'hkL = x at *
      obtain ⟨xk, xc, xg, xs, xn, xr, xj⟩ := x
      simp only at c0 c1 c2 c3 c4 c5 c6
      have hszw : w.heap.size ≤ wr.heap.size := HB.out.size
      cases he : (xc.toList == []) with
      | true =>
        have hbar : barS ⟨xk, xc, xg, xs, xn, xr, xj⟩ = (⟨false, ⟨#[]⟩, ⟨#[]⟩, ⟨#[]⟩, 0, false, false⟩ : Rg) := by unfold barS; rw [if_pos he]; rfl
        have HX2 := Lib.hid (show M.take (R.length + 1) = R ++ [(⟨false, ⟨#[]⟩, ⟨#[]⟩, ⟨#[]⟩, 0, false, false⟩ : Rg)] by rw [HX.out, hbar])
        clear HX hbar
        have HO3 := Lib.hid (show World.ownsRow ((wr.alloc (.cells #[.bool false, .string ⟨#[]⟩, .string ⟨#[]⟩, .string ⟨#[]⟩, .int .i64 0, .bool false, .bool false] 35)).alloc (.cells #[.bool false, .string ⟨#[]⟩, .string ⟨#[]⟩, .string ⟨#[]⟩, .int .i64 0, .bool false, .bool false] 35)) w.heap.size 35 7 (.slice ao R.length cv) R.length (flatR R) from (HO.out.alloc _).alloc _)
        have HB3 := Lib.hid (show Below w.heap.size w ((wr.alloc (.cells #[.bool false, .string ⟨#[]⟩, .string ⟨#[]⟩, .string ⟨#[]⟩, .int .i64 0, .bool false, .bool false] 35)).alloc (.cells #[.bool false, .string ⟨#[]⟩, .string ⟨#[]⟩, .string ⟨#[]⟩, .int .i64 0, .bool false, .bool false] 35)) from (HB.out.alloc HB.out.size _).alloc (Nat.le_trans HB.out.size (by simp)) _)
        have HCE := Lib.hid (rg_cells (wr.alloc (.cells #[.bool false, .string ⟨#[]⟩, .string ⟨#[]⟩, .string ⟨#[]⟩, .int .i64 0, .bool false, .bool false] 35)) (⟨false, ⟨#[]⟩, ⟨#[]⟩, ⟨#[]⟩, 0, false, false⟩ : Rg))
        have HOL := Lib.hid (fun g h => HO.out.lt g h)
        rw [World.size_alloc] at HCE
        simp only at HCE
        clear HO HB
        go_wp2_with (at_builtin; go_loud (refine wpList_append_blk _ rfl _ _ 38 rfl w.heap.size 35 iz (.agg #[.bool false, .string ⟨#[]⟩, .string ⟨#[]⟩, .string ⟨#[]⟩, .int .i64 0, .bool false, .bool false]) 7 72 Try.underlying38 hi hz0 hz1 hz2 rfl (by decide) _ _ _ rfl HO3.out ⟨wr.heap.size + 1, 0, none⟩ 1 1 [.bool false, .string ⟨#[]⟩, .string ⟨#[]⟩, .string ⟨#[]⟩, .int .i64 0, .bool false, .bool false] rfl rfl HCE.out ?n1 ?n2 ?n3 ?n4 (by decide) ?_))
        case n1 => first | exact ⟨rfl, rfl, rfl, rfl, rfl, rfl, rfl⟩ | (intro u hu; simp only [List.mem_cons, List.not_mem_nil, or_false] at hu; rcases hu with rfl | rfl | rfl | rfl | rfl | rfl | rfl <;> rfl)
        case n2 => unfold maxLen; omega
        case n3 => omega
        case n4 => first | omega | (simp; omega)
        intro v' w7 ho hg hbk
        have HO7 := Lib.hid (show w7.ownsRow w.heap.size 35 7 v' (R ++ [(⟨false, ⟨#[]⟩, ⟨#[]⟩, ⟨#[]⟩, 0, false, false⟩ : Rg)]).length (flatR (R ++ [(⟨false, ⟨#[]⟩, ⟨#[]⟩, ⟨#[]⟩, 0, false, false⟩ : Rg)])) by rw [List.length_append, List.length_singleton, flatR_snoc]; exact ho)
        have HB7 := Lib.hid (HB3.out.grown hg (by simp; omega) (fun g h => by have := (HOL.out g h).1; omega))
        clear ho hg hbk HO3 HB3 HCE HOL
        go_wp2_with fail
        go_roundw
        case rel => exact ⟨R ++ [(⟨false, ⟨#[]⟩, ⟨#[]⟩, ⟨#[]⟩, 0, false, false⟩ : Rg)], by rw [List.length_append, List.length_singleton]; omega, by rw [List.length_append, List.length_singleton]; go_num, HO7, HB7, Lib.hid (by rw [List.length_append, List.length_singleton, HX2.out])⟩
        case measure => simp [intOf]; omega
      | false =>
        have hbar : barS ⟨xk, xc, xg, xs, xn, xr, xj⟩ = (⟨xk, xc, xg, xs, xn, xr, xj⟩ : Rg) := by unfold barS; rw [if_neg (by simp only [he]; decide)]
        have HX2 := Lib.hid (show M.take (R.length + 1) = R ++ [(⟨xk, xc, xg, xs, xn, xr, xj⟩ : Rg)] by rw [HX.out, hbar])
        clear HX hbar
        have HO3 := Lib.hid (show World.ownsRow ((wr.alloc (.cells #[.bool xk, .string xc, .string xg, .string xs, .int .i64 xn, .bool xr, .bool xj] 35)).alloc (.cells #[.bool xk, .string xc, .string xg, .string xs, .int .i64 xn, .bool xr, .bool xj] 35)) w.heap.size 35 7 (.slice ao R.length cv) R.length (flatR R) from (HO.out.alloc _).alloc _)
        have HB3 := Lib.hid (show Below w.heap.size w ((wr.alloc (.cells #[.bool xk, .string xc, .string xg, .string xs, .int .i64 xn, .bool xr, .bool xj] 35)).alloc (.cells #[.bool xk, .string xc, .string xg, .string xs, .int .i64 xn, .bool xr, .bool xj] 35)) from (HB.out.alloc HB.out.size _).alloc (Nat.le_trans HB.out.size (by simp)) _)
        have HCE := Lib.hid (rg_cells (wr.alloc (.cells #[.bool xk, .string xc, .string xg, .string xs, .int .i64 xn, .bool xr, .bool xj] 35)) (⟨xk, xc, xg, xs, xn, xr, xj⟩ : Rg))
        have HOL := Lib.hid (fun g h => HO.out.lt g h)
        rw [World.size_alloc] at HCE
        simp only at HCE
        clear HO HB
        go_wp2_with (at_builtin; go_loud (refine wpList_append_blk _ rfl _ _ 38 rfl w.heap.size 35 iz (.agg #[.bool false, .string ⟨#[]⟩, .string ⟨#[]⟩, .string ⟨#[]⟩, .int .i64 0, .bool false, .bool false]) 7 72 Try.underlying38 hi hz0 hz1 hz2 rfl (by decide) _ _ _ rfl HO3.out ⟨wr.heap.size + 1, 0, none⟩ 1 1 [.bool xk, .string xc, .string xg, .string xs, .int .i64 xn, .bool xr, .bool xj] rfl rfl HCE.out ?n1 ?n2 ?n3 ?n4 (by decide) ?_))
        case n1 => first | exact ⟨rfl, rfl, rfl, rfl, rfl, rfl, rfl⟩ | (intro u hu; simp only [List.mem_cons, List.not_mem_nil, or_false] at hu; rcases hu with rfl | rfl | rfl | rfl | rfl | rfl | rfl <;> rfl)
        case n2 => unfold maxLen; omega
        case n3 => omega
        case n4 => first | omega | (simp; omega)
        intro v' w7 ho hg hbk
        have HO7 := Lib.hid (show w7.ownsRow w.heap.size 35 7 v' (R ++ [(⟨xk, xc, xg, xs, xn, xr, xj⟩ : Rg)]).length (flatR (R ++ [(⟨xk, xc, xg, xs, xn, xr, xj⟩ : Rg)])) by rw [List.length_append, List.length_singleton, flatR_snoc]; exact ho)
        have HB7 := Lib.hid (HB3.out.grown hg (by simp; omega) (fun g h => by have := (HOL.out g h).1; omega))
        clear ho hg hbk HO3 HB3 HCE HOL
        go_wp2_with fail
        go_roundw
        case rel => exact ⟨R ++ [(⟨xk, xc, xg, xs, xn, xr, xj⟩ : Rg)], by rw [List.length_append, List.length_singleton]; omega, by rw [List.length_append, List.length_singleton]; go_num, HO7, HB7, Lib.hid (by rw [List.length_append, List.length_singleton, HX2.out])⟩
        case measure => simp [intOf]; omega
    · have hl : ¬ (R.length : Int) < (len : Int) := by omega
      have hRM : R = M := by
        rw [HR.out]
        exact List.take_of_length_le (by omega)
      have HRM := Lib.hid hRM
      clear hRM
      go_wp2_with fail
      go_ret
      exact ⟨HB.out, .slice ao R.length cv, rfl, by
        have h1 : R.length = len := by rw [HRM.out]; exact hMl
        rw [← HRM.out, ← h1]; exact HO.out⟩
end Go.Proofs.Ytlleebgkglbelaa
