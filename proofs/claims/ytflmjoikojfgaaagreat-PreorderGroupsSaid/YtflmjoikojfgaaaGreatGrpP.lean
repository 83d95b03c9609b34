/- Plain facts of groups: one behind the other they are the order; they tie within; the earlier ones are ahead; places. -/
import Derived.Test.YtflmjoikojfgaaaGreatGroups
set_option linter.unusedSimpArgs false
set_option linter.unusedVariables false
namespace Go.Proofs.YtflmjoikojfgaaaGreat
open Go.RowKit Go.Sort

def dIx (C : List (List (Int × Int))) (i k : Nat) : Int := ahC (C.getD i []) (C.getD k [])
structure GrpS (C : List (List (Int × Int))) (O : List Nat) (k : Nat) : Prop where
  flat : (grpK C O k).flatten = O.take k
  ne : ∀ g ∈ grpK C O k, g ≠ []
  tie : ∀ g ∈ grpK C O k, ∀ o ∈ g, ∀ r ∈ g, dIx C o r = 0
  pw : (grpK C O k).Pairwise fun g h => ∀ o ∈ g, ∀ r ∈ h, dIx C o r < 0
  last : 0 < k → ∃ A g, grpK C O k = A ++ [g] ∧ O.getD (k - 1) 0 ∈ g
theorem grp_step {C : List (List (Int × Int))} {O : List Nat} {m : Nat} (hl : ∀ r ∈ C, r.length = m) (h : OrdL C O) {k : Nat} (hk : k < O.length) (ih : GrpS C O k) : GrpS C O (k + 1) := by
  have T := tot_ix hl
  have hO : ∀ i ∈ O, i < C.length := fun i hi => h.lt hi
  have hx : O.getD k 0 = O[k] := by simp [List.getD, hk]
  have hxm : O.getD k 0 ∈ O := by rw [hx]; exact List.getElem_mem hk
  have hxb := hO _ hxm
  have hflat : O.take (k + 1) = O.take k ++ [O.getD k 0] := by rw [List.take_succ_eq_append_getElem hk, hx]
  have hmem : ∀ g ∈ grpK C O k, ∀ o ∈ g, o < C.length := fun g hg o ho => hO o (List.mem_of_mem_take (ih.flat ▸ List.mem_flatten.2 ⟨g, hg, ho⟩))
  have refl : ∀ i, i < C.length → dIx C i i = 0 := fun i hi => T.refl ⟨i, hi⟩
  have turn : ∀ i j, i < C.length → j < C.length → dIx C i j = - dIx C j i := fun i j hi hj => T.turn ⟨i, hi⟩ ⟨j, hj⟩
  have ltle : ∀ i j l, i < C.length → j < C.length → l < C.length → dIx C i j < 0 → dIx C j l ≤ 0 → dIx C i l < 0 := fun i j l hi hj hl => T.lt_le (x := ⟨i, hi⟩) (y := ⟨j, hj⟩) (z := ⟨l, hl⟩)
  have lelt : ∀ i j l, i < C.length → j < C.length → l < C.length → dIx C i j ≤ 0 → dIx C j l < 0 → dIx C i l < 0 := fun i j l hi hj hl => T.le_lt (x := ⟨i, hi⟩) (y := ⟨j, hj⟩) (z := ⟨l, hl⟩)
  have eqeq : ∀ i j l, i < C.length → j < C.length → l < C.length → dIx C i j = 0 → dIx C j l = 0 → dIx C i l = 0 := fun i j l hi hj hl => T.eq_eq (x := ⟨i, hi⟩) (y := ⟨j, hj⟩) (z := ⟨l, hl⟩)
  rcases Nat.eq_zero_or_pos k with h0 | hpos
  · subst h0
    have e : grpK C O 1 = [[O.getD 0 0]] := by simp [grpK]
    refine ⟨?_, ?_, ?_, ?_, fun _ => ⟨[], [O.getD 0 0], by rw [e]; rfl, by simp⟩⟩
    · rw [e, hflat]; simp
    · rw [e]; simp
    · rw [e]
      intro g hg o ho r hr
      rw [List.mem_singleton] at hg
      subst hg
      rw [List.mem_singleton] at ho hr
      subst ho hr
      exact refl _ hxb
    · rw [e]; simp
  · obtain ⟨A, g, hG, hy⟩ := ih.last hpos
    have hgm : g ∈ grpK C O k := by rw [hG]; simp
    have hyb := hmem g hgm _ hy
    have hpw := ih.pw
    rw [hG, List.pairwise_append] at hpw
    obtain ⟨pA, _, pAg⟩ := hpw
    have pAg' : ∀ a ∈ A, ∀ o ∈ a, ∀ r ∈ g, dIx C o r < 0 := fun a ha => pAg a ha g (by simp)
    have hAm : ∀ a ∈ A, a ∈ grpK C O k := fun a ha => by rw [hG]; simp [ha]
    by_cases ht : tieB C (O.getD (k - 1) 0) (O.getD k 0) = true
    · have hd : dIx C (O.getD (k - 1) 0) (O.getD k 0) = 0 := of_decide_eq_true ht
      have e : grpK C O (k + 1) = A ++ [g ++ [O.getD k 0]] := by
        conv => lhs; unfold grpK
        rw [if_pos ⟨hpos, ht⟩, hG]
        simp
      have ox : ∀ o ∈ g, dIx C o (O.getD k 0) = 0 := fun o ho => eqeq _ _ _ (hmem g hgm o ho) hyb hxb (ih.tie g hgm o ho _ hy) hd
      refine ⟨?_, ?_, ?_, ?_, fun _ => ⟨A, g ++ [O.getD k 0], e, by simp⟩⟩
      · rw [e, hflat, ← ih.flat, hG]; simp
      · rw [e]
        intro q hq
        rw [List.mem_append, List.mem_singleton] at hq
        rcases hq with hq | rfl
        · exact ih.ne q (hAm q hq)
        · simp
      · rw [e]
        intro q hq o ho r hr
        rw [List.mem_append, List.mem_singleton] at hq
        rcases hq with hq | rfl
        · exact ih.tie q (hAm q hq) o ho r hr
        · rw [List.mem_append, List.mem_singleton] at ho hr
          rcases ho with ho | rfl <;> rcases hr with hr | rfl
          · exact ih.tie g hgm o ho r hr
          · exact ox o ho
          · rw [turn _ _ hxb (hmem g hgm r hr), ox r hr]; rfl
          · exact refl _ hxb
      · rw [e, List.pairwise_append]
        refine ⟨pA, by simp, fun a ha q hq o ho r hr => ?_⟩
        rw [List.mem_singleton] at hq
        subst hq
        rw [List.mem_append, List.mem_singleton] at hr
        rcases hr with hr | rfl
        · exact pAg' a ha o ho r hr
        · exact ltle _ _ _ (hmem a (hAm a ha) o ho) hyb hxb (pAg' a ha o ho _ hy) (Int.le_of_eq hd)
    · have hne : dIx C (O.getD (k - 1) 0) (O.getD k 0) ≠ 0 := fun e => ht (decide_eq_true e)
      have hp : k - 1 < O.length := by omega
      have hyv : O.getD (k - 1) 0 = O[k - 1] := by simp [List.getD, hp]
      have hs := (h.srt (k - 1) k hp hk (by omega)).1
      have hlt : dIx C (O.getD (k - 1) 0) (O.getD k 0) < 0 := by
        have h1 : ¬ dIx C (O.getD k 0) (O.getD (k - 1) 0) < 0 := by rw [hx, hyv]; exact hs
        have h2 := turn _ _ hyb hxb
        omega
      have e : grpK C O (k + 1) = grpK C O k ++ [[O.getD k 0]] := by
        conv => lhs; unfold grpK
        rw [if_neg (fun hh => ht hh.2)]
      refine ⟨?_, ?_, ?_, ?_, fun _ => ⟨grpK C O k, [O.getD k 0], e, by simp⟩⟩
      · rw [e, hflat, List.flatten_append, ih.flat]; simp
      · rw [e]
        intro q hq
        rw [List.mem_append, List.mem_singleton] at hq
        rcases hq with hq | rfl
        · exact ih.ne q hq
        · simp
      · rw [e]
        intro q hq o ho r hr
        rw [List.mem_append, List.mem_singleton] at hq
        rcases hq with hq | rfl
        · exact ih.tie q hq o ho r hr
        · rw [List.mem_singleton] at ho hr
          subst ho hr
          exact refl _ hxb
      · rw [e, List.pairwise_append]
        refine ⟨ih.pw, by simp, fun a ha q hq o ho r hr => ?_⟩
        rw [List.mem_singleton] at hq
        subst hq
        rw [List.mem_singleton] at hr
        subst hr
        have hle : dIx C o (O.getD (k - 1) 0) ≤ 0 := by
          rw [hG, List.mem_append, List.mem_singleton] at ha
          rcases ha with ha | rfl
          · exact Int.le_of_lt (pAg' a ha o ho _ hy)
          · exact Int.le_of_eq (ih.tie _ hgm o ho _ hy)
        exact lelt _ _ _ (hmem a ha o ho) hyb hxb hle hlt
theorem grp_all {C : List (List (Int × Int))} {O : List Nat} {m : Nat} (hl : ∀ r ∈ C, r.length = m) (h : OrdL C O) : ∀ k, k ≤ O.length → GrpS C O k
  | 0, _ => ⟨by simp [grpK], by simp [grpK], by simp [grpK], by simp [grpK], fun h => absurd h (Nat.lt_irrefl 0)⟩
  | k + 1, hk => grp_step hl h (by omega) (grp_all hl h k (by omega))
theorem getD_map_range (C : List (List (Int × Int))) : (List.range C.length).map (fun i => C.getD i []) = C := by
  apply List.ext_getElem
  · simp
  · intro j h1 h2
    simp [List.getD, h2]
/-- the place of each row of a group -/
theorem grp_place {C : List (List (Int × Int))} {O : List Nat} {m : Nat} (hl : ∀ r ∈ C, r.length = m) (h : OrdL C O) {A B : List (List Nat)} {g : List Nat} (hG : grpK C O O.length = A ++ g :: B) {r : Nat} (hr : r ∈ g) :
    (plcL ahC C).getD r 0 = 1 + (A.flatten.length : Int) := by
  have S := grp_all hl h O.length (Nat.le_refl _)
  have T := tot_ix hl
  have hgm : g ∈ grpK C O O.length := by rw [hG]; simp
  have hO : ∀ i ∈ O, i < C.length := fun i hi => h.lt hi
  have hfl : O = A.flatten ++ (g ++ B.flatten) := by
    have := S.flat
    rw [List.take_of_length_le (Nat.le_refl _), hG] at this
    rw [← this]; simp
  have hmem : ∀ q ∈ grpK C O O.length, ∀ o ∈ q, o < C.length := fun q hq o ho => hO o (List.mem_of_mem_take (S.flat ▸ List.mem_flatten.2 ⟨q, hq, ho⟩))
  have hrb := hmem g hgm r hr
  have hpw := S.pw
  rw [hG, List.pairwise_append] at hpw
  obtain ⟨_, pB, pA⟩ := hpw
  have pg := (List.pairwise_cons.1 pB).1
  have hv : (plcL ahC C).getD r 0 = 1 + (befN ahC C (C.getD r []) : Int) := by
    unfold plcL
    simp [List.getD, hrb]
  rw [hv]
  have hb : befN ahC C (C.getD r []) = O.countP fun o => decide (dIx C o r < 0) := by
    unfold befN
    have h1 := congrArg (List.countP fun y => decide (ahC y (C.getD r []) < 0)) (getD_map_range C).symm
    rw [h1, List.countP_map, h.perm.countP_eq]
    rfl
  rw [hb]
  conv => lhs; rw [hfl]
  rw [List.countP_append, List.countP_append]
  have c1 : A.flatten.countP (fun o => decide (dIx C o r < 0)) = A.flatten.length := by
    rw [List.countP_eq_length]
    intro o ho
    obtain ⟨q, hq, ho⟩ := List.mem_flatten.1 ho
    exact decide_eq_true (pA q hq g (by simp) o ho r hr)
  have c2 : g.countP (fun o => decide (dIx C o r < 0)) = 0 := by
    rw [List.countP_eq_zero]
    intro o ho
    rw [S.tie g hgm o ho r hr]
    decide
  have c3 : B.flatten.countP (fun o => decide (dIx C o r < 0)) = 0 := by
    rw [List.countP_eq_zero]
    intro o ho
    obtain ⟨q, hq, ho⟩ := List.mem_flatten.1 ho
    have h1 := pg q hq r hr o ho
    have h2 : dIx C o r = - dIx C r o := T.turn ⟨o, hmem q (by rw [hG]; simp [hq]) o ho⟩ ⟨r, hrb⟩
    rw [decide_eq_true_eq]
    omega
  rw [c1, c2, c3]
  simp
end Go.Proofs.YtflmjoikojfgaaaGreat
