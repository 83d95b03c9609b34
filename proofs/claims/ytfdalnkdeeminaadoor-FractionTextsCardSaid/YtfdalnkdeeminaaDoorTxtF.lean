/- The reference's Parse of any text. -/
import Derived.Test.YtfdalnkdeeminaaDoorTxtD
set_option linter.unusedSimpArgs false
set_option linter.unusedVariables false
namespace Go.Proofs.YtfdalnkdeeminaaDoor
open Go.RowKit

theorem ba_ext' {a b : ByteArray} (h : a.data.toList = b.data.toList) : a = b := ByteArray.ext (Array.toList_inj.1 h)
theorem strip_any (s : ByteArray) : StripP s ⟨(Lib.trimPrefix s.data.toList [45]).toArray⟩ (Lib.hasPrefix s.data.toList [45]) := by
  have hsz : s.size = s.data.toList.length := rfl
  unfold StripP Lib.trimPrefix Lib.hasPrefix
  cases hL : s.data.toList with
  | nil =>
    left
    rw [hL] at hsz
    exact ⟨by rw [hsz]; simp, rfl, ba_ext' (by rw [hL]; rfl)⟩
  | cons c q =>
    right
    rw [hL] at hsz
    have h0 : 0 < s.size := by rw [hsz]; simp
    have hc : s[0]'h0 = c := by
      have : s.data.toList[0]'(by rw [hL]; simp) = c := by simp only [hL]; rfl
      exact this
    by_cases h : c = 45
    · subst h
      right
      refine ⟨h0, by rw [hc]; rfl, by simp [List.isPrefixOf], ba_ext' ?_⟩
      rw [ext_drop, hL]
      simp [List.isPrefixOf]
    · left
      have hne : (45 : UInt8) ≠ c := fun e => h e.symm
      refine ⟨h0, ?_, by simp [List.isPrefixOf, hne], ba_ext' ?_⟩
      · rw [hc]
        intro e
        exact h (UInt8.toNat_inj.1 (by rw [e]; rfl))
      · rw [hL]
        simp [List.isPrefixOf, hne]
theorem dig_any (x : ByteArray) (hx : x.size ≤ 100) : DigP x (if digOk x.data.toList = true then numL x.data.toList else 0) (digOk x.data.toList) := fun W => rdigits_any x W hx

theorem rparse_any (s : ByteArray) (hs : s.size ≤ 100) (w : World) :
    Calls Tryd.prog 39 #[.string s] w fun e w' => e = .returned (fracE (parseS s)) ∧ Below w.heap.size w w' := by
  unfold parseS
  rw [← parse_same]
  have hl : (Lib.trimPrefix s.data.toList [45]).length ≤ 100 := by
    have : s.data.toList.length ≤ 100 := hs
    unfold Lib.trimPrefix
    split <;> simp <;> omega
  have HS := Lib.hid (strip_any s)
  generalize Lib.hasPrefix s.data.toList [45] = neg at *
  generalize Lib.trimPrefix s.data.toList [45] = l at *
  have el : (⟨l.toArray⟩ : ByteArray).data.toList = l := by simp
  have hsz : (⟨l.toArray⟩ : ByteArray).size = l.length := by simp [ByteArray.size]
  generalize hr : (⟨l.toArray⟩ : ByteArray) = r at *
  clear hr hs
  have hcl := cutAt_le l
  have hn : cutAt l ≤ r.size := by omega
  have gr : ∀ (k : Nat) (hk : k < r.size), r[k]'hk = l[k]'(by omega) := by
    intro k hk
    have : r.data.toList[k]'(by show k < r.size; exact hk) = l[k]'(by omega) := by simp only [el]
    exact this
  have HL : Hid (∀ (k : Nat) (_ : k < cutAt l) (hk : k < r.size), ¬ ((r[k]'hk).toNat = 47 ∨ (r[k]'hk).toNat = 46)) := by
    intro k h1 hk
    rw [gr k hk]
    exact cutAt_not l k h1 (by omega)
  have eF := ext_take r (cutAt l)
  rw [el] at eF
  have szF : (r.extract 0 (cutAt l)).size = cutAt l := by
    show (r.extract 0 (cutAt l)).data.toList.length = _
    rw [eF, List.length_take]; omega
  have HD := dig_any (r.extract 0 (cutAt l)) (by omega)
  rw [eF] at HD
  unfold rparseL
  by_cases h1 : digOk (l.take (cutAt l)) = true
  · rw [if_pos h1]
    rw [if_pos h1, h1] at HD
    obtain ⟨d1, d2, d3⟩ := digOk_all h1
    obtain ⟨a0, a1⟩ := numL_64 _ d1 d3
    cases hd : l.drop (cutAt l) with
    | nil =>
      have hx : cutAt l = r.size := by have := List.drop_eq_nil_iff.1 hd; omega
      refine rparse_1 (b := 0) HS (by omega) hn HL hx (Lib.hid HD) (Lib.hid ?_) w
      rintro bb rfl W
      exact rbuild_one _ _ 1 a0 (by omega) (by omega) (by omega) W
    | cons c q =>
      have hlt : cutAt l < l.length := by
        have := congrArg List.length hd
        rw [List.length_drop, List.length_cons] at this
        omega
      have hc0 : cutAt l < r.size := by omega
      have hq : l.drop (cutAt l + 1) = q := by
        rw [← List.drop_drop, hd]; rfl
      have hcc : (r[cutAt l]'hc0) = c := by
        rw [gr _ hc0]
        have h2 := List.drop_eq_getElem_cons hlt
        rw [hd] at h2
        exact (List.cons.inj h2).1.symm
      have eQ := ext_drop r (cutAt l + 1)
      rw [el, hq] at eQ
      have hql : q.length = r.size - (cutAt l + 1) := by
        rw [← hq, List.length_drop]; omega
      have szQ : (r.extract (cutAt l + 1) r.size).size = q.length := by
        show (r.extract (cutAt l + 1) r.size).data.toList.length = _
        rw [eQ]
      have HD2 := dig_any (r.extract (cutAt l + 1) r.size) (by omega)
      rw [eQ] at HD2
      have hce := cutAt_end l hlt
      rw [← gr _ hc0, hcc] at hce
      simp only
      by_cases h2 : digOk q = true
      · rw [if_pos h2]
        rw [if_pos h2, h2] at HD2
        obtain ⟨q1, q2, q3⟩ := digOk_all h2
        obtain ⟨b0, b1⟩ := numL_64 _ q1 q3
        by_cases h47 : c.toNat = 47
        · rw [if_pos h47]
          by_cases hz : numL q = 0
          · rw [if_pos hz]
            exact rparse_3 (t := (0, 0, 0)) HS (by omega) hn HL hc0 (by rw [hcc]; exact h47) (Lib.hid HD) (Lib.hid HD2) hz w
          · rw [if_neg hz]
            refine rparse_4 HS (by omega) hn HL hc0 (by rw [hcc]; exact h47) (Lib.hid HD) (Lib.hid HD2) (by simpa using hz) (Lib.hid ?_) w
            rintro bb rfl W
            exact rbuild_one _ _ _ a0 (by omega) (by omega) (by omega) W
        · rw [if_neg h47]
          have h46 : c.toNat = 46 := by omega
          by_cases h18 : 18 < cutAt l + q.length
          · rw [if_pos h18]
            exact rparse_5 (t := (0, 0, 0)) HS (by omega) hn HL hc0 (by rw [hcc]; exact h46) (Lib.hid HD) (Lib.hid HD2) (by omega) w
          · rw [if_neg h18]
            have hall : AllDig (l.take (cutAt l) ++ q) := by
              intro x hx
              rcases List.mem_append.1 hx with h' | h'
              · exact d1 x h'
              · exact q1 x h'
            have tot := numL_bd _ hall
            rw [numL_append] at tot
            have hpow : (10 : Int) ^ (l.take (cutAt l) ++ q).length ≤ 1000000000000000000 := by
              have hk : (l.take (cutAt l) ++ q).length ≤ 18 := by rw [List.length_append, List.length_take]; omega
              revert hk
              generalize (l.take (cutAt l) ++ q).length = k
              revert k
              decide
            obtain ⟨p0, p1⟩ := pw10_bd (q.length : Nat) (by omega)
            have hm : 0 ≤ numL (l.take (cutAt l)) * pw10 (q.length : Nat) := Int.mul_nonneg a0 (by omega)
            refine rparse_6 HS (by omega) hn HL hc0 (by rw [hcc]; exact h46) (Lib.hid HD) (Lib.hid HD2) (by omega) (D := pw10 (q.length : Nat)) (by rw [hql]) a0 (by omega) b0 (by omega) (Lib.hid ?_) w
            rintro bb rfl W
            exact rbuild_one _ _ _ (by omega) (by omega) (by omega) (by omega) W
      · rw [if_neg h2]
        rw [if_neg h2, Bool.eq_false_iff.2 h2] at HD2
        rcases hce with h47 | h46
        · exact rparse_2_47 (t := (0, 0, 0)) HS (by omega) hn HL hc0 (by rw [hcc]; exact h47) (Lib.hid HD) (Lib.hid HD2) w
        · exact rparse_2_46 (t := (0, 0, 0)) HS (by omega) hn HL hc0 (by rw [hcc]; exact h46) (Lib.hid HD) (Lib.hid HD2) w
  · rw [if_neg h1]
    rw [if_neg h1, Bool.eq_false_iff.2 h1] at HD
    by_cases hlt : cutAt l < l.length
    · have hc0 : cutAt l < r.size := by omega
      have hce := cutAt_end l hlt
      rw [← gr _ hc0] at hce
      rcases hce with h47 | h46
      · exact rparse_0_47 (b := 0) (t := (0, 0, 0)) HS (by omega) hn HL hc0 h47 (Lib.hid HD) w
      · exact rparse_0_46 (b := 0) (t := (0, 0, 0)) HS (by omega) hn HL hc0 h46 (Lib.hid HD) w
    · exact rparse_0_0 (b := 0) (t := (0, 0, 0)) HS (by omega) hn HL (by omega) (Lib.hid HD) w
end Go.Proofs.YtfdalnkdeeminaaDoor
