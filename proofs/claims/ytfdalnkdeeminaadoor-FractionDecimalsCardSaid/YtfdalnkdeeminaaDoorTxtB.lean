/- Contracts of package fraction: parseQuotient, parseDecimal, Parse of any text. -/
import Derived.Test.YtfdalnkdeeminaaDoorTxt
import Derived.Test.YtfdalnkdeeminaaDoorEgB
import Derived.Lib.SmallJoins
set_option linter.unusedSimpArgs false
set_option linter.unusedVariables false
namespace Go.Proofs.YtfdalnkdeeminaaDoor
open Go.RowKit

theorem bnum {s : ByteArray} {w : World} (hs : s.size ≤ 19) (hd : AllDig s.data.toList) : Calls Tryd.prog 64 #[.string s] w fun e w' => e = .returned (.int .u64 (numL s.data.toList)) ∧ w = w' := number_any s w hs hd
theorem numL_u64 {s : ByteArray} (hs : s.size ≤ 19) (hd : AllDig s.data.toList) : 0 ≤ numL s.data.toList ∧ numL s.data.toList ≤ 18446744073709551615 := by
  have := numL_64 s.data.toList hd hs
  omega

set_option maxHeartbeats 1000000 in
set_option maxRecDepth 100000 in
theorem quot_any {f f2 : ByteArray} (neg : Bool) (hs : f.size ≤ 19) (hd : AllDig f.data.toList) (hs2 : f2.size ≤ 19) (hd2 : AllDig f2.data.toList) (w : World) :
    Calls Tryd.prog 65 #[.bool neg, .string f, .string f2] w fun e w' => e = .returned (fracE (if numL f2.data.toList = 0 then (0, 0, 1) else bndI neg (numL f.data.toList) (numL f2.data.toList))) ∧ Below w.heap.size w w' := by
  obtain ⟨a0, a1⟩ := numL_u64 hs hd
  obtain ⟨b0, b1⟩ := numL_u64 hs2 hd2
  have HN := Lib.hid (fun W => number_any f W hs hd)
  have HN2 := Lib.hid (fun W => number_any f2 W hs2 hd2)
  by_cases h0 : numL f2.data.toList = 0
  · rw [if_pos h0]
    rw [h0] at HN2
    clear a0 a1 b0 b1 h0
    go_enter Tryd.func65, Tryd.ntmps65
    go_wp2_with fail
    refine (HN2.out _).mono ?_
    rintro e w1 ⟨rfl, rfl⟩
    go_wp2
    refine bodyPost_ret (v := fracE (0, 0, 1)) (by simp [results, Tryd.results65, go_sem]) rfl ⟨rfl, (by repeat (first | with_reducible exact Below.refl _ _ | (with_reducible refine Below.setCell ?_ (by first | exact Nat.le_refl _ | omega | (simp; done) | (simp; omega)) _) | (with_reducible refine Below.alloc ?_ (by first | exact Nat.le_refl _ | omega | (simp; done) | (simp; omega)) _) | with_reducible refine Below.drew ?_ | with_reducible refine bel_drewN ?_ _ | (with_reducible refine bel_by (by with_reducible assumption) (by first | exact Nat.le_refl _ | omega | (simp; done) | (simp; omega)) ?_)))⟩
  · rw [if_neg h0]
    have HR := Lib.hid (fun W => reduced_any neg (numL f.data.toList) (numL f2.data.toList) a0 a1 (by omega) b1 W)
    have hz : (numL f2.data.toList == 0) = false := by simpa using h0
    clear a0 a1 b0 b1 h0
    generalize bndI neg (numL f.data.toList) (numL f2.data.toList) = t at *
    generalize numL f.data.toList = a at *
    generalize numL f2.data.toList = b at *
    go_enter Tryd.func65, Tryd.ntmps65
    go_wp2_with fail
    refine (HN2.out _).mono ?_
    rintro e w1 ⟨rfl, rfl⟩
    go_wp2_with fail
    refine (HN.out _).mono ?_
    rintro e w1 ⟨rfl, rfl⟩
    go_wp2_with fail
    refine (HR.out _).mono ?_
    rintro e w1 ⟨rfl, hb1⟩
    obtain ⟨hc1, hf1⟩ := bcell hb1
    have hz1 := bsize hb1
    simp at hz1
    have k0 : w.heap.size < w1.heap.size := by omega
    go_wp2
    refine bodyPost_ret (v := fracE t) (by simp [results, Tryd.results65, go_sem, hc1, hf1, k0]) rfl ⟨rfl, (by repeat (first | with_reducible exact Below.refl _ _ | (with_reducible refine Below.setCell ?_ (by first | exact Nat.le_refl _ | omega | (simp; done) | (simp; omega)) _) | (with_reducible refine Below.alloc ?_ (by first | exact Nat.le_refl _ | omega | (simp; done) | (simp; omega)) _) | with_reducible refine Below.drew ?_ | with_reducible refine bel_drewN ?_ _ | (with_reducible refine bel_by (by with_reducible assumption) (by first | exact Nat.le_refl _ | omega | (simp; done) | (simp; omega)) ?_)))⟩

set_option maxHeartbeats 1000000 in
set_option maxRecDepth 100000 in
theorem decim_any {f f2 : ByteArray} (neg : Bool) (hs : f.size ≤ 19) (hd : AllDig f.data.toList) (hs2 : f2.size ≤ 19) (hd2 : AllDig f2.data.toList) (w : World) :
    Calls Tryd.prog 66 #[.bool neg, .string f, .string f2] w fun e w' => e = .returned (fracE (if 18 < f.size + f2.size then (0, 0, 2) else bndI neg (numL (f.data.toList ++ f2.data.toList)) (pw10 f2.size))) ∧ Below w.heap.size w w' := by
  by_cases h0 : 18 < f.size + f2.size
  · rw [if_pos h0]
    have h1 : (18 : Int) < (f.size : Int) + (f2.size : Int) := by omega
    have h2 : (f.size : Int) ≤ 19 := by omega
    have h3 : (f2.size : Int) ≤ 19 := by omega
    clear h0 hd hd2
    go_enter Tryd.func66, Tryd.ntmps66
    go_wp2
    refine bodyPost_ret (v := fracE (0, 0, 2)) (by simp [results, Tryd.results66, go_sem]) rfl ⟨rfl, (by repeat (first | with_reducible exact Below.refl _ _ | (with_reducible refine Below.setCell ?_ (by first | exact Nat.le_refl _ | omega | (simp; done) | (simp; omega)) _) | (with_reducible refine Below.alloc ?_ (by first | exact Nat.le_refl _ | omega | (simp; done) | (simp; omega)) _) | with_reducible refine Below.drew ?_ | with_reducible refine bel_drewN ?_ _ | (with_reducible refine bel_by (by with_reducible assumption) (by first | exact Nat.le_refl _ | omega | (simp; done) | (simp; omega)) ?_)))⟩
  · rw [if_neg h0]
    have e1 : (f ++ f2).data.toList = f.data.toList ++ f2.data.toList := Joins.data_append f f2
    have hsz : (f ++ f2).size = f.size + f2.size := by simp
    have hd3 : AllDig (f ++ f2).data.toList := by
      rw [e1]
      intro c hc
      rcases List.mem_append.1 hc with h | h
      · exact hd c h
      · exact hd2 c h
    have HN := Lib.hid (fun W => number_any (f ++ f2) W (by omega) hd3)
    obtain ⟨a0, a1⟩ := numL_u64 (s := f ++ f2) (by omega) hd3
    rw [e1] at HN a0 a1
    obtain ⟨p0, p1⟩ := pw10_bd f2.size (by omega)
    have HP := Lib.hid (fun W => power_any f2.size (by omega) (by omega) W)
    have HR := Lib.hid (fun W => reduced_any neg (numL (f.data.toList ++ f2.data.toList)) (pw10 f2.size) a0 a1 (by omega) (by omega) W)
    have h1 : ¬ (18 : Int) < (f.size : Int) + (f2.size : Int) := by omega
    have h2 : (f.size : Int) ≤ 19 := by omega
    have h3 : (f2.size : Int) ≤ 19 := by omega
    clear a0 a1 p0 p1 h0 hd3 e1 hd hd2 hsz
    generalize bndI neg (numL (f.data.toList ++ f2.data.toList)) (pw10 f2.size) = t at *
    generalize numL (f.data.toList ++ f2.data.toList) = a at *
    generalize pw10 f2.size = b at *
    go_enter Tryd.func66, Tryd.ntmps66
    go_wp2_with fail
    refine (HN.out _).mono ?_
    rintro e w1 ⟨rfl, rfl⟩
    go_wp2_with fail
    refine (HP.out _).mono ?_
    rintro e w1 ⟨rfl, rfl⟩
    go_wp2_with fail
    refine (HR.out _).mono ?_
    rintro e w1 ⟨rfl, hb1⟩
    obtain ⟨hc1, hf1⟩ := bcell hb1
    have hz1 := bsize hb1
    simp at hz1
    have k0 : w.heap.size < w1.heap.size := by omega
    go_wp2
    refine bodyPost_ret (v := fracE t) (by simp [results, Tryd.results66, go_sem, hc1, hf1, k0]) rfl ⟨rfl, (by repeat (first | with_reducible exact Below.refl _ _ | (with_reducible refine Below.setCell ?_ (by first | exact Nat.le_refl _ | omega | (simp; done) | (simp; omega)) _) | (with_reducible refine Below.alloc ?_ (by first | exact Nat.le_refl _ | omega | (simp; done) | (simp; omega)) _) | with_reducible refine Below.drew ?_ | with_reducible refine bel_drewN ?_ _ | (with_reducible refine bel_by (by with_reducible assumption) (by first | exact Nat.le_refl _ | omega | (simp; done) | (simp; omega)) ?_)))⟩

/-- what Parse returns, of the text behind the sign -/
def parseL (neg : Bool) (l : List UInt8) : Int × Int × Int :=
  if 1 ≤ runL l ∧ runL l ≤ 19 then
    match l.drop (runL l) with
    | [] => bndI neg (numL (l.take (runL l))) 1
    | c :: q =>
      if 1 ≤ runL q ∧ runL q ≤ 19 ∧ q.drop (runL q) = [] then
        if c.toNat = 47 then (if numL (q.take (runL q)) = 0 then (0, 0, 1) else bndI neg (numL (l.take (runL l))) (numL (q.take (runL q))))
        else if c.toNat = 46 then (if 18 < runL l + runL q then (0, 0, 2) else bndI neg (numL (l.take (runL l) ++ q.take (runL q))) (pw10 (runL q : Nat)))
        else (0, 0, 2)
      else (0, 0, 2)
  else (0, 0, 2)
def parseS (s : ByteArray) : Int × Int × Int := parseL (Lib.hasPrefix s.data.toList [45]) (Lib.trimPrefix s.data.toList [45])
theorem runL_all (l : List UInt8) : AllDig (l.take (runL l)) := by
  induction l with
  | nil => intro c hc; simp at hc
  | cons x l ih =>
    by_cases hx : isDig x = true
    · rw [runL, if_pos hx, List.take_succ_cons]
      intro c hc
      rcases List.mem_cons.1 hc with rfl | h
      · exact hx
      · exact ih c h
    · rw [runL, if_neg hx]
      intro c hc
      simp at hc
theorem ext_take (r : ByteArray) (n : Nat) : (r.extract 0 n).data.toList = r.data.toList.take n := by
  rw [ByteArray.data_extract, Array.toList_extract]; simp [List.extract]
theorem ext_drop (r : ByteArray) (n : Nat) : (r.extract n r.size).data.toList = r.data.toList.drop n := by
  rw [ByteArray.data_extract, Array.toList_extract]
  simp [List.extract]
  refine List.take_of_length_le ?_
  rw [List.length_drop]
  exact Nat.le_refl _
theorem cutP_any (r : ByteArray) (hr : r.size ≤ 9223372036854775807) : CutP r (r.extract 0 (runS r)) (r.extract (runS r) r.size) (decide (1 ≤ runS r ∧ runS r ≤ 19)) := by
  intro W
  refine (cutRun_any r W hr).mono ?_
  rintro e w' ⟨rfl, n, rfl⟩
  exact ⟨rfl, (by repeat (first | with_reducible exact Below.refl _ _ | (with_reducible refine Below.setCell ?_ (by first | exact Nat.le_refl _ | omega | (simp; done) | (simp; omega)) _) | (with_reducible refine Below.alloc ?_ (by first | exact Nat.le_refl _ | omega | (simp; done) | (simp; omega)) _) | with_reducible refine Below.drew ?_ | with_reducible refine bel_drewN ?_ _ | (with_reducible refine bel_by (by with_reducible assumption) (by first | exact Nat.le_refl _ | omega | (simp; done) | (simp; omega)) ?_)))⟩
theorem empty_iff (R : ByteArray) : R.toList.isEmpty = decide (R.data.toList = []) := by
  rw [ByteArray.toList_eq]
  cases R.data.toList <;> simp

set_option maxHeartbeats 1000000 in
/-- fraction.Parse -/
theorem parse_any (s : ByteArray) (hs : s.size ≤ 100) (w : World) :
    Calls Tryd.prog 38 #[.string s] w fun e w' => e = .returned (fracE (parseS s)) ∧ Below w.heap.size w w' := by
  unfold parseS
  have hl : (Lib.trimPrefix s.data.toList [45]).length ≤ 100 := by
    have : s.data.toList.length ≤ 100 := hs
    unfold Lib.trimPrefix
    split <;> simp <;> omega
  have HP : PreP s ⟨(Lib.trimPrefix s.data.toList [45]).toArray⟩ (Lib.hasPrefix s.data.toList [45]) := by
    intro W
    refine (Tryd.strings_CutPrefix s ⟨#[45]⟩ W).mono ?_
    rintro e w' ⟨rfl, rfl⟩
    exact ⟨rfl, rfl⟩
  generalize Lib.hasPrefix s.data.toList [45] = neg at *
  generalize Lib.trimPrefix s.data.toList [45] = l at *
  have el : (⟨l.toArray⟩ : ByteArray).data.toList = l := by simp
  have hsz : (⟨l.toArray⟩ : ByteArray).size = l.length := by simp [ByteArray.size]
  generalize hr : (⟨l.toArray⟩ : ByteArray) = r at *
  have en : runS r = runL l := by unfold runS; rw [el]
  have HC := cutP_any r (by omega)
  have eF := ext_take r (runS r)
  have eR := ext_drop r (runS r)
  have hsF : (r.extract 0 (runS r)).size = min (runS r) l.length := by
    show (r.extract 0 (runS r)).data.toList.length = _
    rw [eF, List.length_take, el]
  have dF := runL_all l
  rw [en, el] at eF eR
  rw [en] at HC hsF
  have hnl := runL_le l
  generalize (r.extract 0 (runL l)) = f at *
  generalize (r.extract (runL l) r.size) = R at *
  rw [← eF] at dF
  unfold parseL
  by_cases h1 : 1 ≤ runL l ∧ runL l ≤ 19
  · rw [if_pos h1]
    rw [decide_eq_true h1] at HC
    have hsf : f.size ≤ 19 := by omega
    cases hd : l.drop (runL l) with
    | nil =>
      rw [hd] at eR
      obtain ⟨a0, a1⟩ := numL_u64 hsf dF
      have HN := Lib.hid (fun W => number_any f W hsf dF)
      have HD := Lib.hid (fun W => reduced_any neg (numL f.data.toList) 1 a0 a1 (by omega) (by omega) W)
      rw [eF] at HN HD
      exact parse_1 HP HC (by rw [empty_iff, eR]; rfl) HN HD w
    | cons c q =>
      rw [hd] at eR
      have hlen : R.data.toList.length = q.length + 1 := by rw [eR]; rfl
      have h0 : 0 < R.size := by show 0 < R.data.toList.length; omega
      have hR : R.toList.isEmpty = false := by rw [empty_iff, eR]; rfl
      have ec : R[0]'h0 = c := by
        have : R.data.toList[0]'(by omega) = c := by simp only [eR]; rfl
        exact this
      have eq1 : (R.extract 1 R.size).data.toList = q := by rw [ext_drop, eR]; rfl
      have hq : q.length ≤ 100 := by
        have := congrArg List.length hd
        rw [List.length_drop, List.length_cons] at this
        omega
      have hsq : (R.extract 1 R.size).size = q.length := by show (R.extract 1 R.size).data.toList.length = _; rw [eq1]
      have HC2 := cutP_any (R.extract 1 R.size) (by omega)
      have eF2 := ext_take (R.extract 1 R.size) (runS (R.extract 1 R.size))
      have eR2 := ext_drop (R.extract 1 R.size) (runS (R.extract 1 R.size))
      have en2 : runS (R.extract 1 R.size) = runL q := by unfold runS; rw [eq1]
      rw [en2, eq1] at eF2 eR2
      rw [en2] at HC2
      have dF2 := runL_all q
      have hnq := runL_le q
      generalize ((R.extract 1 R.size).extract 0 (runL q)) = f2 at *
      generalize ((R.extract 1 R.size).extract (runL q) (R.extract 1 R.size).size) = R2 at *
      rw [← eF2] at dF2
      have hs2 : f2.size = runL q := by show f2.data.toList.length = _; rw [eF2, List.length_take]; omega
      have hs1 : f.size = runL l := by omega
      simp only
      by_cases h2 : 1 ≤ runL q ∧ runL q ≤ 19
      · rw [decide_eq_true h2] at HC2
        by_cases h3 : q.drop (runL q) = []
        · rw [if_pos ⟨h2.1, h2.2, h3⟩]
          have hR2 : R2.toList.isEmpty = true := by rw [empty_iff, eR2, h3]; rfl
          by_cases h4 : c.toNat = 47
          · rw [if_pos h4]
            have HD := Lib.hid (fun W => quot_any neg hsf dF (by omega) dF2 W)
            rw [eF, eF2] at HD
            exact parse_4 HP HC hR h0 HC2 hR2 (by rw [ec]; exact h4) HD w
          · rw [if_neg h4]
            by_cases h5 : c.toNat = 46
            · rw [if_pos h5]
              have HD := Lib.hid (fun W => decim_any neg hsf dF (by omega) dF2 W)
              rw [eF, eF2, hs1, hs2] at HD
              exact parse_5 HP HC hR h0 HC2 hR2 (by rw [ec]; exact h5) HD w
            · rw [if_neg h5]
              exact parse_6 HP HC hR h0 HC2 hR2 (by rw [ec]; omega) (by rw [ec]; omega) w
        · rw [if_neg (fun h => h3 h.2.2)]
          exact parse_3 HP HC hR h0 HC2 (by rw [empty_iff, eR2]; simpa using h3) w
      · rw [if_neg (fun h => h2 ⟨h.1, h.2.1⟩)]
        rw [decide_eq_false h2] at HC2
        exact parse_2 HP HC hR h0 HC2 w
  · rw [if_neg h1]
    rw [decide_eq_false h1] at HC
    exact parse_0 HP HC w
end Go.Proofs.YtfdalnkdeeminaaDoor
