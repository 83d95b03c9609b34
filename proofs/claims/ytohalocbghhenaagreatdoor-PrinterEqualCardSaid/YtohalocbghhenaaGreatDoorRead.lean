/- Contracts of layer 9: readRun, readString, read. -/
import Derived.Test.YtohalocbghhenaaGreatDoorVal
set_option linter.unusedSimpArgs false
set_option linter.unusedVariables false
namespace Go.Proofs.YtohalocbghhenaaGreatDoor
open Go.RowKit

def resV (x : Tk × Nat × Int) : Value := .tuple #[x.1.val, .int .i64 (x.2.1 : Int), .int .i64 x.2.2]
set_option maxHeartbeats 2000000 in
set_option maxRecDepth 100000 in
theorem readRun_any (s : ByteArray) (hs : s.size ≤ 1000000) (w : World) (hT : Tabs w) : Calls Tryz.prog 104 #[.string s] w fun e w' => e = .returned (resV (runR (s.data.toList.takeWhile runB))) ∧ Below w.heap.size w w' := by
  have hle := twN_le runB s
  have HX := Lib.hid (twN_ext runB s)
  have HL := Lib.hid (fun w hT => runLength_any s (by omega) w hT)
  have hz : (bs (s.data.toList.takeWhile runB)).size = twN runB s := by rw [bs_size]; rfl
  have hb0 := bs_data (s.data.toList.takeWhile runB)
  have HT := Lib.hid hT
  clear hT
  generalize s.data.toList.takeWhile runB = l at *
  obtain ⟨u, hu⟩ : ∃ u, bs l = u := ⟨_, rfl⟩
  rw [hu] at hz hb0 HX
  subst hb0
  have HW := Lib.hid (fun w hT => wordlike_any u (by omega) w hT)
  have HN := Lib.hid (fun w hT => thousandths_any u (by omega) w hT)
  have HR := Lib.hid (show runR u.data.toList = if wordB u.data.toList then (if 32 < u.data.toList.length then tokE 6 else (⟨1, bs u.data.toList, 0, 0⟩, u.data.toList.length, 0)) else if (numS u.data.toList).2 = 0 then (⟨2, bs [], (numS u.data.toList).1, 0⟩, u.data.toList.length, 0) else tokE (numS u.data.toList).2 from rfl)
  rw [list_size, bs_list] at HR
  obtain ⟨r, hr⟩ : ∃ r, twN runB s = r := ⟨_, rfl⟩
  rw [hr] at hle HX HL hz
  clear hu
  generalize runR u.data.toList = R at *
  generalize numS u.data.toList = Q at *
  obtain ⟨q1, q2⟩ := Q
  simp only at HN HR
  cases h1 : wordB u.data.toList with
  | true =>
    rw [h1] at HW
    by_cases h2 : 32 < u.size
    · have hR := HR.out
      rw [h1, if_pos rfl, if_pos h2] at hR
      subst hR
      have h32 : 32 < r := by omega
      clear HR h1
      have hX := HX.out
      go_enter Tryz.func104, Tryz.ntmps104
      go_wp2_with fail
      refine (HL.out _ (HT.out.below ((Below.refl _ _).alloc (Nat.le_refl _) _))).mono ?_
      rintro e w1 ⟨rfl, rfl⟩
      go_wp2_with fail
      refine (HW.out _ (HT.out.below ((Below.refl _ _).alloc (Nat.le_refl _) _))).mono ?_
      rintro e w1 ⟨rfl, hb1⟩
      have HB := Lib.hid hb1
      have HT1 := Lib.hid ((HT.out.below ((Below.refl _ _).alloc (Nat.le_refl _) _)).below hb1)
      obtain ⟨z0, z1, z2, z3, zf, zl⟩ := (tk_new w noTk 51).keep hb1
      have HBW := Lib.hid (show Below w.heap.size w w1 from (by repeat (first | with_reducible exact Below.refl _ _ | (with_reducible refine Below.setCell ?_ (by first | exact Nat.le_refl _ | omega | (simp; done) | (simp; omega)) _) | (with_reducible refine Below.alloc ?_ (by first | exact Nat.le_refl _ | omega | (simp; done) | (simp; omega)) _) | with_reducible refine Below.drew ?_ | with_reducible refine bel_drewN ?_ _ | (with_reducible refine bel_by (by with_reducible assumption) (by first | exact Nat.le_refl _ | omega | (simp; done) | (simp; omega)) ?_))))
      clear hb1
      go_wp2_with fail
      have hbw := HBW.out
      refine bodyPost_ret (v := resV (tokE 6)) (by simp [results, Tryz.results104, go_sem, resV, tokE, Tk.val, noTk, bs, z0, z1, z2, z3, zf, zl, hz]) rfl ⟨rfl, (by repeat (first | with_reducible exact Below.refl _ _ | (with_reducible refine Below.setCell ?_ (by first | exact Nat.le_refl _ | omega | (simp; done) | (simp; omega)) _) | (with_reducible refine Below.alloc ?_ (by first | exact Nat.le_refl _ | omega | (simp; done) | (simp; omega)) _) | with_reducible refine Below.drew ?_ | with_reducible refine bel_drewN ?_ _ | (with_reducible refine bel_by (by with_reducible assumption) (by first | exact Nat.le_refl _ | omega | (simp; done) | (simp; omega)) ?_)))⟩
    · have hR := HR.out
      rw [h1, if_pos rfl, if_neg h2, hz] at hR
      subst hR
      have h32 : ¬ 32 < r := by omega
      clear HR h1 h2
      have hX := HX.out
      go_enter Tryz.func104, Tryz.ntmps104
      go_wp2_with fail
      refine (HL.out _ (HT.out.below ((Below.refl _ _).alloc (Nat.le_refl _) _))).mono ?_
      rintro e w1 ⟨rfl, rfl⟩
      go_wp2_with fail
      refine (HW.out _ (HT.out.below ((Below.refl _ _).alloc (Nat.le_refl _) _))).mono ?_
      rintro e w1 ⟨rfl, hb1⟩
      have HB := Lib.hid hb1
      have HT1 := Lib.hid ((HT.out.below ((Below.refl _ _).alloc (Nat.le_refl _) _)).below hb1)
      obtain ⟨z0, z1, z2, z3, zf, zl⟩ := (tk_new w noTk 51).keep hb1
      have HBW := Lib.hid (show Below w.heap.size w w1 from (by repeat (first | with_reducible exact Below.refl _ _ | (with_reducible refine Below.setCell ?_ (by first | exact Nat.le_refl _ | omega | (simp; done) | (simp; omega)) _) | (with_reducible refine Below.alloc ?_ (by first | exact Nat.le_refl _ | omega | (simp; done) | (simp; omega)) _) | with_reducible refine Below.drew ?_ | with_reducible refine bel_drewN ?_ _ | (with_reducible refine bel_by (by with_reducible assumption) (by first | exact Nat.le_refl _ | omega | (simp; done) | (simp; omega)) ?_))))
      clear hb1
      go_wp2_with fail
      have hbw := HBW.out
      refine bodyPost_ret (v := resV (⟨1, u, 0, 0⟩, r, 0)) (by simp [results, Tryz.results104, go_sem, resV, tokE, Tk.val, noTk, bs, z0, z1, z2, z3, zf, zl, hz]) rfl ⟨rfl, (by repeat (first | with_reducible exact Below.refl _ _ | (with_reducible refine Below.setCell ?_ (by first | exact Nat.le_refl _ | omega | (simp; done) | (simp; omega)) _) | (with_reducible refine Below.alloc ?_ (by first | exact Nat.le_refl _ | omega | (simp; done) | (simp; omega)) _) | with_reducible refine Below.drew ?_ | with_reducible refine bel_drewN ?_ _ | (with_reducible refine bel_by (by with_reducible assumption) (by first | exact Nat.le_refl _ | omega | (simp; done) | (simp; omega)) ?_)))⟩
  | false =>
    rw [h1] at HW
    by_cases h2 : q2 = 0
    · subst h2
      have hR := HR.out
      rw [h1, if_neg (by simp), if_pos rfl, hz] at hR
      subst hR
      clear HR h1
      have hX := HX.out
      go_enter Tryz.func104, Tryz.ntmps104
      go_wp2_with fail
      refine (HL.out _ (HT.out.below ((Below.refl _ _).alloc (Nat.le_refl _) _))).mono ?_
      rintro e w1 ⟨rfl, rfl⟩
      go_wp2_with fail
      refine (HW.out _ (HT.out.below ((Below.refl _ _).alloc (Nat.le_refl _) _))).mono ?_
      rintro e w1 ⟨rfl, hb1⟩
      have HB := Lib.hid hb1
      have HT1 := Lib.hid ((HT.out.below ((Below.refl _ _).alloc (Nat.le_refl _) _)).below hb1)
      obtain ⟨z0, z1, z2, z3, zf, zl⟩ := (tk_new w noTk 51).keep hb1
      have HBW := Lib.hid (show Below w.heap.size w w1 from (by repeat (first | with_reducible exact Below.refl _ _ | (with_reducible refine Below.setCell ?_ (by first | exact Nat.le_refl _ | omega | (simp; done) | (simp; omega)) _) | (with_reducible refine Below.alloc ?_ (by first | exact Nat.le_refl _ | omega | (simp; done) | (simp; omega)) _) | with_reducible refine Below.drew ?_ | with_reducible refine bel_drewN ?_ _ | (with_reducible refine bel_by (by with_reducible assumption) (by first | exact Nat.le_refl _ | omega | (simp; done) | (simp; omega)) ?_))))
      clear hb1
      go_wp2_with fail
      refine (HN.out _ HT1.out).mono ?_
      rintro e w2 ⟨rfl, hb2⟩
      have hbw0 := HBW.out
      have hz2 := bsize hb2
      have HBW2 := Lib.hid (show Below w.heap.size w w2 from (by repeat (first | with_reducible exact Below.refl _ _ | (with_reducible refine Below.setCell ?_ (by first | exact Nat.le_refl _ | omega | (simp; done) | (simp; omega)) _) | (with_reducible refine Below.alloc ?_ (by first | exact Nat.le_refl _ | omega | (simp; done) | (simp; omega)) _) | with_reducible refine Below.drew ?_ | with_reducible refine bel_drewN ?_ _ | (with_reducible refine bel_by (by with_reducible assumption) (by first | exact Nat.le_refl _ | omega | (simp; done) | (simp; omega)) ?_))))
      replace z0 := (hb2.cell (p := ⟨w.heap.size, 0, none⟩) zl).trans z0
      replace z1 := (hb2.cell (p := ⟨w.heap.size, 1, none⟩) zl).trans z1
      replace z2 := (hb2.cell (p := ⟨w.heap.size, 2, none⟩) zl).trans z2
      replace z3 := (hb2.cell (p := ⟨w.heap.size, 3, none⟩) zl).trans z3
      replace zf := fun k => (hb2.frozen (p := ⟨w.heap.size, k, none⟩) zl).trans (zf k)
      replace zl : w.heap.size < w2.heap.size := by omega
      clear hb2 hbw0 hz2 HBW
      have HBW := HBW2
      go_wp2_with fail
      have hbw := HBW.out
      refine bodyPost_ret (v := resV (⟨2, bs [], q1, 0⟩, r, 0)) (by simp [results, Tryz.results104, go_sem, resV, tokE, Tk.val, noTk, bs, z0, z1, z2, z3, zf, zl, hz]) rfl ⟨rfl, (by repeat (first | with_reducible exact Below.refl _ _ | (with_reducible refine Below.setCell ?_ (by first | exact Nat.le_refl _ | omega | (simp; done) | (simp; omega)) _) | (with_reducible refine Below.alloc ?_ (by first | exact Nat.le_refl _ | omega | (simp; done) | (simp; omega)) _) | with_reducible refine Below.drew ?_ | with_reducible refine bel_drewN ?_ _ | (with_reducible refine bel_by (by with_reducible assumption) (by first | exact Nat.le_refl _ | omega | (simp; done) | (simp; omega)) ?_)))⟩
    · have hR := HR.out
      rw [h1, if_neg (by simp), if_neg h2] at hR
      subst hR
      have k2 : (q2 != 0) = true := by simpa using h2
      have k3 : (q2 == 0) = false := by simpa using h2
      clear HR h1 h2
      have hX := HX.out
      go_enter Tryz.func104, Tryz.ntmps104
      go_wp2_with fail
      refine (HL.out _ (HT.out.below ((Below.refl _ _).alloc (Nat.le_refl _) _))).mono ?_
      rintro e w1 ⟨rfl, rfl⟩
      go_wp2_with fail
      refine (HW.out _ (HT.out.below ((Below.refl _ _).alloc (Nat.le_refl _) _))).mono ?_
      rintro e w1 ⟨rfl, hb1⟩
      have HB := Lib.hid hb1
      have HT1 := Lib.hid ((HT.out.below ((Below.refl _ _).alloc (Nat.le_refl _) _)).below hb1)
      obtain ⟨z0, z1, z2, z3, zf, zl⟩ := (tk_new w noTk 51).keep hb1
      have HBW := Lib.hid (show Below w.heap.size w w1 from (by repeat (first | with_reducible exact Below.refl _ _ | (with_reducible refine Below.setCell ?_ (by first | exact Nat.le_refl _ | omega | (simp; done) | (simp; omega)) _) | (with_reducible refine Below.alloc ?_ (by first | exact Nat.le_refl _ | omega | (simp; done) | (simp; omega)) _) | with_reducible refine Below.drew ?_ | with_reducible refine bel_drewN ?_ _ | (with_reducible refine bel_by (by with_reducible assumption) (by first | exact Nat.le_refl _ | omega | (simp; done) | (simp; omega)) ?_))))
      clear hb1
      go_wp2_with fail
      refine (HN.out _ HT1.out).mono ?_
      rintro e w2 ⟨rfl, hb2⟩
      have hbw0 := HBW.out
      have hz2 := bsize hb2
      have HBW2 := Lib.hid (show Below w.heap.size w w2 from (by repeat (first | with_reducible exact Below.refl _ _ | (with_reducible refine Below.setCell ?_ (by first | exact Nat.le_refl _ | omega | (simp; done) | (simp; omega)) _) | (with_reducible refine Below.alloc ?_ (by first | exact Nat.le_refl _ | omega | (simp; done) | (simp; omega)) _) | with_reducible refine Below.drew ?_ | with_reducible refine bel_drewN ?_ _ | (with_reducible refine bel_by (by with_reducible assumption) (by first | exact Nat.le_refl _ | omega | (simp; done) | (simp; omega)) ?_))))
      replace z0 := (hb2.cell (p := ⟨w.heap.size, 0, none⟩) zl).trans z0
      replace z1 := (hb2.cell (p := ⟨w.heap.size, 1, none⟩) zl).trans z1
      replace z2 := (hb2.cell (p := ⟨w.heap.size, 2, none⟩) zl).trans z2
      replace z3 := (hb2.cell (p := ⟨w.heap.size, 3, none⟩) zl).trans z3
      replace zf := fun k => (hb2.frozen (p := ⟨w.heap.size, k, none⟩) zl).trans (zf k)
      replace zl : w.heap.size < w2.heap.size := by omega
      clear hb2 hbw0 hz2 HBW
      have HBW := HBW2
      go_wp2_with fail
      have hbw := HBW.out
      refine bodyPost_ret (v := resV (tokE q2)) (by simp [results, Tryz.results104, go_sem, resV, tokE, Tk.val, noTk, bs, z0, z1, z2, z3, zf, zl, hz]) rfl ⟨rfl, (by repeat (first | with_reducible exact Below.refl _ _ | (with_reducible refine Below.setCell ?_ (by first | exact Nat.le_refl _ | omega | (simp; done) | (simp; omega)) _) | (with_reducible refine Below.alloc ?_ (by first | exact Nat.le_refl _ | omega | (simp; done) | (simp; omega)) _) | with_reducible refine Below.drew ?_ | with_reducible refine bel_drewN ?_ _ | (with_reducible refine bel_by (by with_reducible assumption) (by first | exact Nat.le_refl _ | omega | (simp; done) | (simp; omega)) ?_)))⟩
set_option maxHeartbeats 2000000 in
set_option maxRecDepth 100000 in
theorem readString_any (s : ByteArray) (hs : s.size ≤ 1000000) (h1 : 1 ≤ s.size) (w : World) (hT : Tabs w) : Calls Tryz.prog 105 #[.string s] w fun e w' => e = .returned (resV (strR (s.data.toList.drop 1))) ∧ Below w.heap.size w w' := by
  obtain ⟨u, hu⟩ : ∃ u, s.extract 1 s.size = u := ⟨_, rfl⟩
  have hul : u.data.toList = s.data.toList.drop 1 := by rw [← hu, ext_list, List.take_of_length_le (by rw [List.length_drop, list_size]; exact Nat.le_refl _)]
  have hus : u.size = s.size - 1 := by rw [← hu]; simp
  rw [← hul]
  have HC := Lib.hid (fun W hW => cut_any u 34 (by omega) W hW)
  have HR := Lib.hid (show strR u.data.toList = if (quoL u.data.toList).length = u.data.toList.length then tokE 2 else if titE (quoL u.data.toList) = 0 then (⟨3, bs (quoL u.data.toList), 0, 0⟩, (quoL u.data.toList).length + 2, 0) else tokE (titE (quoL u.data.toList)) from rfl)
  have hcon : ((quoL u.data.toList).length = u.data.toList.length) ↔ u.data.toList.contains 34 = false := by
    constructor
    · intro h
      cases hc : u.data.toList.contains 34 with
      | false => rfl
      | true =>
        have h2 : ∃ c ∈ u.data.toList, c = 34 := ⟨34, List.contains_iff_mem.1 hc, rfl⟩
        have h3 := (tw_take (· != 34) u.data.toList).1
        have h4 : (u.data.toList.takeWhile (· != 34)).length = u.data.toList.length := h
        rw [h4, List.take_length] at h3
        have h5 := List.contains_iff_mem.1 hc
        rw [h3] at h5
        have := List.all_eq_true.1 (List.all_takeWhile (p := (· != 34)) (l := u.data.toList)) 34 h5
        simp at this
    · intro h
      show (u.data.toList.takeWhile (· != 34)).length = _
      rw [(no_byte h).1]
  rw [list_size] at HR hcon
  have hql : (quoL u.data.toList).length ≤ u.size := by
    have := (tl_le (· != 34) u.data.toList).1
    rw [list_size] at this; exact this
  have eq1 : quoL u.data.toList = u.data.toList.takeWhile (· != 34) := rfl
  rw [← eq1] at HC
  have HT := Lib.hid hT
  generalize quoL u.data.toList = ql at *
  generalize (u.data.toList.dropWhile (· != 34)).drop 1 = rest at *
  generalize u.data.toList.contains 34 = cb at *
  obtain ⟨t, ht⟩ : ∃ t, bs ql = t := ⟨_, rfl⟩
  have htl : ql = t.data.toList := by rw [← ht, bs_data]
  have htz : ql.length = t.size := by rw [htl, list_size]
  rw [htz] at HR hcon hql
  rw [ht] at HR HC
  rw [htl] at HR
  have HTT := Lib.hid (fun W hW => titled_any t (by omega) W hW)
  generalize strR u.data.toList = R at *
  generalize titE t.data.toList = q at *
  have HX := Lib.hid hu
  have HCON := Lib.hid hcon
  clear hT hul hu eq1 ht htl htz hcon
  have h1i : ¬ (1 : Int) > (s.size : Int) := by omega
  cases cb with
  | false =>
    have hR := HR.out
    rw [if_pos (HCON.out.2 rfl)] at hR
    subst hR
    clear HR
    have hX := HX.out
    go_enter Tryz.func105, Tryz.ntmps105
    go_wp2_with fail
    refine (HC.out _ (HT.out.below ((Below.refl _ _).alloc (Nat.le_refl _) _))).mono ?_
    rintro e w1 ⟨rfl, hb1⟩
    have HT1 := Lib.hid ((HT.out.below ((Below.refl _ _).alloc (Nat.le_refl _) _)).below hb1)
    obtain ⟨z0, z1, z2, z3, zf, zl⟩ := (tk_new w noTk 51).keep hb1
    have HBW := Lib.hid (show Below w.heap.size w w1 from (by repeat (first | with_reducible exact Below.refl _ _ | (with_reducible refine Below.setCell ?_ (by first | exact Nat.le_refl _ | omega | (simp; done) | (simp; omega)) _) | (with_reducible refine Below.alloc ?_ (by first | exact Nat.le_refl _ | omega | (simp; done) | (simp; omega)) _) | with_reducible refine Below.drew ?_ | with_reducible refine bel_drewN ?_ _ | (with_reducible refine bel_by (by with_reducible assumption) (by first | exact Nat.le_refl _ | omega | (simp; done) | (simp; omega)) ?_))))
    clear hb1
    go_wp2_with fail
    have hbw := HBW.out
    refine bodyPost_ret (v := resV (tokE 2)) (by simp [results, Tryz.results105, go_sem, resV, tokE, Tk.val, noTk, bs, z0, z1, z2, z3, zf, zl, hus]) rfl ⟨rfl, (by repeat (first | with_reducible exact Below.refl _ _ | (with_reducible refine Below.setCell ?_ (by first | exact Nat.le_refl _ | omega | (simp; done) | (simp; omega)) _) | (with_reducible refine Below.alloc ?_ (by first | exact Nat.le_refl _ | omega | (simp; done) | (simp; omega)) _) | with_reducible refine Below.drew ?_ | with_reducible refine bel_drewN ?_ _ | (with_reducible refine bel_by (by with_reducible assumption) (by first | exact Nat.le_refl _ | omega | (simp; done) | (simp; omega)) ?_)))⟩
  | true =>
    have hne : ¬ t.size = u.size := fun h => by have := HCON.out.1 h; contradiction
    have hR := HR.out
    rw [if_neg hne] at hR
    clear HR HCON
    by_cases h2 : q = 0
    · subst h2
      rw [if_pos rfl] at hR
      subst hR
      have hX := HX.out
      go_enter Tryz.func105, Tryz.ntmps105
      go_wp2_with fail
      refine (HC.out _ (HT.out.below ((Below.refl _ _).alloc (Nat.le_refl _) _))).mono ?_
      rintro e w1 ⟨rfl, hb1⟩
      have HT1 := Lib.hid ((HT.out.below ((Below.refl _ _).alloc (Nat.le_refl _) _)).below hb1)
      obtain ⟨z0, z1, z2, z3, zf, zl⟩ := (tk_new w noTk 51).keep hb1
      have HBW := Lib.hid (show Below w.heap.size w w1 from (by repeat (first | with_reducible exact Below.refl _ _ | (with_reducible refine Below.setCell ?_ (by first | exact Nat.le_refl _ | omega | (simp; done) | (simp; omega)) _) | (with_reducible refine Below.alloc ?_ (by first | exact Nat.le_refl _ | omega | (simp; done) | (simp; omega)) _) | with_reducible refine Below.drew ?_ | with_reducible refine bel_drewN ?_ _ | (with_reducible refine bel_by (by with_reducible assumption) (by first | exact Nat.le_refl _ | omega | (simp; done) | (simp; omega)) ?_))))
      clear hb1
      go_wp2_with fail
      refine (HTT.out _ HT1.out).mono ?_
      rintro e w2 ⟨rfl, rfl⟩
      go_wp2_with fail
      have hbw := HBW.out
      refine bodyPost_ret (v := resV (⟨3, t, 0, 0⟩, t.size + 2, 0)) (by simp [results, Tryz.results105, go_sem, resV, tokE, Tk.val, noTk, bs, z0, z1, z2, z3, zf, zl, hus]) rfl ⟨rfl, (by repeat (first | with_reducible exact Below.refl _ _ | (with_reducible refine Below.setCell ?_ (by first | exact Nat.le_refl _ | omega | (simp; done) | (simp; omega)) _) | (with_reducible refine Below.alloc ?_ (by first | exact Nat.le_refl _ | omega | (simp; done) | (simp; omega)) _) | with_reducible refine Below.drew ?_ | with_reducible refine bel_drewN ?_ _ | (with_reducible refine bel_by (by with_reducible assumption) (by first | exact Nat.le_refl _ | omega | (simp; done) | (simp; omega)) ?_)))⟩
    · rw [if_neg h2] at hR
      subst hR
      have k2 : (q != 0) = true := by simpa using h2
      have k3 : (q == 0) = false := by simpa using h2
      clear h2
      have hX := HX.out
      go_enter Tryz.func105, Tryz.ntmps105
      go_wp2_with fail
      refine (HC.out _ (HT.out.below ((Below.refl _ _).alloc (Nat.le_refl _) _))).mono ?_
      rintro e w1 ⟨rfl, hb1⟩
      have HT1 := Lib.hid ((HT.out.below ((Below.refl _ _).alloc (Nat.le_refl _) _)).below hb1)
      obtain ⟨z0, z1, z2, z3, zf, zl⟩ := (tk_new w noTk 51).keep hb1
      have HBW := Lib.hid (show Below w.heap.size w w1 from (by repeat (first | with_reducible exact Below.refl _ _ | (with_reducible refine Below.setCell ?_ (by first | exact Nat.le_refl _ | omega | (simp; done) | (simp; omega)) _) | (with_reducible refine Below.alloc ?_ (by first | exact Nat.le_refl _ | omega | (simp; done) | (simp; omega)) _) | with_reducible refine Below.drew ?_ | with_reducible refine bel_drewN ?_ _ | (with_reducible refine bel_by (by with_reducible assumption) (by first | exact Nat.le_refl _ | omega | (simp; done) | (simp; omega)) ?_))))
      clear hb1
      go_wp2_with fail
      refine (HTT.out _ HT1.out).mono ?_
      rintro e w2 ⟨rfl, rfl⟩
      go_wp2_with fail
      have hbw := HBW.out
      refine bodyPost_ret (v := resV (tokE q)) (by simp [results, Tryz.results105, go_sem, resV, tokE, Tk.val, noTk, bs, z0, z1, z2, z3, zf, zl, hus]) rfl ⟨rfl, (by repeat (first | with_reducible exact Below.refl _ _ | (with_reducible refine Below.setCell ?_ (by first | exact Nat.le_refl _ | omega | (simp; done) | (simp; omega)) _) | (with_reducible refine Below.alloc ?_ (by first | exact Nat.le_refl _ | omega | (simp; done) | (simp; omega)) _) | with_reducible refine Below.drew ?_ | with_reducible refine bel_drewN ?_ _ | (with_reducible refine bel_by (by with_reducible assumption) (by first | exact Nat.le_refl _ | omega | (simp; done) | (simp; omega)) ?_)))⟩
set_option maxHeartbeats 2000000 in
set_option maxRecDepth 100000 in
theorem read_any (s : ByteArray) (hs : s.size ≤ 1000000) (w : World) (hT : Tabs w) : Calls Tryz.prog 91 #[.string s] w fun e w' => e = .returned (resV (readL s.data.toList)) ∧ Below w.heap.size w w' := by
  by_cases h0 : s.size = 0
  · obtain ⟨k1, k2⟩ := str_empty h0
    have HE := Lib.hid (show readL s.data.toList = (⟨5, bs [], 0, 0⟩, 0, 0) by rw [size0 h0]; rfl)
    clear h0
    go_enter Tryz.func91, Tryz.ntmps91
    go_wp2_with fail
    refine bodyPost_ret (v := resV (⟨5, bs [], 0, 0⟩, 0, 0)) (by simp [results, Tryz.results91, go_sem, resV, Tk.val, bs]) rfl ⟨by rw [HE.out], (by repeat (first | with_reducible exact Below.refl _ _ | (with_reducible refine Below.setCell ?_ (by first | exact Nat.le_refl _ | omega | (simp; done) | (simp; omega)) _) | (with_reducible refine Below.alloc ?_ (by first | exact Nat.le_refl _ | omega | (simp; done) | (simp; omega)) _) | with_reducible refine Below.drew ?_ | with_reducible refine bel_drewN ?_ _ | (with_reducible refine bel_by (by with_reducible assumption) (by first | exact Nat.le_refl _ | omega | (simp; done) | (simp; omega)) ?_)))⟩
  · have hp : 0 < s.size := by omega
    obtain ⟨k1, k2⟩ := str_full hp
    have HK := Lib.hid (fun W hW => kind_any (s[0]'hp) W hW)
    have HL := Lib.hid (show readL s.data.toList = if runB (s[0]'hp) then runR (s.data.toList.takeWhile runB) else if kB (s[0]'hp) = 3 then strR (s.data.toList.drop 1) else if kB (s[0]'hp) = 8 then (⟨4, bs [s[0]'hp], 0, 0⟩, 1, 0) else tokE 2 by
      have hd := drop_cons s 0 hp
      rw [List.drop_zero] at hd
      rw [hd, readL_cons]
      simp)
    have HB := Lib.hid (show runB (s[0]'hp) = (decide (4 ≤ kB (s[0]'hp)) && decide (kB (s[0]'hp) ≤ 7)) from rfl)
    have HE := Lib.hid (show s.extract 0 1 = bs [s[0]'hp] by
      refine (bs_of ?_).symm
      rw [ext_list, List.drop_zero]
      have hd := drop_cons s 0 hp
      rw [List.drop_zero] at hd
      rw [hd]
      rfl)
    have HRR := Lib.hid (fun W hW => readRun_any s hs W hW)
    have HRS := Lib.hid (fun W hW => readString_any s hs hp W hW)
    have HT := Lib.hid hT
    have hkl := kB_lt (s[0]'hp)
    clear hT h0
    generalize readL s.data.toList = R at *
    generalize runR (s.data.toList.takeWhile runB) = R1 at *
    generalize strR (s.data.toList.drop 1) = R2 at *
    obtain ⟨⟨a1, a2, a3, a4⟩, a5, a6⟩ := R1
    obtain ⟨⟨b1, b2, b3, b4⟩, b5, b6⟩ := R2
    simp only [resV, Tk.val] at HRR HRS
    generalize runB (s[0]'hp) = rb at *
    obtain ⟨kn, hkn⟩ : ∃ kn, kB (s[0]'hp) = kn := ⟨_, rfl⟩
    rw [hkn] at HK HL HB hkl
    clear hkn
    have way : (kn = 4 ∨ kn = 5 ∨ kn = 6 ∨ kn = 7) ∨ kn = 3 ∨ kn = 8 ∨ (kn = 0 ∨ kn = 1 ∨ kn = 2) := by omega
    rcases way with (rfl | rfl | rfl | rfl) | rfl | rfl | (rfl | rfl | rfl)
    · have hR := HL.out
      have hb : rb = true := by rw [HB.out]; decide
      rw [hb, if_pos rfl] at hR
      subst hR
      clear HL HB hb
      go_enter Tryz.func91, Tryz.ntmps91
      go_wp2_with fail
      refine (HK.out _ (HT.out.below ((Below.refl _ _).alloc (Nat.le_refl _) _))).mono ?_
      rintro e w1 ⟨rfl, rfl⟩
      go_wp2_with fail
      refine (HRR.out _ (HT.out.below ((Below.refl _ _).alloc (Nat.le_refl _) _))).mono ?_
      rintro e w1 ⟨rfl, hb1⟩
      obtain ⟨z0, z1, z2, z3, zf, zl⟩ := (tk_new w noTk 51).keep hb1
      have HBW := Lib.hid (show Below w.heap.size w w1 from (by repeat (first | with_reducible exact Below.refl _ _ | (with_reducible refine Below.setCell ?_ (by first | exact Nat.le_refl _ | omega | (simp; done) | (simp; omega)) _) | (with_reducible refine Below.alloc ?_ (by first | exact Nat.le_refl _ | omega | (simp; done) | (simp; omega)) _) | with_reducible refine Below.drew ?_ | with_reducible refine bel_drewN ?_ _ | (with_reducible refine bel_by (by with_reducible assumption) (by first | exact Nat.le_refl _ | omega | (simp; done) | (simp; omega)) ?_))))
      clear hb1
      go_wp2_with fail
      have hbw := HBW.out
      refine bodyPost_ret (v := resV (⟨a1, a2, a3, a4⟩, a5, a6)) (by simp [results, Tryz.results91, go_sem, resV, tokE, Tk.val, noTk, bs, z0, z1, z2, z3, zf, zl, k1]) rfl ⟨rfl, (by repeat (first | with_reducible exact Below.refl _ _ | (with_reducible refine Below.setCell ?_ (by first | exact Nat.le_refl _ | omega | (simp; done) | (simp; omega)) _) | (with_reducible refine Below.alloc ?_ (by first | exact Nat.le_refl _ | omega | (simp; done) | (simp; omega)) _) | with_reducible refine Below.drew ?_ | with_reducible refine bel_drewN ?_ _ | (with_reducible refine bel_by (by with_reducible assumption) (by first | exact Nat.le_refl _ | omega | (simp; done) | (simp; omega)) ?_)))⟩
    · have hR := HL.out
      have hb : rb = true := by rw [HB.out]; decide
      rw [hb, if_pos rfl] at hR
      subst hR
      clear HL HB hb
      go_enter Tryz.func91, Tryz.ntmps91
      go_wp2_with fail
      refine (HK.out _ (HT.out.below ((Below.refl _ _).alloc (Nat.le_refl _) _))).mono ?_
      rintro e w1 ⟨rfl, rfl⟩
      go_wp2_with fail
      refine (HRR.out _ (HT.out.below ((Below.refl _ _).alloc (Nat.le_refl _) _))).mono ?_
      rintro e w1 ⟨rfl, hb1⟩
      obtain ⟨z0, z1, z2, z3, zf, zl⟩ := (tk_new w noTk 51).keep hb1
      have HBW := Lib.hid (show Below w.heap.size w w1 from (by repeat (first | with_reducible exact Below.refl _ _ | (with_reducible refine Below.setCell ?_ (by first | exact Nat.le_refl _ | omega | (simp; done) | (simp; omega)) _) | (with_reducible refine Below.alloc ?_ (by first | exact Nat.le_refl _ | omega | (simp; done) | (simp; omega)) _) | with_reducible refine Below.drew ?_ | with_reducible refine bel_drewN ?_ _ | (with_reducible refine bel_by (by with_reducible assumption) (by first | exact Nat.le_refl _ | omega | (simp; done) | (simp; omega)) ?_))))
      clear hb1
      go_wp2_with fail
      have hbw := HBW.out
      refine bodyPost_ret (v := resV (⟨a1, a2, a3, a4⟩, a5, a6)) (by simp [results, Tryz.results91, go_sem, resV, tokE, Tk.val, noTk, bs, z0, z1, z2, z3, zf, zl, k1]) rfl ⟨rfl, (by repeat (first | with_reducible exact Below.refl _ _ | (with_reducible refine Below.setCell ?_ (by first | exact Nat.le_refl _ | omega | (simp; done) | (simp; omega)) _) | (with_reducible refine Below.alloc ?_ (by first | exact Nat.le_refl _ | omega | (simp; done) | (simp; omega)) _) | with_reducible refine Below.drew ?_ | with_reducible refine bel_drewN ?_ _ | (with_reducible refine bel_by (by with_reducible assumption) (by first | exact Nat.le_refl _ | omega | (simp; done) | (simp; omega)) ?_)))⟩
    · have hR := HL.out
      have hb : rb = true := by rw [HB.out]; decide
      rw [hb, if_pos rfl] at hR
      subst hR
      clear HL HB hb
      go_enter Tryz.func91, Tryz.ntmps91
      go_wp2_with fail
      refine (HK.out _ (HT.out.below ((Below.refl _ _).alloc (Nat.le_refl _) _))).mono ?_
      rintro e w1 ⟨rfl, rfl⟩
      go_wp2_with fail
      refine (HRR.out _ (HT.out.below ((Below.refl _ _).alloc (Nat.le_refl _) _))).mono ?_
      rintro e w1 ⟨rfl, hb1⟩
      obtain ⟨z0, z1, z2, z3, zf, zl⟩ := (tk_new w noTk 51).keep hb1
      have HBW := Lib.hid (show Below w.heap.size w w1 from (by repeat (first | with_reducible exact Below.refl _ _ | (with_reducible refine Below.setCell ?_ (by first | exact Nat.le_refl _ | omega | (simp; done) | (simp; omega)) _) | (with_reducible refine Below.alloc ?_ (by first | exact Nat.le_refl _ | omega | (simp; done) | (simp; omega)) _) | with_reducible refine Below.drew ?_ | with_reducible refine bel_drewN ?_ _ | (with_reducible refine bel_by (by with_reducible assumption) (by first | exact Nat.le_refl _ | omega | (simp; done) | (simp; omega)) ?_))))
      clear hb1
      go_wp2_with fail
      have hbw := HBW.out
      refine bodyPost_ret (v := resV (⟨a1, a2, a3, a4⟩, a5, a6)) (by simp [results, Tryz.results91, go_sem, resV, tokE, Tk.val, noTk, bs, z0, z1, z2, z3, zf, zl, k1]) rfl ⟨rfl, (by repeat (first | with_reducible exact Below.refl _ _ | (with_reducible refine Below.setCell ?_ (by first | exact Nat.le_refl _ | omega | (simp; done) | (simp; omega)) _) | (with_reducible refine Below.alloc ?_ (by first | exact Nat.le_refl _ | omega | (simp; done) | (simp; omega)) _) | with_reducible refine Below.drew ?_ | with_reducible refine bel_drewN ?_ _ | (with_reducible refine bel_by (by with_reducible assumption) (by first | exact Nat.le_refl _ | omega | (simp; done) | (simp; omega)) ?_)))⟩
    · have hR := HL.out
      have hb : rb = true := by rw [HB.out]; decide
      rw [hb, if_pos rfl] at hR
      subst hR
      clear HL HB hb
      go_enter Tryz.func91, Tryz.ntmps91
      go_wp2_with fail
      refine (HK.out _ (HT.out.below ((Below.refl _ _).alloc (Nat.le_refl _) _))).mono ?_
      rintro e w1 ⟨rfl, rfl⟩
      go_wp2_with fail
      refine (HRR.out _ (HT.out.below ((Below.refl _ _).alloc (Nat.le_refl _) _))).mono ?_
      rintro e w1 ⟨rfl, hb1⟩
      obtain ⟨z0, z1, z2, z3, zf, zl⟩ := (tk_new w noTk 51).keep hb1
      have HBW := Lib.hid (show Below w.heap.size w w1 from (by repeat (first | with_reducible exact Below.refl _ _ | (with_reducible refine Below.setCell ?_ (by first | exact Nat.le_refl _ | omega | (simp; done) | (simp; omega)) _) | (with_reducible refine Below.alloc ?_ (by first | exact Nat.le_refl _ | omega | (simp; done) | (simp; omega)) _) | with_reducible refine Below.drew ?_ | with_reducible refine bel_drewN ?_ _ | (with_reducible refine bel_by (by with_reducible assumption) (by first | exact Nat.le_refl _ | omega | (simp; done) | (simp; omega)) ?_))))
      clear hb1
      go_wp2_with fail
      have hbw := HBW.out
      refine bodyPost_ret (v := resV (⟨a1, a2, a3, a4⟩, a5, a6)) (by simp [results, Tryz.results91, go_sem, resV, tokE, Tk.val, noTk, bs, z0, z1, z2, z3, zf, zl, k1]) rfl ⟨rfl, (by repeat (first | with_reducible exact Below.refl _ _ | (with_reducible refine Below.setCell ?_ (by first | exact Nat.le_refl _ | omega | (simp; done) | (simp; omega)) _) | (with_reducible refine Below.alloc ?_ (by first | exact Nat.le_refl _ | omega | (simp; done) | (simp; omega)) _) | with_reducible refine Below.drew ?_ | with_reducible refine bel_drewN ?_ _ | (with_reducible refine bel_by (by with_reducible assumption) (by first | exact Nat.le_refl _ | omega | (simp; done) | (simp; omega)) ?_)))⟩
    · have hR := HL.out
      have hb : rb = false := by rw [HB.out]; decide
      rw [hb, if_neg (by simp), if_pos rfl] at hR
      subst hR
      clear HL HB hb
      go_enter Tryz.func91, Tryz.ntmps91
      go_wp2_with fail
      refine (HK.out _ (HT.out.below ((Below.refl _ _).alloc (Nat.le_refl _) _))).mono ?_
      rintro e w1 ⟨rfl, rfl⟩
      go_wp2_with fail
      refine (HRS.out _ (HT.out.below ((Below.refl _ _).alloc (Nat.le_refl _) _))).mono ?_
      rintro e w1 ⟨rfl, hb1⟩
      obtain ⟨z0, z1, z2, z3, zf, zl⟩ := (tk_new w noTk 51).keep hb1
      have HBW := Lib.hid (show Below w.heap.size w w1 from (by repeat (first | with_reducible exact Below.refl _ _ | (with_reducible refine Below.setCell ?_ (by first | exact Nat.le_refl _ | omega | (simp; done) | (simp; omega)) _) | (with_reducible refine Below.alloc ?_ (by first | exact Nat.le_refl _ | omega | (simp; done) | (simp; omega)) _) | with_reducible refine Below.drew ?_ | with_reducible refine bel_drewN ?_ _ | (with_reducible refine bel_by (by with_reducible assumption) (by first | exact Nat.le_refl _ | omega | (simp; done) | (simp; omega)) ?_))))
      clear hb1
      go_wp2_with fail
      have hbw := HBW.out
      refine bodyPost_ret (v := resV (⟨b1, b2, b3, b4⟩, b5, b6)) (by simp [results, Tryz.results91, go_sem, resV, tokE, Tk.val, noTk, bs, z0, z1, z2, z3, zf, zl, k1]) rfl ⟨rfl, (by repeat (first | with_reducible exact Below.refl _ _ | (with_reducible refine Below.setCell ?_ (by first | exact Nat.le_refl _ | omega | (simp; done) | (simp; omega)) _) | (with_reducible refine Below.alloc ?_ (by first | exact Nat.le_refl _ | omega | (simp; done) | (simp; omega)) _) | with_reducible refine Below.drew ?_ | with_reducible refine bel_drewN ?_ _ | (with_reducible refine bel_by (by with_reducible assumption) (by first | exact Nat.le_refl _ | omega | (simp; done) | (simp; omega)) ?_)))⟩
    · have hR := HL.out
      have hb : rb = false := by rw [HB.out]; decide
      rw [hb, if_neg (by simp), if_neg (by decide), if_pos rfl] at hR
      subst hR
      have hE := HE.out
      have h1i : ¬ (1 : Int) > (s.size : Int) := by omega
      clear HL HB hb
      go_enter Tryz.func91, Tryz.ntmps91
      go_wp2_with fail
      refine (HK.out _ (HT.out.below ((Below.refl _ _).alloc (Nat.le_refl _) _))).mono ?_
      rintro e w1 ⟨rfl, rfl⟩
      go_wp2_with fail
      refine bodyPost_ret (v := resV (⟨4, bs [s[0]'hp], 0, 0⟩, 1, 0)) (by simp [results, Tryz.results91, go_sem, resV, Tk.val, hE]) rfl ⟨rfl, (by repeat (first | with_reducible exact Below.refl _ _ | (with_reducible refine Below.setCell ?_ (by first | exact Nat.le_refl _ | omega | (simp; done) | (simp; omega)) _) | (with_reducible refine Below.alloc ?_ (by first | exact Nat.le_refl _ | omega | (simp; done) | (simp; omega)) _) | with_reducible refine Below.drew ?_ | with_reducible refine bel_drewN ?_ _ | (with_reducible refine bel_by (by with_reducible assumption) (by first | exact Nat.le_refl _ | omega | (simp; done) | (simp; omega)) ?_)))⟩
    · have hR := HL.out
      have hb : rb = false := by rw [HB.out]; decide
      rw [hb, if_neg (by simp), if_neg (by decide), if_neg (by decide)] at hR
      subst hR
      clear HL HB hb
      go_enter Tryz.func91, Tryz.ntmps91
      go_wp2_with fail
      refine (HK.out _ (HT.out.below ((Below.refl _ _).alloc (Nat.le_refl _) _))).mono ?_
      rintro e w1 ⟨rfl, rfl⟩
      go_wp2_with fail
      refine bodyPost_ret (v := resV (tokE 2)) (by simp [results, Tryz.results91, go_sem, resV, Tk.val, tokE, noTk, bs]) rfl ⟨rfl, (by repeat (first | with_reducible exact Below.refl _ _ | (with_reducible refine Below.setCell ?_ (by first | exact Nat.le_refl _ | omega | (simp; done) | (simp; omega)) _) | (with_reducible refine Below.alloc ?_ (by first | exact Nat.le_refl _ | omega | (simp; done) | (simp; omega)) _) | with_reducible refine Below.drew ?_ | with_reducible refine bel_drewN ?_ _ | (with_reducible refine bel_by (by with_reducible assumption) (by first | exact Nat.le_refl _ | omega | (simp; done) | (simp; omega)) ?_)))⟩
    · have hR := HL.out
      have hb : rb = false := by rw [HB.out]; decide
      rw [hb, if_neg (by simp), if_neg (by decide), if_neg (by decide)] at hR
      subst hR
      clear HL HB hb
      go_enter Tryz.func91, Tryz.ntmps91
      go_wp2_with fail
      refine (HK.out _ (HT.out.below ((Below.refl _ _).alloc (Nat.le_refl _) _))).mono ?_
      rintro e w1 ⟨rfl, rfl⟩
      go_wp2_with fail
      refine bodyPost_ret (v := resV (tokE 2)) (by simp [results, Tryz.results91, go_sem, resV, Tk.val, tokE, noTk, bs]) rfl ⟨rfl, (by repeat (first | with_reducible exact Below.refl _ _ | (with_reducible refine Below.setCell ?_ (by first | exact Nat.le_refl _ | omega | (simp; done) | (simp; omega)) _) | (with_reducible refine Below.alloc ?_ (by first | exact Nat.le_refl _ | omega | (simp; done) | (simp; omega)) _) | with_reducible refine Below.drew ?_ | with_reducible refine bel_drewN ?_ _ | (with_reducible refine bel_by (by with_reducible assumption) (by first | exact Nat.le_refl _ | omega | (simp; done) | (simp; omega)) ?_)))⟩
    · have hR := HL.out
      have hb : rb = false := by rw [HB.out]; decide
      rw [hb, if_neg (by simp), if_neg (by decide), if_neg (by decide)] at hR
      subst hR
      clear HL HB hb
      go_enter Tryz.func91, Tryz.ntmps91
      go_wp2_with fail
      refine (HK.out _ (HT.out.below ((Below.refl _ _).alloc (Nat.le_refl _) _))).mono ?_
      rintro e w1 ⟨rfl, rfl⟩
      go_wp2_with fail
      refine bodyPost_ret (v := resV (tokE 2)) (by simp [results, Tryz.results91, go_sem, resV, Tk.val, tokE, noTk, bs]) rfl ⟨rfl, (by repeat (first | with_reducible exact Below.refl _ _ | (with_reducible refine Below.setCell ?_ (by first | exact Nat.le_refl _ | omega | (simp; done) | (simp; omega)) _) | (with_reducible refine Below.alloc ?_ (by first | exact Nat.le_refl _ | omega | (simp; done) | (simp; omega)) _) | with_reducible refine Below.drew ?_ | with_reducible refine bel_drewN ?_ _ | (with_reducible refine bel_by (by with_reducible assumption) (by first | exact Nat.le_refl _ | omega | (simp; done) | (simp; omega)) ?_)))⟩
end Go.Proofs.YtohalocbghhenaaGreatDoor
