/- Contracts of layer 9: first, tooLong, Next. -/
import Derived.Test.YtohalocbghhenaaGreatDoorRead
import Derived.Test.YtohalocbghhenaaGreatDoorBeg
set_option linter.unusedSimpArgs false
set_option linter.unusedVariables false
namespace Go.Proofs.YtohalocbghhenaaGreatDoor
open Go.RowKit

def firstV (x : Tk × Nat × Int × Int) : Value := .tuple #[x.1.val, .int .i64 (x.2.1 : Int), fV x.2.2.1 x.2.2.2]
set_option maxHeartbeats 1000000 in
set_option maxRecDepth 100000 in
theorem tooLong_any (w : World) : Calls Tryz.prog 69 #[] w fun e w' => e = .returned (fV 6 65536) ∧ Below w.heap.size w w' := by
  go_enter Tryz.func69, Tryz.ntmps69
  go_wp2
  refine bodyPost_ret (v := fV 6 65536) (by simp [results, Tryz.results69, go_sem, fV]) rfl ⟨rfl, (by repeat (first | with_reducible exact Below.refl _ _ | (with_reducible refine Below.setCell ?_ (by first | exact Nat.le_refl _ | omega | (simp; done) | (simp; omega)) _) | (with_reducible refine Below.alloc ?_ (by first | exact Nat.le_refl _ | omega | (simp; done) | (simp; omega)) _) | with_reducible refine Below.drew ?_ | with_reducible refine bel_drewN ?_ _ | (with_reducible refine bel_by (by with_reducible assumption) (by first | exact Nat.le_refl _ | omega | (simp; done) | (simp; omega)) ?_)))⟩
theorem drop_ext (s : ByteArray) (q : Nat) (h : q ≤ s.size) : (s.extract q s.size).data.toList = s.data.toList.drop q ∧ (s.extract q s.size).size = s.size - q := by
  refine ⟨?_, by simp⟩
  rw [ext_list, List.take_of_length_le (by rw [List.length_drop, list_size]; exact Nat.le_refl _)]
set_option maxHeartbeats 2000000 in
set_option maxRecDepth 100000 in
theorem first_any (s : ByteArray) (hs : s.size ≤ 1000000) (p : Nat) (hp : p ≤ s.size) (w : World) (hT : Tabs w) : Calls Tryz.prog 70 #[.string s, .int .i64 (p : Int)] w fun e w' => e = .returned (firstV (firstL (s.data.toList.drop p) p)) ∧ Below w.heap.size w w' := by
  have hq := skN_le false (s.data.toList.drop p)
  rw [List.length_drop, list_size] at hq
  have HBG := Lib.hid (fun W hW => begin_any s hs p hp W hW)
  have HF := Lib.hid (show firstL (s.data.toList.drop p) p = if (readL ((s.data.toList.drop p).drop (skN false (s.data.toList.drop p)))).2.2 = 0 then ({ (readL ((s.data.toList.drop p).drop (skN false (s.data.toList.drop p)))).1 with a := ((p + skN false (s.data.toList.drop p) : Nat) : Int) }, p + skN false (s.data.toList.drop p) + (readL ((s.data.toList.drop p).drop (skN false (s.data.toList.drop p)))).2.1, 0, 0) else (noTk, 0, (readL ((s.data.toList.drop p).drop (skN false (s.data.toList.drop p)))).2.2, ((p + skN false (s.data.toList.drop p) : Nat) : Int)) from rfl)
  rw [List.drop_drop] at HF
  generalize firstL (s.data.toList.drop p) p = F at *
  obtain ⟨q, hqe⟩ : ∃ q, p + skN false (s.data.toList.drop p) = q := ⟨_, rfl⟩
  rw [hqe] at HBG HF
  have hq2 : q ≤ s.size := by omega
  have hqi : ¬ (q : Int) > (s.size : Int) := by omega
  obtain ⟨hul, hus⟩ := drop_ext s q hq2
  rw [← hul] at HF
  obtain ⟨u, hu⟩ : ∃ u, s.extract q s.size = u := ⟨_, rfl⟩
  rw [hu] at hul hus HF
  have HRD := Lib.hid (fun W hW => read_any u (by omega) W hW)
  have hrl := readL_len u.data.toList
  rw [list_size] at hrl
  generalize readL u.data.toList = R at *
  obtain ⟨⟨rk, rt, rn, ra⟩, rl, re⟩ := R
  simp only [resV, Tk.val] at HRD HF hrl
  have HT := Lib.hid hT
  have HU := Lib.hid hu
  have HRL := Lib.hid hrl
  clear hT hq hqe hul hu hrl
  by_cases h0 : re = 0
  · subst h0
    have hF := HF.out
    rw [if_pos rfl] at hF
    subst hF
    have hr1 := (HRL.out rfl).1
    clear HRL HF
    have hX := HU.out
    go_enter Tryz.func70, Tryz.ntmps70
    go_wp2_with fail
    refine (HBG.out _ (HT.out.below (by repeat (first | with_reducible exact Below.refl _ _ | (with_reducible refine Below.setCell ?_ (by first | exact Nat.le_refl _ | omega | (simp; done) | (simp; omega)) _) | (with_reducible refine Below.alloc ?_ (by first | exact Nat.le_refl _ | omega | (simp; done) | (simp; omega)) _) | with_reducible refine Below.drew ?_ | with_reducible refine bel_drewN ?_ _ | (with_reducible refine bel_by (by with_reducible assumption) (by first | exact Nat.le_refl _ | omega | (simp; done) | (simp; omega)) ?_))))).mono ?_
    rintro e w1 ⟨rfl, rfl⟩
    go_wp2_with fail
    refine (HRD.out _ (HT.out.below (by repeat (first | with_reducible exact Below.refl _ _ | (with_reducible refine Below.setCell ?_ (by first | exact Nat.le_refl _ | omega | (simp; done) | (simp; omega)) _) | (with_reducible refine Below.alloc ?_ (by first | exact Nat.le_refl _ | omega | (simp; done) | (simp; omega)) _) | with_reducible refine Below.drew ?_ | with_reducible refine bel_drewN ?_ _ | (with_reducible refine bel_by (by with_reducible assumption) (by first | exact Nat.le_refl _ | omega | (simp; done) | (simp; omega)) ?_))))).mono ?_
    rintro e w1 ⟨rfl, hb1⟩
    have hz1 := bsize hb1
    simp at hz1
    have k0 : w.heap.size < w1.heap.size := by omega
    have k1 : w.heap.size + 1 < w1.heap.size := by omega
    have HB := Lib.hid (show Below w.heap.size w w1 from (by repeat (first | with_reducible exact Below.refl _ _ | (with_reducible refine Below.setCell ?_ (by first | exact Nat.le_refl _ | omega | (simp; done) | (simp; omega)) _) | (with_reducible refine Below.alloc ?_ (by first | exact Nat.le_refl _ | omega | (simp; done) | (simp; omega)) _) | with_reducible refine Below.drew ?_ | with_reducible refine bel_drewN ?_ _ | (with_reducible refine bel_by (by with_reducible assumption) (by first | exact Nat.le_refl _ | omega | (simp; done) | (simp; omega)) ?_))))
    obtain ⟨z0, z1, z2, z3, zf, zl⟩ := ((tk_new w noTk 51).keep ((Below.refl _ _).alloc (Nat.le_refl _) (.cells #[.int .i64 0, .int .i64 0] 40))).low hb1 (by simp; omega)
    obtain ⟨y0, y1, yf, yl⟩ := (ft_new (w.alloc (.cells #[.int .i64 noTk.k, .string noTk.t, .int .i64 noTk.n, .int .i64 noTk.a] 51)) 0 0 40).low hb1 (by simp)
    simp only [World.size_alloc] at y0 y1 yf yl
    clear hb1
    go_wp2_with fail
    have hbw := HB.out
    refine bodyPost_ret (v := firstV (⟨rk, rt, rn, q⟩, q + rl, 0, 0)) (by simp [results, Tryz.results70, go_sem, firstV, fV, Tk.val, z0, z1, z2, z3, zf, zl, y0, y1, yf, yl, k0, k1]) rfl ⟨rfl, (by repeat (first | with_reducible exact Below.refl _ _ | (with_reducible refine Below.setCell ?_ (by first | exact Nat.le_refl _ | omega | (simp; done) | (simp; omega)) _) | (with_reducible refine Below.alloc ?_ (by first | exact Nat.le_refl _ | omega | (simp; done) | (simp; omega)) _) | with_reducible refine Below.drew ?_ | with_reducible refine bel_drewN ?_ _ | (with_reducible refine bel_by (by with_reducible assumption) (by first | exact Nat.le_refl _ | omega | (simp; done) | (simp; omega)) ?_)))⟩
  · have hF := HF.out
    rw [if_neg h0] at hF
    subst hF
    have e1 : (re != 0) = true := by simpa using h0
    have e2 : (re == 0) = false := by simpa using h0
    clear HRL HF h0
    have hX := HU.out
    go_enter Tryz.func70, Tryz.ntmps70
    go_wp2_with fail
    refine (HBG.out _ (HT.out.below (by repeat (first | with_reducible exact Below.refl _ _ | (with_reducible refine Below.setCell ?_ (by first | exact Nat.le_refl _ | omega | (simp; done) | (simp; omega)) _) | (with_reducible refine Below.alloc ?_ (by first | exact Nat.le_refl _ | omega | (simp; done) | (simp; omega)) _) | with_reducible refine Below.drew ?_ | with_reducible refine bel_drewN ?_ _ | (with_reducible refine bel_by (by with_reducible assumption) (by first | exact Nat.le_refl _ | omega | (simp; done) | (simp; omega)) ?_))))).mono ?_
    rintro e w1 ⟨rfl, rfl⟩
    go_wp2_with fail
    refine (HRD.out _ (HT.out.below (by repeat (first | with_reducible exact Below.refl _ _ | (with_reducible refine Below.setCell ?_ (by first | exact Nat.le_refl _ | omega | (simp; done) | (simp; omega)) _) | (with_reducible refine Below.alloc ?_ (by first | exact Nat.le_refl _ | omega | (simp; done) | (simp; omega)) _) | with_reducible refine Below.drew ?_ | with_reducible refine bel_drewN ?_ _ | (with_reducible refine bel_by (by with_reducible assumption) (by first | exact Nat.le_refl _ | omega | (simp; done) | (simp; omega)) ?_))))).mono ?_
    rintro e w1 ⟨rfl, hb1⟩
    have hz1 := bsize hb1
    simp at hz1
    have k0 : w.heap.size < w1.heap.size := by omega
    have k1 : w.heap.size + 1 < w1.heap.size := by omega
    have HB := Lib.hid (show Below w.heap.size w w1 from (by repeat (first | with_reducible exact Below.refl _ _ | (with_reducible refine Below.setCell ?_ (by first | exact Nat.le_refl _ | omega | (simp; done) | (simp; omega)) _) | (with_reducible refine Below.alloc ?_ (by first | exact Nat.le_refl _ | omega | (simp; done) | (simp; omega)) _) | with_reducible refine Below.drew ?_ | with_reducible refine bel_drewN ?_ _ | (with_reducible refine bel_by (by with_reducible assumption) (by first | exact Nat.le_refl _ | omega | (simp; done) | (simp; omega)) ?_))))
    obtain ⟨z0, z1, z2, z3, zf, zl⟩ := ((tk_new w noTk 51).keep ((Below.refl _ _).alloc (Nat.le_refl _) (.cells #[.int .i64 0, .int .i64 0] 40))).low hb1 (by simp; omega)
    obtain ⟨y0, y1, yf, yl⟩ := (ft_new (w.alloc (.cells #[.int .i64 noTk.k, .string noTk.t, .int .i64 noTk.n, .int .i64 noTk.a] 51)) 0 0 40).low hb1 (by simp)
    simp only [World.size_alloc] at y0 y1 yf yl
    clear hb1
    go_wp2_with fail
    have hbw := HB.out
    refine bodyPost_ret (v := firstV (noTk, 0, re, (q : Int))) (by simp [results, Tryz.results70, go_sem, firstV, fV, Tk.val, noTk, bs, z0, z1, z2, z3, zf, zl, y0, y1, yf, yl, k0, k1]) rfl ⟨rfl, (by repeat (first | with_reducible exact Below.refl _ _ | (with_reducible refine Below.setCell ?_ (by first | exact Nat.le_refl _ | omega | (simp; done) | (simp; omega)) _) | (with_reducible refine Below.alloc ?_ (by first | exact Nat.le_refl _ | omega | (simp; done) | (simp; omega)) _) | with_reducible refine Below.drew ?_ | with_reducible refine bel_drewN ?_ _ | (with_reducible refine bel_by (by with_reducible assumption) (by first | exact Nat.le_refl _ | omega | (simp; done) | (simp; omega)) ?_)))⟩
end Go.Proofs.YtohalocbghhenaaGreatDoor
