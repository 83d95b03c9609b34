/- Contract of layer 9's reference: Next. -/
import Derived.Test.YtohalocbghhenaaGreatDoorRefD
import Derived.Test.YtohalocbghhenaaGreatDoorRefE
import Derived.Test.YtohalocbghhenaaGreatDoorNextL
set_option linter.unusedSimpArgs false
set_option linter.unusedVariables false
namespace Go.Proofs.YtohalocbghhenaaGreatDoor
open Go.RowKit

theorem firstL_tok (s : ByteArray) (p : Nat) : firstL (s.data.toList.drop p) p = if (tokR (s.data.toList.drop (p + skN false (s.data.toList.drop p))) (p + skN false (s.data.toList.drop p))).2.2 = 0 then ((tokR (s.data.toList.drop (p + skN false (s.data.toList.drop p))) (p + skN false (s.data.toList.drop p))).1, (tokR (s.data.toList.drop (p + skN false (s.data.toList.drop p))) (p + skN false (s.data.toList.drop p))).2.1, 0, 0) else (noTk, 0, (tokR (s.data.toList.drop (p + skN false (s.data.toList.drop p))) (p + skN false (s.data.toList.drop p))).2.2, ((p + skN false (s.data.toList.drop p) : Nat) : Int)) := by
  unfold firstL tokR
  rw [List.drop_drop]
  by_cases h : (readL (s.data.toList.drop (p + skN false (s.data.toList.drop p)))).2.2 = 0
  · simp only [h, if_true]
  · simp only [h, if_false]
set_option maxHeartbeats 2000000 in
set_option maxRecDepth 100000 in
theorem rnext_any (s : ByteArray) (a : Int) (ha : -9223372036854775808 ≤ a ∧ a ≤ 9223372036854775807) (w : World) : Calls Tryz.prog 75 #[.string s, .int .i64 a] w fun e w' => e = .returned (firstV (nextL s a)) ∧ Below w.heap.size w w' := by
  by_cases h1 : 65536 < s.size
  · have HR := Lib.hid (show nextL s a = (noTk, 0, 6, 65536) by unfold nextL; rw [if_pos h1])
    have k1 : decide ((s.size : Int) > 65536) = true := decide_eq_true (by omega)
    go_enter Tryz.func75, Tryz.ntmps75
    go_wp2_with fail
    refine bodyPost_ret (v := firstV (noTk, 0, 6, 65536)) (by simp [results, Tryz.results75, go_sem, firstV, fV, Tk.val, noTk, bs]) rfl ⟨by rw [HR.out], (by repeat (first | with_reducible exact Below.refl _ _ | (with_reducible refine Below.setCell ?_ (by first | exact Nat.le_refl _ | omega | (simp; done) | (simp; omega)) _) | (with_reducible refine Below.alloc ?_ (by first | exact Nat.le_refl _ | omega | (simp; done) | (simp; omega)) _) | with_reducible refine Below.drew ?_ | with_reducible refine bel_drewN ?_ _ | (with_reducible refine bel_by (by with_reducible assumption) (by first | exact Nat.le_refl _ | omega | (simp; done) | (simp; omega)) ?_)))⟩
  · have k1 : decide ((s.size : Int) > 65536) = false := decide_eq_false (by omega)
    by_cases h2 : a < 0 ∨ (s.size : Int) < a
    · have HR := Lib.hid (show nextL s a = (noTk, 0, 1, 0) by unfold nextL; rw [if_neg h1, if_pos h2])
      by_cases h3 : a < 0
      · have k2 : decide (a < 0) = true := by simpa using h3
        clear h2
        go_enter Tryz.func75, Tryz.ntmps75
        go_wp2_with fail
        refine bodyPost_ret (v := firstV (noTk, 0, 1, 0)) (by simp [results, Tryz.results75, go_sem, firstV, fV, Tk.val, noTk, bs]) rfl ⟨by rw [HR.out], (by repeat (first | with_reducible exact Below.refl _ _ | (with_reducible refine Below.setCell ?_ (by first | exact Nat.le_refl _ | omega | (simp; done) | (simp; omega)) _) | (with_reducible refine Below.alloc ?_ (by first | exact Nat.le_refl _ | omega | (simp; done) | (simp; omega)) _) | with_reducible refine Below.drew ?_ | with_reducible refine bel_drewN ?_ _ | (with_reducible refine bel_by (by with_reducible assumption) (by first | exact Nat.le_refl _ | omega | (simp; done) | (simp; omega)) ?_)))⟩
      · have k2 : decide (a < 0) = false := decide_eq_false (by omega)
        have k3 : decide (a > (s.size : Int)) = true := decide_eq_true (by omega)
        have h4 : (s.size : Int) < a := by omega
        clear h2 h3
        go_enter Tryz.func75, Tryz.ntmps75
        go_wp2_with fail
        refine bodyPost_ret (v := firstV (noTk, 0, 1, 0)) (by simp [results, Tryz.results75, go_sem, firstV, fV, Tk.val, noTk, bs]) rfl ⟨by rw [HR.out], (by repeat (first | with_reducible exact Below.refl _ _ | (with_reducible refine Below.setCell ?_ (by first | exact Nat.le_refl _ | omega | (simp; done) | (simp; omega)) _) | (with_reducible refine Below.alloc ?_ (by first | exact Nat.le_refl _ | omega | (simp; done) | (simp; omega)) _) | with_reducible refine Below.drew ?_ | with_reducible refine bel_drewN ?_ _ | (with_reducible refine bel_by (by with_reducible assumption) (by first | exact Nat.le_refl _ | omega | (simp; done) | (simp; omega)) ?_)))⟩
    · obtain ⟨p, rfl⟩ : ∃ p : Nat, a = (p : Int) := ⟨a.toNat, by omega⟩
      have hp : p ≤ s.size := by omega
      have hR : nextL s (p : Int) = firstL (s.data.toList.drop p) p := by unfold nextL; rw [if_neg h1, if_neg h2]; rfl
      rw [firstL_tok] at hR
      have hsk := skN_le false (s.data.toList.drop p)
      rw [List.length_drop, list_size] at hsk
      have HS := Lib.hid (fun W => rskip_any s (by omega) p hp W)
      obtain ⟨q, hq⟩ : ∃ q, p + skN false (s.data.toList.drop p) = q := ⟨_, rfl⟩
      rw [hq] at hR HS
      have hqs : q ≤ s.size := by omega
      have HK := Lib.hid (fun W => rtoken_any s (by omega) q hqs W)
      have HRR := Lib.hid hR
      generalize nextL s (p : Int) = R at *
      generalize tokR (s.data.toList.drop q) q = T at *
      obtain ⟨⟨rk, rt, rn, ra⟩, rl, re⟩ := T
      simp only [resV, Tk.val] at HK HRR
      have k2 : decide ((p : Int) < 0) = false := decide_eq_false (by omega)
      have k3 : decide ((p : Int) > (s.size : Int)) = false := decide_eq_false (by omega)
      have h4 : (p : Int) ≤ (s.size : Int) := by omega
      clear h2 hR hsk hq
      by_cases h0 : re = 0
      · subst h0
        have HR := Lib.hid (show R = (⟨rk, rt, rn, ra⟩, rl, 0, 0) by rw [HRR.out, if_pos rfl])
        clear HRR
        go_enter Tryz.func75, Tryz.ntmps75
        go_wp2_with fail
        refine (HS.out _).mono ?_
        rintro e w1 ⟨rfl, rfl⟩
        go_wp2_with fail
        refine (HK.out _).mono ?_
        rintro e w1 ⟨rfl, hb1⟩
        have hz1 := bsize hb1
        simp at hz1
        have k4 : w.heap.size < w1.heap.size := by omega
        have k5 : w.heap.size + 1 < w1.heap.size := by omega
        have HB := Lib.hid (show Below w.heap.size w w1 from (by repeat (first | with_reducible exact Below.refl _ _ | (with_reducible refine Below.setCell ?_ (by first | exact Nat.le_refl _ | omega | (simp; done) | (simp; omega)) _) | (with_reducible refine Below.alloc ?_ (by first | exact Nat.le_refl _ | omega | (simp; done) | (simp; omega)) _) | with_reducible refine Below.drew ?_ | with_reducible refine bel_drewN ?_ _ | (with_reducible refine bel_by (by with_reducible assumption) (by first | exact Nat.le_refl _ | omega | (simp; done) | (simp; omega)) ?_))))
        obtain ⟨z0, z1, z2, z3, zf, zl⟩ := ((tk_new w noTk 51).keep ((Below.refl _ _).alloc (Nat.le_refl _) (.cells #[.int .i64 0, .int .i64 0] 40))).low hb1 (by simp; omega)
        obtain ⟨y0, y1, yf, yl⟩ := (ft_new (w.alloc (.cells #[.int .i64 noTk.k, .string noTk.t, .int .i64 noTk.n, .int .i64 noTk.a] 51)) 0 0 40).low hb1 (by simp)
        simp only [World.size_alloc] at y0 y1 yf yl
        clear hb1
        go_wp2_with fail
        have hbw := HB.out
        refine bodyPost_ret (v := firstV (⟨rk, rt, rn, ra⟩, rl, 0, 0)) (by simp [results, Tryz.results75, go_sem, firstV, fV, Tk.val, z0, z1, z2, z3, zf, zl, y0, y1, yf, yl, k4, k5]) rfl ⟨by rw [HR.out], (by repeat (first | with_reducible exact Below.refl _ _ | (with_reducible refine Below.setCell ?_ (by first | exact Nat.le_refl _ | omega | (simp; done) | (simp; omega)) _) | (with_reducible refine Below.alloc ?_ (by first | exact Nat.le_refl _ | omega | (simp; done) | (simp; omega)) _) | with_reducible refine Below.drew ?_ | with_reducible refine bel_drewN ?_ _ | (with_reducible refine bel_by (by with_reducible assumption) (by first | exact Nat.le_refl _ | omega | (simp; done) | (simp; omega)) ?_)))⟩
      · have e1 : (re != 0) = true := by simpa using h0
        have e2 : (re == 0) = false := by simpa using h0
        have HR := Lib.hid (show R = (noTk, 0, re, (q : Int)) by rw [HRR.out, if_neg h0])
        clear HRR h0
        go_enter Tryz.func75, Tryz.ntmps75
        go_wp2_with fail
        refine (HS.out _).mono ?_
        rintro e w1 ⟨rfl, rfl⟩
        go_wp2_with fail
        refine (HK.out _).mono ?_
        rintro e w1 ⟨rfl, hb1⟩
        have hz1 := bsize hb1
        simp at hz1
        have k4 : w.heap.size < w1.heap.size := by omega
        have k5 : w.heap.size + 1 < w1.heap.size := by omega
        have HB := Lib.hid (show Below w.heap.size w w1 from (by repeat (first | with_reducible exact Below.refl _ _ | (with_reducible refine Below.setCell ?_ (by first | exact Nat.le_refl _ | omega | (simp; done) | (simp; omega)) _) | (with_reducible refine Below.alloc ?_ (by first | exact Nat.le_refl _ | omega | (simp; done) | (simp; omega)) _) | with_reducible refine Below.drew ?_ | with_reducible refine bel_drewN ?_ _ | (with_reducible refine bel_by (by with_reducible assumption) (by first | exact Nat.le_refl _ | omega | (simp; done) | (simp; omega)) ?_))))
        obtain ⟨z0, z1, z2, z3, zf, zl⟩ := ((tk_new w noTk 51).keep ((Below.refl _ _).alloc (Nat.le_refl _) (.cells #[.int .i64 0, .int .i64 0] 40))).low hb1 (by simp; omega)
        obtain ⟨y0, y1, yf, yl⟩ := (ft_new (w.alloc (.cells #[.int .i64 noTk.k, .string noTk.t, .int .i64 noTk.n, .int .i64 noTk.a] 51)) 0 0 40).low hb1 (by simp)
        simp only [World.size_alloc] at y0 y1 yf yl
        clear hb1
        go_wp2_with fail
        have hbw := HB.out
        refine bodyPost_ret (v := firstV (noTk, 0, re, (q : Int))) (by simp [results, Tryz.results75, go_sem, firstV, fV, Tk.val, noTk, bs, z0, z1, z2, z3, zf, zl, y0, y1, yf, yl, k4, k5]) rfl ⟨by rw [HR.out], (by repeat (first | with_reducible exact Below.refl _ _ | (with_reducible refine Below.setCell ?_ (by first | exact Nat.le_refl _ | omega | (simp; done) | (simp; omega)) _) | (with_reducible refine Below.alloc ?_ (by first | exact Nat.le_refl _ | omega | (simp; done) | (simp; omega)) _) | with_reducible refine Below.drew ?_ | with_reducible refine bel_drewN ?_ _ | (with_reducible refine bel_by (by with_reducible assumption) (by first | exact Nat.le_refl _ | omega | (simp; done) | (simp; omega)) ?_)))⟩
end Go.Proofs.YtohalocbghhenaaGreatDoor
