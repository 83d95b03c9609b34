/- The law of what stands in front of an entry: for every string and integer. -/
import Derived.Test.YtepigooldelgnaaDoorPrl
import Derived.Test.YtepigooldelgnaaDoorBegP
import Derived.Test.YtepigooldelgnaaDoorEqs
set_option linter.unusedSimpArgs false
set_option linter.unusedVariables false
namespace Go.Proofs.YtepigooldelgnaaDoor
open Go.RowKit

theorem take_len : ∀ (c : Cls) (j : Nat), j ≤ c.len → (c.take j).len = j
  | .nil, 0, _ => rfl
  | .nil, j + 1, h => by simp [Cls.len] at h
  | .cons _ _ _ _ _ r, 0, _ => rfl
  | .cons _ _ _ _ _ r, j + 1, h => by
    simp only [Cls.len] at h
    rw [Cls.take, Cls.len, take_len r j (by omega)]
theorem AtC.take {w : World} {F : Nat → Prop} : ∀ {c : Cls} {b o : Nat} (j : Nat), AtC w c F b o → AtC w (c.take j) F b o
  | .nil, _, _, 0, _ => trivial
  | .nil, _, _, _ + 1, _ => trivial
  | .cons _ _ _ _ _ _, _, _, 0, _ => trivial
  | .cons _ _ _ _ _ rest, _, _, j + 1, h => by
    obtain ⟨h1, h2, h3, h4, h5, h6⟩ := h
    exact ⟨h1, h2, h3, h4, h5, AtC.take j h6⟩
theorem slc_take {w : World} {F : Nat → Prop} {a : Option Addr} {b o len cap : Nat} {c : Cls} (h : SlC w F a b o len cap c) (j : Nat) (hj : j ≤ len) : SlC w F a b o j cap (c.take j) := by
  obtain ⟨h1, h2, h3, h4, h5⟩ := h
  exact ⟨(take_len c j (by omega)).symm, by omega, h3, fun hp => h4 (by omega), h5.take j⟩
theorem take_count : ∀ (c : Cls) (j : Nat), (c.take j).count ≤ c.count
  | .nil, 0 => Nat.le_refl _
  | .nil, _ + 1 => Nat.le_refl _
  | .cons _ _ _ _ _ _, 0 => Nat.zero_le _
  | .cons _ _ _ _ _ r, j + 1 => by
    have := take_count r j
    simp only [Cls.take, Cls.count]; omega
set_option maxHeartbeats 8000000 in
set_option maxRecDepth 100000 in
theorem begins_walk (s : ByteArray) (hs : s.size ≤ 9223372036854775807) (j : Int) (hj1 : -9223372036854775808 ≤ j) (hj2 : j ≤ 9223372036854775807) (w : World) (hT : Tabs w) : Calls Tryd.prog 5 #[.string s, .int .i64 j] w fun e w' => e = .returned (.bool true) ∧ Below w.heap.size w w' := by
  have HA := Lib.hid (awake_any w hT)
  have HT := Lib.hid hT
  clear hT
  by_cases h1 : 1500 < s.size
  · have k1 : decide ((s.size : Int) > 1500) = true := decide_eq_true (by omega)
    go_enter Tryd.func5, Tryd.ntmps5
    go_wp2_with fail
    refine HA.out.mono ?_
    rintro e w1 ⟨rfl, hb1⟩
    go_wp2_with fail
    go_ret
    exact ⟨rfl, hb1⟩
  have k1 : decide ((s.size : Int) > 1500) = false := decide_eq_false (by omega)
  have hs2 : s.size ≤ 1500 := by omega
  clear hs h1
  have HP := Lib.hid (fun W hW => parl_any s W hW)
  have HPG := Lib.hid (@parS_good s)
  have HPC := Lib.hid (parS_count s)
  have HBE := Lib.hid (fun h => parS_begin s (by omega) h)
  generalize parS s = P at *
  obtain ⟨c, pc, pa⟩ := P
  unfold PrlPost fV at HP
  simp only at HP HPG HPC HBE
  go_enter Tryd.func5, Tryd.ntmps5
  go_wp2_with fail
  refine HA.out.mono ?_
  rintro e w1 ⟨rfl, hb1⟩
  have HB1 := Lib.hid hb1
  clear hb1 HA
  go_wp2_with fail
  refine (HP.out _ (HT.out.below HB1.out)).mono ?_
  rintro e w2 ⟨a2, b2, cap2, rfl, sl2, hb2, _⟩
  have HB2 := Lib.hid (HB1.out.trans (Below.mono hb2 HB1.out.size))
  have HL := Lib.hid (SlC.mono (G := fun y => y < w2.heap.size) (fun y hy => hy.2) sl2)
  have hs2w := HB2.out.size
  clear sl2 hb2 HB1
  have HB3 := Lib.hid (HB2.out.alloc (by omega) (.cells #[.int .i64 pc, .int .i64 pa] 26))
  have HW3 := Lib.hid ((Below.refl w2.heap.size w2).alloc (Nat.le_refl _) (.cells #[.int .i64 pc, .int .i64 pa] 26))
  have HF3 := Lib.hid (ft_new w2 pc pa 26)
  obtain ⟨f0, f1, ff, fl⟩ := HF3.out
  clear HB2
  by_cases hpc : pc = 0
  · subst hpc
    have hg := HPG.out rfl
    simp only [Prod.mk.injEq, true_and] at hg
    subst hg
    by_cases hj0 : j < 0
    · have q1 : decide (j < 0) = true := decide_eq_true hj0
      go_wp2_with fail
      go_ret
      exact ⟨rfl, HB3.out⟩
    by_cases hjl : (c.len : Int) ≤ j
    · have q1 : decide (j < 0) = false := decide_eq_false hj0
      have q2 : decide (j ≥ (c.len : Int)) = true := decide_eq_true hjl
      go_wp2_with fail
      go_ret
      exact ⟨rfl, HB3.out⟩
    obtain ⟨J, rfl⟩ : ∃ J : Nat, j = (J : Int) := ⟨j.toNat, by omega⟩
    have hJ : J < c.len := by omega
    have q1 : decide ((J : Int) < 0) = false := decide_eq_false hj0
    have q2 : decide ((J : Int) ≥ (c.len : Int)) = false := decide_eq_false hjl
    have q3 : (J : Int) < (c.len : Int) := by omega
    obtain ⟨q, hq1, hq2, hq3⟩ := HBE.out rfl J hJ
    have hcl := kidsN_le c 0
    have hPC := HPC.out
    have hsl := (HL.out.low (fun x hx => hx) HW3.out)
    obtain ⟨rfl, hb2, _⟩ := hsl.2.2.2.1 (by omega)
    have hcap := hsl.2.1
    have hmax := hsl.2.2.1
    unfold maxLen at hmax
    obtain ⟨wd, xs, bl, kd, av, rest, aa, xb, oa, la, ca, ak, bk, ok, ck, hd, _, _, _, _, c4, _, _, _⟩ := AtC.get J hJ hsl.2.2.2.2
    rw [hd] at hq1
    have hav : av = (q : Int) := hq1
    subst hav
    simp only [Nat.zero_add] at c4
    have r1 : decide ((q : Int) < 0) = false := decide_eq_false (by omega)
    have r2 : decide ((q : Int) > (s.size : Int)) = false := decide_eq_false (by omega)
    have r3 : (q : Int) ≤ (s.size : Int) := by omega
    have HX := Lib.hid (fun W hW => parl_any (s.extract 0 q) W hW)
    rw [hq3] at HX
    unfold PrlPost fV at HX
    simp only at HX
    have htl := take_len c J (by omega)
    have HEQ := Lib.hid (fun W (F : Nat → Prop) a b cap (h : SlC W F a b 0 J cap (c.take J)) (h' : SlC W (fun y => y < w2.heap.size) (some ⟨b2, 0, none⟩) b2 0 J cap2 (c.take J)) => show Calls Tryd.prog 16 #[.slice a J cap, .slice (some ⟨b2, 0, none⟩) J cap2, .bool true] W (fun e w' => e = .returned (.bool true) ∧ Below W.heap.size W w') from by
      have hk := take_count c J
      have := eqs_any ((c.take J).count + 1) (by omega) (c.take J) (Nat.lt_succ_self _) W F _ a (some ⟨b2, 0, none⟩) b 0 cap b2 0 cap2 (by rw [htl]; exact h) (by rw [htl]; exact h')
      rw [htl] at this
      exact this)
    rw [htl] at HX
    have HTK := Lib.hid (fun W (h : SlC W (fun y => y < w2.heap.size) (some ⟨b2, 0, none⟩) b2 0 c.len cap2 c) => slc_take h J (by omega))
    clear hq1 hq3 hd hsl HBE HPG
    generalize c.take J = t at *
    go_wp2_with fail
    clear f0 f1 ff fl c4
    refine (HX.out _ (HT.out.below HB3.out)).mono ?_
    rintro e w4 ⟨a4, b4, cap4, rfl, sl4, hb4, _⟩
    have HB4 := Lib.hid (HB3.out.trans (Below.mono hb4 HB3.out.size))
    have HW4 := Lib.hid (HW3.out.trans (Below.mono hb4 HW3.out.size))
    have HM := Lib.hid (SlC.mono (G := fun y => y < w4.heap.size) (fun y hy => hy.2) sl4)
    have hs4 := HB4.out.size
    have hs4w := HW4.out.size
    clear sl4 hb4 HB3 HW3
    have HB5 := Lib.hid (HB4.out.alloc (by omega) (.cells #[.int .i64 0, .int .i64 0] 26))
    have HW5 := Lib.hid (HW4.out.alloc (by omega) (.cells #[.int .i64 0, .int .i64 0] 26))
    have HM5 := Lib.hid (HM.out.low (fun x hx => hx) ((Below.refl w4.heap.size w4).alloc (Nat.le_refl _) (.cells #[.int .i64 0, .int .i64 0] 26)))
    obtain ⟨g0, g1, gf, gl⟩ := ft_new w4 0 0 26
    go_wp2_with fail
    clear g0 g1 gf gl
    refine (HEQ.out _ _ _ _ _ HM5.out (HTK.out _ (HL.out.low (fun x hx => hx) HW5.out))).mono ?_
    rintro e w6 ⟨rfl, hb6⟩
    have HB6 := Lib.hid (HB5.out.trans (Below.mono hb6 HB5.out.size))
    clear hb6
    go_wp2_with fail
    go_ret
    exact ⟨rfl, HB6.out⟩
  · have q0 : (pc == 0) = false := by simpa using hpc
    have q1 : (pc != 0) = true := by simpa using hpc
    go_wp2_with fail
    go_ret
    exact ⟨rfl, HB3.out⟩
end Go.Proofs.YtepigooldelgnaaDoor
