/- The law of printed entries that are read again: for every slice of entries. -/
import Derived.Test.YtohalocbghhenaaGreatDoorPaw
import Derived.Test.YtohalocbghhenaaGreatDoorSmc
import Derived.Test.YtohalocbghhenaaGreatDoorRoom
set_option linter.unusedSimpArgs false
set_option linter.unusedVariables false
namespace Go.Proofs.YtohalocbghhenaaGreatDoor
open Go.RowKit

/-- what so many entries and atoms are -/
theorem room_print {c : Cls} {m : Int} (hm : m ≤ 300) (h : 0 ≤ roomS c m) : c.count ≤ 300 ∧ small c ∧ (checkS c = 0 → lok c) := by
  obtain ⟨r1, r2, r3⟩ := roomS_ok c m h
  refine ⟨by omega, r3, fun hc => ?_⟩
  exact (formed_ok c (check_ok hc).1 (by omega)).1
theorem again_print {c : Cls} (hc : checkS c = 0) (hl : (linS c 0).length ≤ 65536) :
    (parS (bs (linS c 0))).2 = (0, 0) ∧ (parS (bs (linS c 0))).1.zero = c.zero ∧ prtS (parS (bs (linS c 0))).1 = (linS c 0, 0) ∧ (parS (bs (linS c 0))).1.count < 1000000000 ∧ small (parS (bs (linS c 0))).1 ∧ lok (parS (bs (linS c 0))).1 := by
  obtain ⟨g1, g2, g3⟩ := lin_again hc hl
  obtain ⟨h1, h2, h3, h4, h5, h6⟩ := parS_room (s := bs (linS c 0)) (by rw [g1])
  exact ⟨g1, g2, by unfold prtS; rw [if_pos h6, g3, if_pos hl], h3, h4, h5⟩
set_option maxHeartbeats 4000000 in
set_option maxRecDepth 100000 in
theorem reads_walk {c : Cls} {a : Option Addr} {b o cap : Nat} {w : World} (hA : SlC w AllB a b o c.len cap c) (hT : Tabs w) :
    Calls Tryz.prog 5 #[.slice a c.len cap] w fun e w' => e = .returned (.bool true) ∧ Below w.heap.size w w' := by
  have HW := Lib.hid (awake_any w hT)
  have HT := Lib.hid hT
  have HSL := Lib.hid (fun W (hB : Below w.heap.size w W) => SlC.low (w' := W) hA.here (fun x hx => hx.2) hB)
  have HSM := Lib.hid (fun W (hB : Below w.heap.size w W) => small_any (c := c) (m := 300) (by omega) (by omega) (HSL.out W hB))
  cases hr : decide (0 ≤ roomS c 300) with
  | false =>
    rw [hr] at HSM
    generalize c.len = y at *
    clear hA hT HSL hr
    go_enter Tryz.func5, Tryz.ntmps5
    go_wp2_with fail
    refine HW.out.mono ?_
    rintro e w1 ⟨rfl, hb1⟩
    have HB1 := Lib.hid hb1
    clear hb1 HW
    go_wp2_with fail
    refine (HSM.out _ HB1.out).mono ?_
    rintro e w2 ⟨rfl, rfl⟩
    go_wp2_with fail
    go_ret
    exact ⟨rfl, HB1.out⟩
  | true =>
    have hcl : c.len ≤ 9223372036854775807 := by have := lenC_max hA; unfold maxLen at this; omega
    obtain ⟨r1, r2, r3⟩ := room_print (Int.le_refl _) (of_decide_eq_true hr)
    rw [hr] at HSM
    have HPR := Lib.hid (fun W (hB : Below w.heap.size w W) => prt_any c (by omega) r2 r3 W a b o cap _ (HSL.out W hB) (hT.below hB))
    have HCK := Lib.hid (fun W (hB : Below w.heap.size w W) => check_any c (by omega) r2 W _ a b o cap (HSL.out W hB) (hT.below hB))
    by_cases hck : checkS c = 0
    · by_cases hl : (linS c 0).length ≤ 65536
      · obtain ⟨g1, g2, g3, g4, g5, g6⟩ := again_print hck hl
        have hp : prtS c = (linS c 0, 0) := by unfold prtS; rw [if_pos hck, if_pos hl]
        have HP := Lib.hid (fun W hW => parl_any (bs (linS c 0)) W hW)
        have HPD := Lib.hid (fun W F a' b' cap' (hA' : SlC W F a' b' 0 (parS (bs (linS c 0))).1.len cap' (parS (bs (linS c 0))).1) hW => prt_any (parS (bs (linS c 0))).1 g4 g5 (fun _ => g6) W a' b' 0 cap' F hA' hW)
        have HSA := Lib.hid (fun W (hB : Below w.heap.size w W) F a' b' cap' (h : SlC W F a' b' 0 (parS (bs (linS c 0))).1.len cap' (parS (bs (linS c 0))).1) => same_any ((parS (bs (linS c 0))).1.count + 1) (by omega) (parS (bs (linS c 0))).1 c (Nat.lt_succ_self _) hcl W F _ a' a b' 0 cap' b o cap h (HSL.out W hB))
        rw [decide_eq_true g2] at HSA
        rw [hp] at HPR
        rw [g3] at HPD
        unfold PrlPost fV at HP
        rw [g1] at HP
        simp only at HP HPR HPD
        clear hA hT HSL hr r1 r2 r3 g1 g2 g3 g4 g5 g6 hp hck hl HCK hcl
        generalize bs (linS c 0) = S at *
        generalize (parS S).1 = d at *
        generalize d.len = n at *
        generalize c.len = y at *
        go_enter Tryz.func5, Tryz.ntmps5
        go_wp2_with fail
        refine HW.out.mono ?_
        rintro e w1 ⟨rfl, hb1⟩
        have HB1 := Lib.hid hb1
        clear hb1 HW
        go_wp2_with fail
        refine (HSM.out _ HB1.out).mono ?_
        rintro e w2 ⟨rfl, rfl⟩
        go_wp2_with fail
        refine (HPR.out _ HB1.out).mono ?_
        rintro e w2 ⟨rfl, hb2⟩
        have HB2 := Lib.hid (HB1.out.trans (Below.mono hb2 HB1.out.size))
        clear hb2 HB1 HSM HPR
        go_wp2_with fail
        refine (HP.out _ (HT.out.below HB2.out)).mono ?_
        rintro e w4 ⟨a4, b4, cap4, rfl, sl4, hb4, _⟩
        have HB4 := Lib.hid (HB2.out.trans (Below.mono hb4 HB2.out.size))
        have HL4 := Lib.hid (SlC.mono (G := fun y => y < w4.heap.size) (fun y hy => hy.2) sl4)
        have hs4 := HB4.out.size
        clear sl4 hb4 HB2 HP
        have HB5 := Lib.hid (HB4.out.alloc hs4 (.cells #[.int .i64 0, .int .i64 0] 40))
        have HW5 := Lib.hid ((Below.refl w4.heap.size w4).alloc (Nat.le_refl _) (.cells #[.int .i64 0, .int .i64 0] 40))
        have HG5 := Lib.hid (ft_new w4 0 0 40)
        clear HB4
        go_wp2_with fail
        refine (HPD.out _ _ _ _ _ (HL4.out.low (fun x hx => hx) HW5.out) (HT.out.below HB5.out)).mono ?_
        rintro e w6 ⟨rfl, hb6⟩
        have HB6 := Lib.hid (HB5.out.trans (Below.mono hb6 HB5.out.size))
        have HW6 := Lib.hid (HW5.out.trans (Below.mono hb6 HW5.out.size))
        have HG6 := Lib.hid (HG5.out.keep hb6)
        have hs6 := HB6.out.size
        have hs6b := HW6.out.size
        clear hb6 HB5 HW5 HG5 HPD
        obtain ⟨f0, f1, ff, fl⟩ := HG6.out
        go_wp2_with fail
        refine (HSA.out _ HB6.out _ _ _ _ (HL4.out.low (fun x hx => hx) HW6.out)).mono ?_
        rintro e w8 ⟨rfl, hb8⟩
        have HB8 := Lib.hid (HB6.out.trans (Below.mono hb8 HB6.out.size))
        clear hb8
        go_wp2_with fail
        go_ret
        exact ⟨by simp, HB8.out⟩
      · have hp : prtS c = ([], 6) := by unfold prtS; rw [if_pos hck, if_neg hl]
        rw [hp] at HPR
        rw [hck] at HCK
        simp only at HPR
        clear hA hT HSL hr r1 r2 r3 hp hck hl hcl
        generalize c.len = y at *
        go_enter Tryz.func5, Tryz.ntmps5
        go_wp2_with fail
        refine HW.out.mono ?_
        rintro e w1 ⟨rfl, hb1⟩
        have HB1 := Lib.hid hb1
        clear hb1 HW
        go_wp2_with fail
        refine (HSM.out _ HB1.out).mono ?_
        rintro e w2 ⟨rfl, rfl⟩
        go_wp2_with fail
        refine (HPR.out _ HB1.out).mono ?_
        rintro e w2 ⟨rfl, hb2⟩
        have HB2 := Lib.hid (HB1.out.trans (Below.mono hb2 HB1.out.size))
        clear hb2 HB1 HSM HPR
        go_wp2_with fail
        refine (HCK.out _ HB2.out).mono ?_
        rintro e w3 ⟨rfl, hb3⟩
        have HB3 := Lib.hid (HB2.out.trans (Below.mono hb3 HB2.out.size))
        go_wp2_with fail
        go_ret
        exact ⟨rfl, HB3.out⟩
    · have hp : prtS c = ([], checkS c) := by unfold prtS; rw [if_neg hck]
      rw [hp] at HPR
      simp only at HPR
      generalize checkS c = z at *
      have z0 : (z == 0) = false := by simpa using hck
      have z1 : (z != 0) = true := by simpa using hck
      clear hA hT HSL hr r1 r2 r3 hp hcl
      generalize c.len = y at *
      go_enter Tryz.func5, Tryz.ntmps5
      go_wp2_with fail
      refine HW.out.mono ?_
      rintro e w1 ⟨rfl, hb1⟩
      have HB1 := Lib.hid hb1
      clear hb1 HW
      go_wp2_with fail
      refine (HSM.out _ HB1.out).mono ?_
      rintro e w2 ⟨rfl, rfl⟩
      go_wp2_with fail
      refine (HPR.out _ HB1.out).mono ?_
      rintro e w2 ⟨rfl, hb2⟩
      have HB2 := Lib.hid (HB1.out.trans (Below.mono hb2 HB1.out.size))
      clear hb2 HB1 HSM HPR
      go_wp2_with fail
      refine (HCK.out _ HB2.out).mono ?_
      rintro e w3 ⟨rfl, hb3⟩
      have HB3 := Lib.hid (HB2.out.trans (Below.mono hb3 HB2.out.size))
      go_wp2_with fail
      go_ret
      exact ⟨by simp, HB3.out⟩
end Go.Proofs.YtohalocbghhenaaGreatDoor
