/- The reader of lines: the marks of an item. -/
import Derived.Test.YtccglojnjakbfaaPas
import Derived.WalkMore
set_option linter.unusedSimpArgs false
set_option linter.unusedVariables false
namespace Go.Proofs.Ytccglojnjakbfaa
open Go.RowKit

theorem drop_step (s : ByteArray) (a : Nat) (h : a < s.size) : s.data.toList.drop a = s[a]'h :: s.data.toList.drop (a + 1) := drop_cons s a h
theorem eq60 (c : UInt8) : (c == 60) = ((c.toNat : Int) == 60) := u8_eq c 60 (by decide)
theorem eq63 (c : UInt8) : (c == 63) = ((c.toNat : Int) == 63) := u8_eq c 63 (by decide)
theorem eq42 (c : UInt8) : (c == 42) = ((c.toNat : Int) == 42) := u8_eq c 42 (by decide)
theorem RdAt.drewN {w : World} {b p : Nat} {s : ByteArray} {v : Value} (h : RdAt w b s p v) (n : Nat) : RdAt (w.drewN n) b s p v := h.keep (bel_drewN (Below.refl _ _) n)
theorem ItAt.drewN {w : World} {b : Nat} {x : It} (h : ItAt w b x) (n : Nat) : ItAt (w.drewN n) b x := h.keep (bel_drewN (Below.refl _ _) n)
theorem Kp.drewN (b c n : Nat) (w : World) : Kp b c w (w.drewN n) := Kp.of (bel_drewN (Below.refl _ _) n)
theorem RdAt.drew {w : World} {b p : Nat} {s : ByteArray} {v : Value} (h : RdAt w b s p v) : RdAt w.drew b s p v := h.keep (Below.refl _ _).drew
theorem ItAt.drew {w : World} {b : Nat} {x : It} (h : ItAt w b x) : ItAt w.drew b x := h.keep (Below.refl _ _).drew
def offOf (w : World) (b : Nat) : Nat := match w.cell? ⟨b, 1, none⟩ with
  | some u => (intOf u).toNat
  | none => 0
theorem offOf_eq {w : World} {b p : Nat} {s : ByteArray} {v : Value} (h : RdAt w b s p v) : offOf w b = p := by unfold offOf; rw [h.c1]; simp [intOf]
set_option maxHeartbeats 4000000 in
set_option maxRecDepth 100000 in
theorem mark_any {w : World} {b c p : Nat} {s : ByteArray} {v : Value} {x : It} (h : RdAt w b s p v) (hx : ItAt w c x) (hbc : b ≠ c) (hp : p ≤ s.size) (hs : s.size ≤ 1000000) (hd0 : 0 ≤ x.d) (hd9 : x.d ≤ 9) :
    Calls Try.prog 65 #[.pointer (some ⟨b, 0, none⟩), .pointer (some ⟨c, 0, none⟩)] w fun e w' => e = .returned (.int .i64 (markR (s.data.toList.drop p) p x).1) ∧ RdAt w' b s (markR (s.data.toList.drop p) p x).2.2 v ∧ ItAt w' c (markR (s.data.toList.drop p) p x).2.1 ∧ Kp b c w w' := by
  have HR0 := Lib.hid h
  have HX0 := Lib.hid hx
  have hcb : c ≠ b := fun e => hbc e.symm
  obtain ⟨T, hT⟩ : ∃ T, markR (s.data.toList.drop p) p x = T := ⟨_, rfl⟩
  have HT := Lib.hid hT
  rw [hT]
  clear hT h hx
  go_enter Try.func65, Try.ntmps65
  go_wp2_with fail
  go_step3
  go_wp2_with fail
  go_step3
  go_wp2_with fail
  go_loopw [5] (fun s5 wr => ∃ (k : Nat) (y : It), p ≤ k ∧ k ≤ s.size ∧ 0 ≤ y.d ∧ y.d ≤ 9 ∧ Hid (RdAt wr b s k v) ∧ Hid (ItAt wr c y) ∧ Hid (Kp b c w wr) ∧ Hid (markR (s.data.toList.drop k) k y = T)) (fun _ wr => s.size - offOf wr b)
  case atStart => exact ⟨p, x, Nat.le_refl _, hp, hd0, hd9, HR0, HX0, Lib.hid (Kp.refl _ _ _), HT⟩
  case round =>
    obtain ⟨k, y, hpk, hk, hy0, hy9, HR, HX, HK, HM⟩ := hrel
    clear HR0 HX0 HT
    obtain ⟨c0, c1, c2, cf, cl⟩ := HR.out
    obtain ⟨z0, z1, z2, z3, z4, zf, zl⟩ := HX.out
    have HKC := Lib.hid (show (k : Int) + 1 = ((k + 1 : Nat) : Int) by omega)
    by_cases hlt : k < s.size
    · have hl : (k : Int) < (s.size : Int) := by omega
      have HC := Lib.hid (drop_cons s k hlt)
      by_cases h60 : s[k]'hlt = 60
      · have n60 := h60
        have h63 : ¬ s[k]'hlt = 63 := by rw [h60]; decide
        have h42 : ¬ s[k]'hlt = 42 := by rw [h60]; decide
        have k60 : (((s[k]'hlt).toNat : Int) == 60) = true := by rw [← eq60]; exact by rw [h60]; rfl
        have k63 : (((s[k]'hlt).toNat : Int) == 63) = false := by rw [← eq63]; exact by simpa using h63
        have k42 : (((s[k]'hlt).toNat : Int) == 42) = false := by rw [← eq42]; exact by simpa using h42
        by_cases hy : y.d = 9
        · have HM' := HM
          have hyb : (y.d == 9) = true := by simpa using hy
          have HT := Lib.hid (show T = (6, y, k) by rw [← HM.out, HC.out, markR, if_pos h60, if_pos hy])
          clear HM HC
          go_wp2_with fail
          go_quiet (fail)
          go_wp2_with fail
          go_quiet (fail)
          go_wp2_with fail
          rw [Exit.noGoto_ret]
          go_ret
          rw [HT.out]
          exact ⟨rfl, HR.out.drewN _, HX.out.drewN _, HK.out.trans (Kp.drewN _ _ _ _)⟩
        · have hyb : (y.d == 9) = false := by simpa using hy
          skip
          have HT := Lib.hid (show markR (s.data.toList.drop (k + 1)) (k + 1) ⟨y.c, y.d + 1, y.r, y.v, y.j⟩ = T by rw [← HM.out, HC.out, markR, if_pos h60, if_neg hy])
          clear HM HC
          go_wp2_with fail
          go_quiet (fail)
          go_wp2_with fail
          go_quiet (fail)
          go_wp2_with fail
          go_roundw
          case rel =>
            rw [HKC.out]
            exact ⟨k + 1, ⟨y.c, y.d + 1, y.r, y.v, y.j⟩, by omega, by omega, by first | omega | (simp only; omega), by first | omega | (simp only; omega), Lib.hid (((HR.out.drewN _).other _ hcb _).set1 (k + 1)), Lib.hid (((HX.out.drewN _).fld1 _).other _ hbc _), Lib.hid (((HK.out.trans (Kp.drewN _ _ _ _)).trans (Kp.set2 b c _ _ _)).trans (Kp.set1 b c _ _ _)), HT⟩
          case measure =>
            rw [offOf_eq HR.out, HKC.out, offOf_eq (((HR.out.drewN _).other _ hcb _).set1 (k + 1))]
            omega
      · by_cases h63 : s[k]'hlt = 63
        · have h42 : ¬ s[k]'hlt = 42 := by rw [h63]; decide
          have k60 : (((s[k]'hlt).toNat : Int) == 60) = false := by rw [← eq60]; exact by simpa using h60
          have k63 : (((s[k]'hlt).toNat : Int) == 63) = true := by rw [← eq63]; exact by rw [h63]; rfl
          have k42 : (((s[k]'hlt).toNat : Int) == 42) = false := by rw [← eq42]; exact by simpa using h42
          cases hy : y.r with
          | true =>
            rw [hy] at z2
            skip
            have HT := Lib.hid (show T = (4, y, k) by rw [← HM.out, HC.out, markR, if_neg h60, if_pos h63, if_pos hy])
            clear HM HC
            go_wp2_with fail
            go_quiet (fail)
            go_wp2_with fail
            go_quiet (fail)
            go_wp2_with fail
            rw [Exit.noGoto_ret]
            go_ret
            rw [HT.out]
            exact ⟨rfl, HR.out.drewN _, HX.out.drewN _, HK.out.trans (Kp.drewN _ _ _ _)⟩
          | false =>
            rw [hy] at z2
            skip
            have HT := Lib.hid (show markR (s.data.toList.drop (k + 1)) (k + 1) ⟨y.c, y.d, true, y.v, y.j⟩ = T by rw [← HM.out, HC.out, markR, if_neg h60, if_pos h63, if_neg (by rw [hy]; simp)])
            clear HM HC
            go_wp2_with fail
            go_quiet (fail)
            go_wp2_with fail
            go_quiet (fail)
            go_wp2_with fail
            go_roundw
            case rel =>
              rw [HKC.out]
              exact ⟨k + 1, ⟨y.c, y.d, true, y.v, y.j⟩, by omega, by omega, by first | omega | (simp only; omega), by first | omega | (simp only; omega), Lib.hid (((HR.out.drewN _).other _ hcb _).set1 (k + 1)), Lib.hid (((HX.out.drewN _).fld2 _).other _ hbc _), Lib.hid (((HK.out.trans (Kp.drewN _ _ _ _)).trans (Kp.set2 b c _ _ _)).trans (Kp.set1 b c _ _ _)), HT⟩
            case measure =>
              rw [offOf_eq HR.out, HKC.out, offOf_eq (((HR.out.drewN _).other _ hcb _).set1 (k + 1))]
              omega
        · by_cases h42 : s[k]'hlt = 42
          · have hh := h42
            have k60 : (((s[k]'hlt).toNat : Int) == 60) = false := by rw [← eq60]; exact by simpa using h60
            have k63 : (((s[k]'hlt).toNat : Int) == 63) = false := by rw [← eq63]; exact by simpa using h63
            have k42 : (((s[k]'hlt).toNat : Int) == 42) = true := by rw [← eq42]; exact by rw [h42]; rfl
            cases hy : y.v with
            | true =>
              rw [hy] at z3
              skip
              have HT := Lib.hid (show T = (4, y, k) by rw [← HM.out, HC.out, markR, if_neg h60, if_neg h63, if_pos h42, if_pos hy])
              clear HM HC
              go_wp2_with fail
              go_quiet (fail)
              go_wp2_with fail
              go_quiet (fail)
              go_wp2_with fail
              rw [Exit.noGoto_ret]
              go_ret
              rw [HT.out]
              exact ⟨rfl, HR.out.drewN _, HX.out.drewN _, HK.out.trans (Kp.drewN _ _ _ _)⟩
            | false =>
              rw [hy] at z3
              skip
              have HT := Lib.hid (show markR (s.data.toList.drop (k + 1)) (k + 1) ⟨y.c, y.d, y.r, true, y.j⟩ = T by rw [← HM.out, HC.out, markR, if_neg h60, if_neg h63, if_pos h42, if_neg (by rw [hy]; simp)])
              clear HM HC
              go_wp2_with fail
              go_quiet (fail)
              go_wp2_with fail
              go_quiet (fail)
              go_wp2_with fail
              go_roundw
              case rel =>
                rw [HKC.out]
                exact ⟨k + 1, ⟨y.c, y.d, y.r, true, y.j⟩, by omega, by omega, by first | omega | (simp only; omega), by first | omega | (simp only; omega), Lib.hid (((HR.out.drewN _).other _ hcb _).set1 (k + 1)), Lib.hid (((HX.out.drewN _).fld3 _).other _ hbc _), Lib.hid (((HK.out.trans (Kp.drewN _ _ _ _)).trans (Kp.set2 b c _ _ _)).trans (Kp.set1 b c _ _ _)), HT⟩
              case measure =>
                rw [offOf_eq HR.out, HKC.out, offOf_eq (((HR.out.drewN _).other _ hcb _).set1 (k + 1))]
                omega
          · have hh := h42
            have k60 : (((s[k]'hlt).toNat : Int) == 60) = false := by rw [← eq60]; exact by simpa using h60
            have k63 : (((s[k]'hlt).toNat : Int) == 63) = false := by rw [← eq63]; exact by simpa using h63
            have k42 : (((s[k]'hlt).toNat : Int) == 42) = false := by rw [← eq42]; exact by simpa using h42
            have HT := Lib.hid (show T = (0, y, k) by rw [← HM.out, HC.out, markR, if_neg h60, if_neg h63, if_neg h42])
            clear HM HC
            go_wp2_with fail
            go_quiet (fail)
            go_wp2_with fail
            go_quiet (fail)
            go_wp2_with fail
            rw [Exit.noGoto_ret]
            go_ret
            rw [HT.out]
            exact ⟨rfl, HR.out.drewN _, HX.out.drewN _, HK.out.trans (Kp.drewN _ _ _ _)⟩
    · obtain rfl : k = s.size := by omega
      have hl : ¬ (s.size : Int) < (s.size : Int) := by omega
      have HT := Lib.hid (show T = (0, y, s.size) by rw [← HM.out, drop_end s s.size (Nat.le_refl _), markR])
      go_wp2_with fail
      go_quiet (fail)
      go_wp2_with fail
      rw [Exit.noGoto_ret]
      go_ret
      rw [HT.out]
      exact ⟨rfl, HR.out.drewN _, HX.out.drewN _, HK.out.trans (Kp.drewN _ _ _ _)⟩
end Go.Proofs.Ytccglojnjakbfaa
