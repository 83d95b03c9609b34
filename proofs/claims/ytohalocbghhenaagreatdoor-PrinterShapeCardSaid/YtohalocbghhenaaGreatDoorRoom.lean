/- Contracts of layer 10's reference: room, Small. -/
import Derived.Test.YtohalocbghhenaaGreatDoorDrp
set_option linter.unusedSimpArgs false
set_option linter.unusedVariables false
namespace Go.Proofs.YtohalocbghhenaaGreatDoor
open Go.RowKit

/-- no block is barred -/
def AllB : Nat → Prop := fun _ => True
/-- what is left of so much room behind entries -/
def roomS : Cls → Int → Int
  | .nil, m => m
  | .cons w xs _ k _ r, m => if m < 0 then m else if m - 1 < (xs.length : Int) then -1 else if 200 < w.size then -1 else if xs.all (fun t => decide (t.t.size ≤ 200)) = false then -1 else roomS r (roomS k (m - (1 + (xs.length : Int))))
theorem roomS_neg {c : Cls} {m : Int} (h : m < 0) : roomS c m = m := by
  cases c with
  | nil => rfl
  | cons w xs b k a r => rw [roomS, if_pos h]
theorem roomS_le : ∀ (c : Cls) (m : Int), -1 ≤ m → -1 ≤ roomS c m ∧ roomS c m ≤ m
  | .nil, m, h => ⟨h, Int.le_refl _⟩
  | .cons w xs b k a r, m, h => by
    rw [roomS]
    split
    · exact ⟨h, Int.le_refl _⟩
    · split
      · exact ⟨by omega, by omega⟩
      · split
        · exact ⟨by omega, by omega⟩
        · split
          · exact ⟨by omega, by omega⟩
          · obtain ⟨h1, h2⟩ := roomS_le k (m - (1 + (xs.length : Int))) (by omega)
            obtain ⟨h3, h4⟩ := roomS_le r _ h1
            exact ⟨h3, by omega⟩
theorem roomS_ok : ∀ (c : Cls) (m : Int), 0 ≤ roomS c m → ((toksC c).length : Int) + 3 * roomS c m ≤ 3 * m ∧ (c.count : Int) + roomS c m ≤ m ∧ small c
  | .nil, m, h => ⟨by simp [toksC, roomS], by simp [Cls.count, roomS], trivial⟩
  | .cons w xs b k a r, m, h => by
    rw [roomS] at h ⊢
    split at h
    · omega
    · rename_i h0
      split at h
      · omega
      · rename_i h1
        split at h
        · omega
        · rename_i h2
          split at h
          · omega
          · rename_i h3
            rw [if_neg h0, if_neg h1, if_neg h2, if_neg h3]
            obtain ⟨r1, r2, r3⟩ := roomS_ok r _ h
            have hk0 : 0 ≤ roomS k (m - (1 + (xs.length : Int))) := by
              by_cases hh : 0 ≤ roomS k (m - (1 + (xs.length : Int)))
              · exact hh
              · rw [roomS_neg (by omega)] at h
                omega
            obtain ⟨k1, k2, k3⟩ := roomS_ok k _ hk0
            have hxs : ∀ t ∈ xs, t.t.size ≤ 1000000000 := by
              intro t ht
              have h4 : xs.all (fun t => decide (t.t.size ≤ 200)) = true := by simpa using h3
              have := List.all_eq_true.1 h4 t ht
              simp at this
              omega
            refine ⟨?_, ?_, by omega, hxs, k3, r3⟩
            · simp only [toksC, List.length_cons, List.length_append]
              have : (((if b = true then (⟨4, bs [123], 0, 0⟩ : Tk) :: (toksC k ++ [⟨4, bs [125], 0, 0⟩]) else [⟨4, bs [59], 0, 0⟩]).length : Nat) : Int) ≤ (toksC k).length + 2 := by
                split
                · simp; omega
                · simp; omega
              omega
            · simp only [Cls.count]
              omega
def RoomC (n : Nat) : Prop := ∀ (c : Cls), c.count < n → ∀ (m : Int), -1 ≤ m → m ≤ 1000000 → ∀ (w : World) (F : Nat → Prop) (a : Option Addr) (b o cap : Nat), SlC w F a b o c.len cap c →
    Calls Tryz.prog 28 #[.slice a c.len cap, .int .i64 m] w fun e w' => e = .returned (.int .i64 (roomS c m)) ∧ w = w'
set_option maxHeartbeats 8000000 in
set_option maxRecDepth 100000 in
theorem room_any : ∀ n : Nat, RoomC n
  | 0 => fun _ h => absurd h (Nat.not_lt_zero _)
  | n + 1 => fun c hc m hm1 hm2 w F a b o cap hA => by
    have IH := Lib.hid (room_any n)
    have HA := Lib.hid hA
    have HM := Lib.hid (fun i wd xs bl k a r => @drop_count c i wd xs bl k a r)
    have HN := Lib.hid (fun i wd xs bl k a r => @drop_next c i wd xs bl k a r)
    have HE := Lib.hid (drop_all c)
    have HR0 := Lib.hid (show roomS c m = roomS (c.drop 0) m by cases c <;> rfl)
    have hcp := hA.2.1
    have hmx := hA.2.2.1
    unfold maxLen at hmx
    obtain ⟨l, hl⟩ : ∃ l, c.len = l := ⟨_, rfl⟩
    obtain ⟨R, hR⟩ : ∃ R, roomS c m = R := ⟨_, rfl⟩
    rw [hl] at HA HE hcp ⊢
    rw [hR] at HR0 ⊢
    have HLN := Lib.hid hl
    clear hA hl hR
    go_enter Tryz.func28, Tryz.ntmps28
    go_wp2_with fail
    go_loopw [1, 5] (fun s1 s5 wr => ∃ (i : Nat) (q : Int), i ≤ l ∧ s5 = .int .i64 (i : Int) ∧ s1 = .int .i64 q ∧ -1 ≤ q ∧ q ≤ 1000000 ∧ Hid (R = roomS (c.drop i) q) ∧ w = wr) (fun _ s5 _ => (l - (intOf s5)).toNat)
    case atStart => exact ⟨0, m, Nat.zero_le _, rfl, rfl, hm1, hm2, HR0, rfl⟩
    case round =>
      obtain ⟨i, q, hi', rfl, rfl, hq1, hq2, HR, rfl⟩ := hrel
      clear HR0
      by_cases hlt : i < l
      · have hlz : (i : Int) < (l : Int) := by omega
        obtain ⟨rfl, bb, _⟩ := HA.out.2.2.2.1 (by omega)
        by_cases hq0 : q < 0
        · have j1 : ¬ (0 : Int) ≤ q := by omega
          have j2 : ¬ (q ≥ 0) := by omega
          have j3 : decide (q ≥ 0) = false := decide_eq_false j2
          have hr := HR.out
          rw [roomS_neg hq0] at hr
          subst hr
          go_wp2_with fail
          go_ret
          exact ⟨rfl, rfl⟩
        · have j1 : (0 : Int) ≤ q := by omega
          have j2 : q ≥ 0 := by omega
          have j3 : decide (q ≥ 0) = true := decide_eq_true j2
          obtain ⟨wd, xs, bl, kd, av, r, aa, xb, oa, la, ca, ak, bk, ok, ck, hd, e0, e1, e2, e3, e4, SX, _, SK⟩ := AtC.get i (by rw [HLN.out]; exact hlt) HA.out.2.2.2.2
          have hkc := HM.out _ _ _ _ _ _ _ hd
          have HNX := Lib.hid (HN.out _ _ _ _ _ _ _ hd)
          have hr := HR.out
          rw [hd, roomS, if_neg hq0] at hr
          have hxl := SX.hl
          subst hxl
          have HSX := Lib.hid SX
          have HSK := Lib.hid SK
          have hxm := SX.hcap
          have hxx := SX.hmax
          unfold maxLen at hxx
          clear SX SK hd HR e2 e4
          by_cases h1 : q - 1 < (xs.length : Int)
          · rw [if_pos h1] at hr
            subst hr
            have j4 : decide ((xs.length : Int) > q - 1) = true := decide_eq_true h1
            go_wp2_with fail
            go_ret
            exact ⟨rfl, rfl⟩
          · rw [if_neg h1] at hr
            have j4 : decide ((xs.length : Int) > q - 1) = false := decide_eq_false h1
            have j5 : ¬ ((xs.length : Int) > q - 1) := h1
            by_cases h2 : 200 < wd.size
            · rw [if_pos h2] at hr
              subst hr
              have j6 : decide ((wd.size : Int) > 200) = true := decide_eq_true (by omega)
              have j7 : decide (200 < wd.size) = true := decide_eq_true h2
              go_wp2_with fail
              go_ret
              exact ⟨rfl, rfl⟩
            · rw [if_neg h2] at hr
              have HRR := Lib.hid hr
              have j6 : decide ((wd.size : Int) > 200) = false := decide_eq_false (by omega)
              have j7 : decide (200 < wd.size) = false := decide_eq_false h2
              have HBAD := Lib.hid (fun (j : Nat) (h : j < xs.length) (hh : 200 < (xs[j]'h).t.size) => show xs.all (fun t => decide (t.t.size ≤ 200)) = false by
                rw [← Bool.not_eq_true, List.all_eq_true]
                intro hall
                have := hall _ (List.getElem_mem h)
                simp at this
                omega)
              clear hr
              go_wp2_with fail
              clear e0
              go_loopw [6] (fun s6 wi => ∃ j : Nat, j ≤ xs.length ∧ s6 = .int .i64 (j : Int) ∧ Hid (∀ (k : Nat) (h : k < xs.length), k < j → (xs[k]'h).t.size ≤ 200) ∧ w = wi) (fun s6 _ => (xs.length - (intOf s6)).toNat)
              case atStart => exact ⟨0, Nat.zero_le _, rfl, Lib.hid (fun k h hk => absurd hk (Nat.not_lt_zero _)), rfl⟩
              case round =>
                obtain ⟨j, hj, rfl, HJ, rfl⟩ := hrel
                by_cases hlj : j < xs.length
                · have hljz : (j : Int) < (xs.length : Int) := by omega
                  obtain rfl := HSX.out.ha (by omega)
                  have bbx := HSX.out.hb (by omega)
                  have q1 := HSX.out.c1 j hlj
                  by_cases h3 : 200 < (xs[j]'hlj).t.size
                  · have hb3 := HBAD.out j hlj h3
                    have hr := HRR.out
                    rw [if_pos hb3] at hr
                    subst hr
                    have j8 : decide (((xs[j]'hlj).t.size : Int) > 200) = true := decide_eq_true (by omega)
                    generalize (xs[j]'hlj).t = tx at *
                    clear HBAD HJ hb3
                    go_wp2_with fail
                    go_ret
                    exact ⟨rfl, rfl⟩
                  · have j8 : decide (((xs[j]'hlj).t.size : Int) > 200) = false := decide_eq_false (by omega)
                    have j9 : ¬ (((xs[j]'hlj).t.size : Int) > 200) := by omega
                    have HJ2 := Lib.hid (show ∀ (k : Nat) (h : k < xs.length), k < j + 1 → (xs[k]'h).t.size ≤ 200 from fun k h hk => by
                      by_cases hkj : k = j
                      · subst hkj; omega
                      · exact HJ.out k h (by omega))
                    generalize (xs[j]'hlj).t = tx at *
                    clear HBAD HJ
                    go_wp2_with fail
                    go_roundw
                    case rel => exact ⟨j + 1, by omega, by go_num, HJ2, trivial⟩
                    case measure => simp [intOf]; omega
                · have hljz : ¬ (j : Int) < (xs.length : Int) := by omega
                  obtain rfl : j = xs.length := by omega
                  have hr := HRR.out
                  rw [if_neg (show ¬ xs.all (fun t => decide (t.t.size ≤ 200)) = false by
                    rw [Bool.not_eq_false, List.all_eq_true]
                    intro t ht
                    obtain ⟨k, hk, rfl⟩ := List.getElem_of_mem ht
                    simpa using HJ.out k hk hk)] at hr
                  obtain ⟨p1, p2⟩ := roomS_le kd (q - (1 + (xs.length : Int))) (by omega)
                  have HC := Lib.hid (IH.out kd (by omega) (q - (1 + (xs.length : Int))) (by omega) (by omega) w F ak bk ok ck HSK.out)
                  generalize roomS kd (q - (1 + (xs.length : Int))) = z at *
                  have HZ := Lib.hid hr
                  generalize kd.len = y at *
                  clear hr HBAD HJ HRR IH HSX HSK HM HN
                  go_wp2_with fail
                  refine HC.out.mono ?_
                  rintro e w2 ⟨rfl, rfl⟩
                  go_wp2_with fail
                  go_roundw
                  case rel => exact ⟨i + 1, z, by omega, by go_num, rfl, by omega, by omega, Lib.hid (by rw [HNX.out]; exact HZ.out), trivial⟩
                  case measure => simp [intOf]; omega
      · have hlz : ¬ (i : Int) < (l : Int) := by omega
        obtain rfl : i = l := by omega
        have hr := HR.out
        rw [HE.out] at hr
        have hr2 : R = q := hr
        subst hr2
        clear HA HN HE HR hr
        go_wp2_with fail
        go_ret
        exact ⟨rfl, rfl⟩
theorem small_any {c : Cls} {m : Int} (hm1 : 0 ≤ m) (hm2 : m ≤ 1000000) {w : World} {F : Nat → Prop} {a : Option Addr} {b o cap : Nat} (hA : SlC w F a b o c.len cap c) :
    Calls Tryz.prog 11 #[.slice a c.len cap, .int .i64 m] w fun e w' => e = .returned (.bool (decide (0 ≤ roomS c m))) ∧ w = w' := by
  have HC := Lib.hid (room_any (c.count + 1) c (Nat.lt_succ_self _) m (by omega) hm2 w F a b o cap hA)
  generalize roomS c m = z at *
  generalize c.len = y at *
  clear hA
  go_enter Tryz.func11, Tryz.ntmps11
  go_wp2_with fail
  refine HC.out.mono ?_
  rintro e w2 ⟨rfl, rfl⟩
  go_wp2_with fail
  go_ret
  exact ⟨rfl, rfl⟩
end Go.Proofs.YtohalocbghhenaaGreatDoor
