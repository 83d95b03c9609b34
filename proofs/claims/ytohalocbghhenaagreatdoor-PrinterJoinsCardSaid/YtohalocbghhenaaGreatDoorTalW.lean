/- Contract of layer 9: tally. -/
import Derived.Test.YtohalocbghhenaaGreatDoorTally
set_option linter.unusedSimpArgs false
set_option linter.unusedVariables false
namespace Go.Proofs.YtohalocbghhenaaGreatDoor
open Go.RowKit

set_option maxHeartbeats 1000000 in
set_option maxRecDepth 100000 in
theorem tally_any (s : ByteArray) (hs : s.size ≤ 1000000000) (w : World) (hT : Tabs w) : Calls Tryz.prog 117 #[.string s] w fun e w' => e = .returned (cKs s.data.toList) ∧ Below w.heap.size w w' := by
  have HT := Lib.hid hT
  clear hT
  go_enter Tryz.func117, Tryz.ntmps117
  go_wp2_with fail
  go_loopw [7] (fun s7 wr => ∃ k : Nat, k ≤ s.size ∧ s7 = .int .i64 (k : Int) ∧ Hid (Nine wr (w.heap.size + 1) (fun j => cK j (s.data.toList.take k))) ∧ Hid (Nine wr w.heap.size (fun _ => 0)) ∧ Hid (Below w.heap.size w wr) ∧ Hid (w.heap.size + 2 ≤ wr.heap.size)) (fun s7 _ => (s.size - (intOf s7)).toNat)
  case atStart =>
    refine ⟨0, Nat.zero_le _, rfl, Lib.hid ⟨fun j hj => ?_, fun j => ?_⟩, Lib.hid ⟨fun j hj => ?_, fun j => ?_⟩, Lib.hid (by repeat (first | with_reducible exact Below.refl _ _ | (with_reducible refine Below.setCell ?_ (by first | exact Nat.le_refl _ | omega | (simp; done) | (simp; omega)) _) | (with_reducible refine Below.alloc ?_ (by first | exact Nat.le_refl _ | omega | (simp; done) | (simp; omega)) _) | with_reducible refine Below.drew ?_ | with_reducible refine bel_drewN ?_ _ | (with_reducible refine bel_by (by with_reducible assumption) (by first | exact Nat.le_refl _ | omega | (simp; done) | (simp; omega)) ?_))), Lib.hid ?_⟩
    · obtain rfl | rfl | rfl | rfl | rfl | rfl | rfl | rfl | rfl : j = 0 ∨ j = 1 ∨ j = 2 ∨ j = 3 ∨ j = 4 ∨ j = 5 ∨ j = 6 ∨ j = 7 ∨ j = 8 := by omega
      all_goals simp [go_sem, cK]
    · simp [go_sem]
    · obtain rfl | rfl | rfl | rfl | rfl | rfl | rfl | rfl | rfl : j = 0 ∨ j = 1 ∨ j = 2 ∨ j = 3 ∨ j = 4 ∨ j = 5 ∨ j = 6 ∨ j = 7 ∨ j = 8 := by omega
      all_goals simp [go_sem]
    · simp [go_sem]
    · simp
  case round =>
    obtain ⟨k, hk, rfl, HN, HZ, HB, HL⟩ := hrel
    by_cases hlt : k < s.size
    · have hl : (k : Int) < (s.size : Int) := by omega
      have HK := Lib.hid (fun W hW => kind_any (s[k]'hlt) W hW)
      have hkb := kB_lt (s[k]'hlt)
      have hkL : k < s.data.toList.length := by rw [list_size]; exact hlt
      have hnx := fun j => cK_next j s.data.toList k hkL
      have hge : s.data.toList[k]'hkL = s[k]'hlt := rfl
      simp only [hge] at hnx
      obtain ⟨q, hq⟩ : ∃ q, kB (s[k]'hlt) = q := ⟨_, rfl⟩
      rw [hq] at HK hkb
      simp only [hq] at hnx
      have hcell := HN.out.cell q hkb
      have hfree := HN.out.free q
      have hx : cK q (s.data.toList.take (k + 1)) = cK q (s.data.toList.take k) + 1 := by rw [hnx, if_pos rfl]
      have hc0 := cK_le q (s.data.toList.take k)
      have hc1 : (s.data.toList.take k).length ≤ 1000000000 := by rw [List.length_take, list_size]; omega
      have HX := Lib.hid (fun (x : Int) (h : x = cK q (s.data.toList.take (k + 1))) => HN.out.set (g := fun j => cK j (s.data.toList.take (k + 1))) q hkb x h (fun j hj => by show cK j _ = cK j _; rw [hnx, if_neg (fun h => hj h.symm), Int.add_zero]))
      have HX1 := Lib.hid hx
      clear hnx hx
      change wr.cell? ⟨w.heap.size + 1, q, none⟩ = some (.int .i64 (cK q (s.data.toList.take k))) at hcell
      generalize cK q (s.data.toList.take k) = y at *
      have HTr := Lib.hid (HT.out.below HB.out)
      have hcz := HZ.out
      have HL2 := HL.out
      go_wp2_with fail
      refine (HK.out _ HTr.out).mono ?_
      rintro e w1 ⟨rfl, rfl⟩
      go_wp2_with fail
      go_roundw
      case rel =>
        refine ⟨k + 1, by omega, by go_num, Lib.hid (HX.out _ (by rw [HX1.out])), Lib.hid (HZ.out.other _ (by simp) _), Lib.hid ?_, Lib.hid (by simp; exact HL.out)⟩
        exact HB.out.setCell (by simp) _
      case measure => simp [intOf]; omega
    · obtain rfl : k = s.size := by omega
      have hl : ¬ (s.size : Int) < (s.size : Int) := by omega
      obtain ⟨c0, c1, c2, c3, c4, c5, c6, c7, c8⟩ := HN.out.at0
      obtain ⟨z0, z1, z2, z3, z4, z5, z6, z7, z8⟩ := HZ.out.at0
      have f1 := HN.out.free
      have f2 := HZ.out.free
      have HE := Lib.hid (show s.data.toList.take s.size = s.data.toList by rw [← list_size, List.take_length])
      go_wp2_with fail
      rw [HE.out] at *
      have hP := nine_put9 HZ.out (fun k => cK k s.data.toList)
      have hPB := put9_bel (Nat.le_refl _) w HB.out (fun k => cK k s.data.toList)
      unfold put9 at hP hPB
      generalize World.setCell _ ⟨w.heap.size, 8, none⟩ _ = W at *
      obtain ⟨p0, p1, p2, p3, p4, p5, p6, p7, p8⟩ := hP.at0
      clear z0 z1 z2 z3 z4 z5 z6 z7 z8 c0 c1 c2 c3 c4 c5 c6 c7 c8 f1 f2
      refine bodyPost_ret (v := cKs s.data.toList) (by simp [results, Tryz.results117, go_sem, cKs, p0, p1, p2, p3, p4, p5, p6, p7, p8]) rfl ⟨rfl, hPB⟩
end Go.Proofs.YtohalocbghhenaaGreatDoor
