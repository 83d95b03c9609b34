/- Contracts of the reference of layers 10 and 11: Depth, Blocks. -/
import Derived.Test.YtohalocbghhenaaGreatDoorRoom
import Derived.Test.YtohalocbghhenaaGreatDoorLenP
set_option linter.unusedSimpArgs false
set_option linter.unusedVariables false
namespace Go.Proofs.YtohalocbghhenaaGreatDoor
open Go.RowKit

/-- what Depth has behind the first entries, and what is left -/
theorem depth_drop {c : Cls} {i : Nat} {wd : ByteArray} {xs : List Tk} {bl : Bool} {k : Cls} {a : Int} {r : Cls} (h : c.drop i = .cons wd xs bl k a r) : (c.drop i).depth = max (if bl then k.depth + 1 else 0) (c.drop (i + 1)).depth := by
  rw [drop_next c i h, h]; rfl
theorem blocks_drop {c : Cls} {i : Nat} {wd : ByteArray} {xs : List Tk} {bl : Bool} {k : Cls} {a : Int} {r : Cls} (h : c.drop i = .cons wd xs bl k a r) : blocks (c.drop i) = (if bl then 1 + blocks k else 0) + blocks (c.drop (i + 1)) := by
  rw [drop_next c i h, h]; rfl
theorem drop_zero (c : Cls) : c.drop 0 = c := by cases c <;> rfl
theorem blocks_count : ∀ (c : Cls), blocks c ≤ c.count
  | .nil => Nat.le_refl _
  | .cons w xs b k a r => by
    have h1 := blocks_count k
    have h2 := blocks_count r
    simp only [blocks, Cls.count]
    split <;> omega
def QdC (n : Nat) : Prop := ∀ (c : Cls), c.count < n → ∀ (w : World) (F : Nat → Prop) (a : Option Addr) (b o cap : Nat), SlC w F a b o c.len cap c →
    Calls Tryz.prog 31 #[.slice a c.len cap] w fun e w' => e = .returned (.int .i64 (c.depth : Int)) ∧ w = w'
set_option maxHeartbeats 4000000 in
set_option maxRecDepth 100000 in
theorem rdepth_any : ∀ n : Nat, n ≤ 4611686018427387904 → QdC n
  | 0, _ => fun _ h => absurd h (Nat.not_lt_zero _)
  | n + 1, hn => fun c hc w F a b o cap hA => by
    have IH := Lib.hid (rdepth_any n (by omega))
    have HA := Lib.hid hA
    have HM := Lib.hid (fun i wd xs bl k a r => @drop_count c i wd xs bl k a r)
    have HD := Lib.hid (fun i wd xs bl k a r => @depth_drop c i wd xs bl k a r)
    have HE := Lib.hid (show (c.drop c.len).depth = 0 by rw [drop_all]; rfl)
    have HZ := Lib.hid (show c.depth = (c.drop 0).depth by rw [drop_zero])
    have hlc : c.len ≤ 4611686018427387904 := by have := kidsN_le c 0; omega
    have hdc := depth_count c
    obtain ⟨N, hN⟩ : ∃ N, c.count = N := ⟨_, rfl⟩
    obtain ⟨l, hl⟩ : ∃ l, c.len = l := ⟨_, rfl⟩
    obtain ⟨D, hD⟩ : ∃ D, c.depth = D := ⟨_, rfl⟩
    rw [hN] at HM hc hdc
    rw [hl] at HA HE hlc ⊢
    rw [hD] at HZ hdc ⊢
    have HLN := Lib.hid hl
    clear hA hN hl hD
    go_enter Tryz.func31, Tryz.ntmps31
    go_wp2_with fail
    go_loopw [3, 4] (fun s3 s4 wr => ∃ (k q : Nat), k ≤ l ∧ s4 = .int .i64 (k : Int) ∧ s3 = .int .i64 (q : Int) ∧ Hid (D = max q (c.drop k).depth) ∧ w = wr) (fun _ s4 _ => (l - (intOf s4)).toNat)
    case atStart => exact ⟨0, 0, Nat.zero_le _, rfl, rfl, Lib.hid (by rw [HZ.out]; simp), rfl⟩
    case round =>
      obtain ⟨k, q, hk, rfl, rfl, HR, rfl⟩ := hrel
      by_cases hlt : k < l
      · have hl : (k : Int) < (l : Int) := by omega
        obtain ⟨rfl, ba, _⟩ := HA.out.2.2.2.1 (by omega)
        obtain ⟨wd, xs, bl, kd, av, rest, aa, ba', oa, la, ca, ak, bk, ok, ck, hd, c0, c1, c2, c3, c4, _, _, SK⟩ := AtC.get k (by rw [HLN.out]; exact hlt) HA.out.2.2.2.2
        have hnx := HD.out _ _ _ _ _ _ _ hd
        have hkc := HM.out _ _ _ _ _ _ _ hd
        have hr := HR.out
        rw [hnx] at hr
        have HC := Lib.hid (IH.out kd (by omega) w F _ _ _ _ SK)
        generalize (c.drop (k + 1)).depth = g at hr
        have hgg := Lib.hid (show ∀ q' : Nat, D = max q' (c.drop (k + 1)).depth → D = max q' (c.drop (k + 1)).depth from fun _ h => h)
        cases bl with
        | false =>
          have HNX := Lib.hid (show D = max q (c.drop (k + 1)).depth by have := HR.out; rw [hnx] at this; simpa using this)
          clear hnx hd HR hr SK HC IH HM HD hgg
          go_wp2_with fail
          go_roundw
          case rel => exact ⟨k + 1, q, by omega, by go_num, rfl, HNX, trivial⟩
          case measure => simp [intOf]; omega
        | true =>
          have hz : kd.depth + 1 ≤ D := by simp at hr; omega
          have HNX := Lib.hid (show D = max (max q (kd.depth + 1)) (c.drop (k + 1)).depth by have := HR.out; rw [hnx] at this; simp at this; omega)
          generalize kd.depth = z at *
          generalize kd.len = y at *
          clear hnx hd HR hr SK IH HM HD hgg
          go_wp2_with fail
          refine HC.out.mono ?_
          rintro e w1 ⟨rfl, rfl⟩
          by_cases hm : q < z + 1
          · have hm1 : (q : Int) < 1 + (z : Int) := by omega
            go_wp2_with fail
            go_roundw
            case rel => exact ⟨k + 1, z + 1, by omega, by go_num, by go_num, Lib.hid (by have := HNX.out; omega), trivial⟩
            case measure => simp [intOf]; omega
          · have hm1 : ¬ (q : Int) < 1 + (z : Int) := by omega
            go_wp2_with fail
            go_roundw
            case rel => exact ⟨k + 1, q, by omega, by go_num, by go_num, Lib.hid (by have := HNX.out; omega), trivial⟩
            case measure => simp [intOf]; omega
      · have hl : ¬ (k : Int) < (l : Int) := by omega
        obtain rfl : k = l := by omega
        have he := HR.out
        rw [HE.out] at he
        clear HA HD HE IH HM HR HZ
        go_wp2_with fail
        go_ret
        exact ⟨ret_int (by omega), rfl⟩
def QbC (n : Nat) : Prop := ∀ (c : Cls), c.count < n → ∀ (w : World) (F : Nat → Prop) (a : Option Addr) (b o cap : Nat), SlC w F a b o c.len cap c →
    Calls Tryz.prog 20 #[.slice a c.len cap] w fun e w' => e = .returned (.int .i64 (blocks c : Int)) ∧ w = w'
set_option maxHeartbeats 4000000 in
set_option maxRecDepth 100000 in
theorem rblocks_any : ∀ n : Nat, n ≤ 4611686018427387904 → QbC n
  | 0, _ => fun _ h => absurd h (Nat.not_lt_zero _)
  | n + 1, hn => fun c hc w F a b o cap hA => by
    have IH := Lib.hid (rblocks_any n (by omega))
    have HA := Lib.hid hA
    have HM := Lib.hid (fun i wd xs bl k a r => @drop_count c i wd xs bl k a r)
    have HD := Lib.hid (fun i wd xs bl k a r => @blocks_drop c i wd xs bl k a r)
    have HE := Lib.hid (show blocks (c.drop c.len) = 0 by rw [drop_all]; rfl)
    have HZ := Lib.hid (show blocks c = blocks (c.drop 0) by rw [drop_zero])
    have hlc : c.len ≤ 4611686018427387904 := by have := kidsN_le c 0; omega
    have hdc := blocks_count c
    obtain ⟨N, hN⟩ : ∃ N, c.count = N := ⟨_, rfl⟩
    obtain ⟨l, hl⟩ : ∃ l, c.len = l := ⟨_, rfl⟩
    obtain ⟨D, hD⟩ : ∃ D, blocks c = D := ⟨_, rfl⟩
    rw [hN] at HM hc hdc
    rw [hl] at HA HE hlc ⊢
    rw [hD] at HZ hdc ⊢
    have HLN := Lib.hid hl
    clear hA hN hl hD
    go_enter Tryz.func20, Tryz.ntmps20
    go_wp2_with fail
    go_loopw [3, 4] (fun s3 s4 wr => ∃ (k q : Nat), k ≤ l ∧ s4 = .int .i64 (k : Int) ∧ s3 = .int .i64 (q : Int) ∧ Hid (D = q + blocks (c.drop k)) ∧ w = wr) (fun _ s4 _ => (l - (intOf s4)).toNat)
    case atStart => exact ⟨0, 0, Nat.zero_le _, rfl, rfl, Lib.hid (by rw [HZ.out]; simp), rfl⟩
    case round =>
      obtain ⟨k, q, hk, rfl, rfl, HR, rfl⟩ := hrel
      by_cases hlt : k < l
      · have hl : (k : Int) < (l : Int) := by omega
        obtain ⟨rfl, ba, _⟩ := HA.out.2.2.2.1 (by omega)
        obtain ⟨wd, xs, bl, kd, av, rest, aa, ba', oa, la, ca, ak, bk, ok, ck, hd, c0, c1, c2, c3, c4, _, _, SK⟩ := AtC.get k (by rw [HLN.out]; exact hlt) HA.out.2.2.2.2
        have hnx := HD.out _ _ _ _ _ _ _ hd
        have hkc := HM.out _ _ _ _ _ _ _ hd
        have HC := Lib.hid (IH.out kd (by omega) w F _ _ _ _ SK)
        cases bl with
        | false =>
          have HNX := Lib.hid (show D = q + blocks (c.drop (k + 1)) by have := HR.out; rw [hnx] at this; simpa using this)
          clear hnx hd HR SK HC IH HM HD
          go_wp2_with fail
          go_roundw
          case rel => exact ⟨k + 1, q, by omega, by go_num, rfl, HNX, trivial⟩
          case measure => simp [intOf]; omega
        | true =>
          have HNX := Lib.hid (show D = (q + (1 + blocks kd)) + blocks (c.drop (k + 1)) by have := HR.out; rw [hnx] at this; simp at this; omega)
          have hz : q + (1 + blocks kd) ≤ D := by have := HNX.out; omega
          generalize blocks kd = z at *
          generalize kd.len = y at *
          clear hnx hd HR SK IH HM HD
          go_wp2_with fail
          refine HC.out.mono ?_
          rintro e w1 ⟨rfl, rfl⟩
          go_wp2_with fail
          go_roundw
          case rel => exact ⟨k + 1, q + (1 + z), by omega, by go_num, by go_num, HNX, trivial⟩
          case measure => simp [intOf]; omega
      · have hl : ¬ (k : Int) < (l : Int) := by omega
        obtain rfl : k = l := by omega
        have he := HR.out
        rw [HE.out] at he
        clear HA HD HE IH HM HR HZ
        go_wp2_with fail
        go_ret
        exact ⟨ret_int (by omega), rfl⟩
end Go.Proofs.YtohalocbghhenaaGreatDoor
