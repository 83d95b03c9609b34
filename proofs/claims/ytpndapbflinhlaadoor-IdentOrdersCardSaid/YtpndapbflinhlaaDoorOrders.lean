/- The law IdentOrders: its walk. -/
import Derived.Test.YtpndapbflinhlaaDoorAwake
set_option linter.unusedSimpArgs false
set_option linter.unusedVariables false
namespace Go.Proofs.YtpndapbflinhlaaDoor
open Go.RowKit

theorem nat_take (a : ByteArray) (k : Nat) : natC (a.extract 0 k).data.toList a.data.toList ≤ 0 := by
  rw [ext_list, List.drop_zero, Nat.sub_zero]
  have := nat_pre (a.data.toList.take k) (a.data.toList.drop k)
  rwa [List.take_append_drop] at this
theorem list_inj {a b : ByteArray} (h : a.data.toList = b.data.toList) : a = b := by
  rw [← bs_list a, ← bs_list b, h]
theorem nat_eq (a b : ByteArray) : (natC a.data.toList b.data.toList == 0) = (a.toList == b.toList) := by
  rw [Bool.eq_iff_iff, beq_iff_eq, nat_zero, eq_iff]
  exact ⟨list_inj, fun h => by rw [h]⟩

set_option maxHeartbeats 1000000 in
set_option maxRecDepth 100000 in
theorem orders_out (a b c : ByteArray) (ha : a.size ≤ 9223372036854775807) (hb : b.size ≤ 9223372036854775807) (hc : c.size ≤ 9223372036854775807) (h : 500 < a.size ∨ 500 < b.size ∨ 500 < c.size) (w : World) :
    Calls Tryd.prog 7 #[.string a, .string b, .string c] w fun e w' => e = .returned (.bool true) ∧ Below w.heap.size w w' := by
  by_cases h1 : 500 < a.size
  · have k1 : decide ((a.size : Int) > 500) = true := by simp; omega
    go_enter Tryd.func7, Tryd.ntmps7
    go_wp2_with fail
    refine (awake_any _).mono ?_
    rintro e w1 ⟨rfl, hbl⟩
    have HB := Lib.hid hbl
    clear hbl
    go_wp2
    go_ret
    exact ⟨rfl, HB.out⟩
  · have k1 : decide ((a.size : Int) > 500) = false := by simp; omega
    by_cases h2 : 500 < b.size
    · have k2 : decide ((b.size : Int) > 500) = true := by simp; omega
      go_enter Tryd.func7, Tryd.ntmps7
      go_wp2_with fail
      refine (awake_any _).mono ?_
      rintro e w1 ⟨rfl, hbl⟩
      have HB := Lib.hid hbl
      clear hbl
      go_wp2
      go_ret
      exact ⟨rfl, HB.out⟩
    · have k2 : decide ((b.size : Int) > 500) = false := by simp; omega
      have k3 : decide ((c.size : Int) > 500) = true := by simp; omega
      go_enter Tryd.func7, Tryd.ntmps7
      go_wp2_with fail
      refine (awake_any _).mono ?_
      rintro e w1 ⟨rfl, hbl⟩
      have HB := Lib.hid hbl
      clear hbl
      go_wp2
      go_ret
      exact ⟨rfl, HB.out⟩

set_option maxHeartbeats 2000000 in
set_option maxRecDepth 100000 in
theorem orders_in (a b c : ByteArray) (ha : a.size ≤ 500) (hb : b.size ≤ 500) (hc : c.size ≤ 500) (w : World) :
    Calls Tryd.prog 7 #[.string a, .string b, .string c] w fun e w' => e = .returned (.bool true) ∧ Below w.heap.size w w' := by
  have k1 : decide ((a.size : Int) > 500) = false := by simp; omega
  have k2 : decide ((b.size : Int) > 500) = false := by simp; omega
  have k3 : decide ((c.size : Int) > 500) = false := by simp; omega
  have HX := Lib.hid (fun W => natural_any a b (by omega) (by omega) W)
  have HY := Lib.hid (fun W => natural_any b c (by omega) (by omega) W)
  have HZ := Lib.hid (fun W => natural_any a c (by omega) (by omega) W)
  have HR := Lib.hid (fun W => natural_any b a (by omega) (by omega) W)
  have k4 := nat_eq a b
  have t3 := tot_nat.three a.data.toList b.data.toList
  have ty := tot_nat.three b.data.toList c.data.toList
  have tz := tot_nat.three a.data.toList c.data.toList
  have tt := tot_nat.trans a.data.toList b.data.toList c.data.toList
  rw [tot_nat.turn b.data.toList a.data.toList] at HR
  have HL := Lib.hid (fun (k : Nat) (W : World) => natural_any (a.extract 0 k) a (by rw [← list_size, ext_list, List.length_take, List.length_drop, list_size]; omega) (by omega) W)
  have HLE := Lib.hid (fun k => nat_take a k)
  generalize natC a.data.toList b.data.toList = x at *
  generalize natC b.data.toList c.data.toList = y at *
  generalize natC a.data.toList c.data.toList = z at *
  have bx : -1 ≤ x ∧ x ≤ 1 := by omega
  have by' : -1 ≤ y ∧ y ≤ 1 := by omega
  have bz : -1 ≤ z ∧ z ≤ 1 := by omega
  obtain ⟨bx1, bx2⟩ := bx
  obtain ⟨by1, by2⟩ := by'
  obtain ⟨bz1, bz2⟩ := bz
  have k5 : (x != - -x) = false := by simp
  have k6 : decide (x < -1) = false := by simp; omega
  have k7 : decide (x > 1) = false := by simp; omega
  have HT := Lib.hid tt
  clear t3 ty tz tt
  by_cases hx : x ≤ 0
  · have k8 : decide (x ≤ 0) = true := by simpa using hx
    by_cases hy : y ≤ 0
    · have k9 : decide (y ≤ 0) = true := by simpa using hy
      have hz := HT.out hx hy
      have k10 : decide (z > 0) = false := by simp; omega
      go_enter Tryd.func7, Tryd.ntmps7
      go_wp2_with fail
      refine (awake_any _).mono ?_
      rintro e w1 ⟨rfl, hbl⟩
      have HB := Lib.hid hbl
      clear hbl
      go_wp2_with fail
      refine (HX.out _).mono ?_
      rintro e w2 ⟨rfl, hbl⟩
      have HB2 := Lib.hid (HB.out.trans (hbl.mono HB.out.size))
      clear hbl HB
      go_wp2_with fail
      refine (HY.out _).mono ?_
      rintro e w3 ⟨rfl, hbl⟩
      have HB3 := Lib.hid (HB2.out.trans (hbl.mono HB2.out.size))
      clear hbl HB2
      go_wp2_with fail
      refine (HZ.out _).mono ?_
      rintro e w4 ⟨rfl, hbl⟩
      have HB4 := Lib.hid (HB3.out.trans (hbl.mono HB3.out.size))
      clear hbl HB3
      go_wp2_with fail
      refine (HR.out _).mono ?_
      rintro e w5 ⟨rfl, hbl⟩
      have HB5 := Lib.hid (HB4.out.trans (hbl.mono HB4.out.size))
      clear hbl HB4
      go_wp2_with fail
      go_loopw [10] (fun s10 wr => ∃ k : Nat, k ≤ a.size + 1 ∧ s10 = .int .i64 (k : Int) ∧ Hid (Below w.heap.size w wr)) (fun s10 _ => (a.size + 1 - (intOf s10)).toNat)
      case atStart => exact ⟨0, by omega, rfl, HB5⟩
      case round =>
        clear HB5 HX HY HZ HR HT k4 k5 k6 k7
        obtain ⟨k, hk, rfl, HB⟩ := hrel
        by_cases hle : k ≤ a.size
        · have l1 : (k : Int) ≤ (a.size : Int) := by omega
          go_wp2_with fail
          refine (HL.out k _).mono ?_
          rintro e w6 ⟨rfl, hbl⟩
          have HB6 := Lib.hid (HB.out.trans (hbl.mono HB.out.size))
          have hn := HLE.out k
          generalize natC (a.extract 0 k).data.toList a.data.toList = v at *
          have k8 : decide (v > 0) = false := by simp; omega
          clear hbl HB
          go_wp2
          go_roundw
          case rel => exact ⟨k + 1, by omega, by go_num, HB6⟩
          case measure => simp [intOf]; omega
        · have l1 : ¬ (k : Int) ≤ (a.size : Int) := by omega
          go_wp2
          go_ret
          exact ⟨rfl, HB.out⟩
    · have k9 : decide (y ≤ 0) = false := by simpa using hy
      go_enter Tryd.func7, Tryd.ntmps7
      go_wp2_with fail
      refine (awake_any _).mono ?_
      rintro e w1 ⟨rfl, hbl⟩
      have HB := Lib.hid hbl
      clear hbl
      go_wp2_with fail
      refine (HX.out _).mono ?_
      rintro e w2 ⟨rfl, hbl⟩
      have HB2 := Lib.hid (HB.out.trans (hbl.mono HB.out.size))
      clear hbl HB
      go_wp2_with fail
      refine (HY.out _).mono ?_
      rintro e w3 ⟨rfl, hbl⟩
      have HB3 := Lib.hid (HB2.out.trans (hbl.mono HB2.out.size))
      clear hbl HB2
      go_wp2_with fail
      refine (HZ.out _).mono ?_
      rintro e w4 ⟨rfl, hbl⟩
      have HB4 := Lib.hid (HB3.out.trans (hbl.mono HB3.out.size))
      clear hbl HB3
      go_wp2_with fail
      refine (HR.out _).mono ?_
      rintro e w5 ⟨rfl, hbl⟩
      have HB5 := Lib.hid (HB4.out.trans (hbl.mono HB4.out.size))
      clear hbl HB4
      go_wp2_with fail
      go_loopw [10] (fun s10 wr => ∃ k : Nat, k ≤ a.size + 1 ∧ s10 = .int .i64 (k : Int) ∧ Hid (Below w.heap.size w wr)) (fun s10 _ => (a.size + 1 - (intOf s10)).toNat)
      case atStart => exact ⟨0, by omega, rfl, HB5⟩
      case round =>
        clear HB5 HX HY HZ HR HT k4 k5 k6 k7
        obtain ⟨k, hk, rfl, HB⟩ := hrel
        by_cases hle : k ≤ a.size
        · have l1 : (k : Int) ≤ (a.size : Int) := by omega
          go_wp2_with fail
          refine (HL.out k _).mono ?_
          rintro e w6 ⟨rfl, hbl⟩
          have HB6 := Lib.hid (HB.out.trans (hbl.mono HB.out.size))
          have hn := HLE.out k
          generalize natC (a.extract 0 k).data.toList a.data.toList = v at *
          have k8 : decide (v > 0) = false := by simp; omega
          clear hbl HB
          go_wp2
          go_roundw
          case rel => exact ⟨k + 1, by omega, by go_num, HB6⟩
          case measure => simp [intOf]; omega
        · have l1 : ¬ (k : Int) ≤ (a.size : Int) := by omega
          go_wp2
          go_ret
          exact ⟨rfl, HB.out⟩
  · have k8 : decide (x ≤ 0) = false := by simpa using hx
    go_enter Tryd.func7, Tryd.ntmps7
    go_wp2_with fail
    refine (awake_any _).mono ?_
    rintro e w1 ⟨rfl, hbl⟩
    have HB := Lib.hid hbl
    clear hbl
    go_wp2_with fail
    refine (HX.out _).mono ?_
    rintro e w2 ⟨rfl, hbl⟩
    have HB2 := Lib.hid (HB.out.trans (hbl.mono HB.out.size))
    clear hbl HB
    go_wp2_with fail
    refine (HY.out _).mono ?_
    rintro e w3 ⟨rfl, hbl⟩
    have HB3 := Lib.hid (HB2.out.trans (hbl.mono HB2.out.size))
    clear hbl HB2
    go_wp2_with fail
    refine (HZ.out _).mono ?_
    rintro e w4 ⟨rfl, hbl⟩
    have HB4 := Lib.hid (HB3.out.trans (hbl.mono HB3.out.size))
    clear hbl HB3
    go_wp2_with fail
    refine (HR.out _).mono ?_
    rintro e w5 ⟨rfl, hbl⟩
    have HB5 := Lib.hid (HB4.out.trans (hbl.mono HB4.out.size))
    clear hbl HB4
    go_wp2_with fail
    go_loopw [10] (fun s10 wr => ∃ k : Nat, k ≤ a.size + 1 ∧ s10 = .int .i64 (k : Int) ∧ Hid (Below w.heap.size w wr)) (fun s10 _ => (a.size + 1 - (intOf s10)).toNat)
    case atStart => exact ⟨0, by omega, rfl, HB5⟩
    case round =>
      clear HB5 HX HY HZ HR HT k4 k5 k6 k7
      obtain ⟨k, hk, rfl, HB⟩ := hrel
      by_cases hle : k ≤ a.size
      · have l1 : (k : Int) ≤ (a.size : Int) := by omega
        go_wp2_with fail
        refine (HL.out k _).mono ?_
        rintro e w6 ⟨rfl, hbl⟩
        have HB6 := Lib.hid (HB.out.trans (hbl.mono HB.out.size))
        have hn := HLE.out k
        generalize natC (a.extract 0 k).data.toList a.data.toList = v at *
        have k8 : decide (v > 0) = false := by simp; omega
        clear hbl HB
        go_wp2
        go_roundw
        case rel => exact ⟨k + 1, by omega, by go_num, HB6⟩
        case measure => simp [intOf]; omega
      · have l1 : ¬ (k : Int) ≤ (a.size : Int) := by omega
        go_wp2
        go_ret
        exact ⟨rfl, HB.out⟩

theorem orders_walk (a b c : ByteArray) (ha : a.size ≤ 9223372036854775807) (hb : b.size ≤ 9223372036854775807) (hc : c.size ≤ 9223372036854775807) (w : World) :
    Calls Tryd.prog 7 #[.string a, .string b, .string c] w fun e w' => e = .returned (.bool true) ∧ Below w.heap.size w w' := by
  by_cases h : 500 < a.size ∨ 500 < b.size ∨ 500 < c.size
  · exact orders_out a b c ha hb hc h w
  · exact orders_in a b c (by omega) (by omega) (by omega) w
end Go.Proofs.YtpndapbflinhlaaDoor
