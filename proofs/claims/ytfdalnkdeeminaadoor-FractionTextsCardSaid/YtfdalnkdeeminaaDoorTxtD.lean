/- The reference's Parse, by its ways. -/
import Derived.Test.YtfdalnkdeeminaaDoorTxtC
import Derived.Test.YtfdalnkdeeminaaDoorRefE
set_option linter.unusedSimpArgs false
set_option linter.unusedVariables false
namespace Go.Proofs.YtfdalnkdeeminaaDoor
open Go.RowKit

/-- what stands behind the sign -/
def StripP (s r : ByteArray) (neg : Bool) : Prop :=
  (¬ 0 < s.size ∧ neg = false ∧ s = r) ∨ (∃ h : 0 < s.size, (s[0]'h).toNat ≠ 45 ∧ neg = false ∧ s = r) ∨ (∃ h : 0 < s.size, (s[0]'h).toNat = 45 ∧ neg = true ∧ s.extract 1 s.size = r)
def DigP (x : ByteArray) (a : Int) (ok : Bool) : Prop := ∀ W, Calls Tryd.prog 67 #[.string x] W fun e w' => e = .returned (.tuple #[.int .u64 a, .bool ok]) ∧ W = w'

set_option maxHeartbeats 2000000 in
set_option maxRecDepth 100000 in
theorem rparse_0_0 {s r : ByteArray} {neg : Bool} {n : Nat} {a b : Int} {t : Int × Int × Int} (HS : Hid (StripP s r neg)) (hs : r.size ≤ 100) (hn : n ≤ r.size)
    (HL : Hid (∀ (k : Nat) (_ : k < n) (hk : k < r.size), ¬ ((r[k]'hk).toNat = 47 ∨ (r[k]'hk).toNat = 46))) (hx : n = r.size) (HD : Hid (DigP (r.extract 0 n) a false)) (w : World) :
    Calls Tryd.prog 39 #[.string s] w fun e w' => e = .returned (fracE (0, 0, 2)) ∧ Below w.heap.size w w' := by
  go_enter Tryd.func39, Tryd.ntmps39
  go_upto_region 1 with fail
  have r0 : (w.alloc (.cells #[.int .i64 0, .int .i64 0] 23)).cell? ⟨w.heap.size, 0, none⟩ = some (.int .i64 0) := by simp [go_sem]
  have r1 : (w.alloc (.cells #[.int .i64 0, .int .i64 0] 23)).cell? ⟨w.heap.size, 1, none⟩ = some (.int .i64 0) := by simp [go_sem]
  have f0 : (w.alloc (.cells #[.int .i64 0, .int .i64 0] 23)).frozen? ⟨w.heap.size, 0, none⟩ = false := by simp [go_sem]
  have f1 : (w.alloc (.cells #[.int .i64 0, .int .i64 0] 23)).frozen? ⟨w.heap.size, 1, none⟩ = false := by simp [go_sem]
  have hbA : Below w.heap.size w (w.alloc (.cells #[.int .i64 0, .int .i64 0] 23)) := (by repeat (first | with_reducible exact Below.refl _ _ | (with_reducible refine Below.setCell ?_ (by first | exact Nat.le_refl _ | omega | (simp; done) | (simp; omega)) _) | (with_reducible refine Below.alloc ?_ (by first | exact Nat.le_refl _ | omega | (simp; done) | (simp; omega)) _) | with_reducible refine Below.drew ?_ | with_reducible refine bel_drewN ?_ _ | (with_reducible refine bel_by (by with_reducible assumption) (by first | exact Nat.le_refl _ | omega | (simp; done) | (simp; omega)) ?_)))
  have hzA : (w.alloc (.cells #[.int .i64 0, .int .i64 0] 23)).heap.size = w.heap.size + 1 := by simp
  generalize w.alloc (.cells #[.int .i64 0, .int .i64 0] 23) = wA at *
  have k0 : w.heap.size < wA.heap.size := by omega
  go_cut [4] (fun s4 wx => s4 = .bool neg ∧ wA = wx)
  case first =>
    rcases HS.out with ⟨h0, rfl, -⟩ | ⟨h0, hc, rfl, -⟩ | ⟨h0, hc, rfl, -⟩
    · have h0' : ¬ (0 : Int) < (s.size : Int) := by omega
      go_wp2_with fail
      go_meet
      exact ⟨rfl, rfl⟩
    · have h0' : (0 : Int) < (s.size : Int) := by omega
      have hc' : ((((s[0]'h0).toNat : Int)) == 45) = false := by simp; omega
      go_wp2_with fail
      go_meet
      exact ⟨rfl, rfl⟩
    · have h0' : (0 : Int) < (s.size : Int) := by omega
      have hc' : ((((s[0]'h0).toNat : Int)) == 45) = true := by simp; omega
      go_wp2_with fail
      go_meet
      exact ⟨rfl, rfl⟩
  obtain ⟨rfl, rfl⟩ := hcut
  go_upto_if 21 with fail
  go_cut [0] (fun s0 wx => s0 = .string r ∧ wA = wx)
  case first =>
    rcases HS.out with ⟨h0, rfl, e⟩ | ⟨h0, hc, rfl, e⟩ | ⟨h0, hc, rfl, e⟩
    · have HE := Lib.hid e
      clear e
      go_wp2_with fail
      go_meet
      exact ⟨congrArg Value.string HE.out, rfl⟩
    · have HE := Lib.hid e
      clear e hc
      go_wp2_with fail
      go_meet
      exact ⟨congrArg Value.string HE.out, rfl⟩
    · have h0' : (1 : Int) ≤ (s.size : Int) := by omega
      have HE := Lib.hid e
      clear e hc
      go_wp2_with fail
      go_meet
      exact ⟨congrArg Value.string HE.out, rfl⟩
  obtain ⟨rfl, rfl⟩ := hcut
  go_wp2
  go_loop [5] (fun s5 => ∃ k : Nat, k ≤ n ∧ s5 = .int .i64 k) (fun s5 => n - (intOf s5).toNat)
  case atStart => exact ⟨0, Nat.zero_le _, rfl⟩
  case round =>
    obtain ⟨k, hk, rfl⟩ := hrel
    by_cases hlt : k < n
    · have hkl : k < r.size := by omega
      have hno := HL.out k hlt hkl
      have n47 : ((((r[k]'hkl).toNat : Int)) != 47) = true := by simp [bne]; omega
      have n46 : ((((r[k]'hkl).toNat : Int)) != 46) = true := by simp [bne]; omega
      clear hno
      go_wp2
      go_round
      case rel => exact ⟨k + 1, by omega, by go_num⟩
      case measure => simp [intOf]; omega
    · obtain rfl : k = n := by omega
      clear hlt hk
      have x0 : ¬ (k : Int) < (r.size : Int) := by omega
      clear hx
      go_wp2_with fail
      refine (HD.out _).mono ?_
      rintro e w1 ⟨rfl, rfl⟩
      go_wp2
      refine bodyPost_ret (v := fracE (0, 0, 2)) (by simp [results, Tryd.results39, go_sem, r0, r1, f0, f1, k0]) rfl ⟨rfl, (by repeat (first | with_reducible exact Below.refl _ _ | (with_reducible refine Below.setCell ?_ (by first | exact Nat.le_refl _ | omega | (simp; done) | (simp; omega)) _) | (with_reducible refine Below.alloc ?_ (by first | exact Nat.le_refl _ | omega | (simp; done) | (simp; omega)) _) | with_reducible refine Below.drew ?_ | with_reducible refine bel_drewN ?_ _ | (with_reducible refine bel_by (by with_reducible assumption) (by first | exact Nat.le_refl _ | omega | (simp; done) | (simp; omega)) ?_)))⟩

set_option maxHeartbeats 2000000 in
set_option maxRecDepth 100000 in
theorem rparse_0_47 {s r : ByteArray} {neg : Bool} {n : Nat} {a b : Int} {t : Int × Int × Int} (HS : Hid (StripP s r neg)) (hs : r.size ≤ 100) (hn : n ≤ r.size)
    (HL : Hid (∀ (k : Nat) (_ : k < n) (hk : k < r.size), ¬ ((r[k]'hk).toNat = 47 ∨ (r[k]'hk).toNat = 46))) (hc0 : n < r.size) (hc : (r[n]'hc0).toNat = 47) (HD : Hid (DigP (r.extract 0 n) a false)) (w : World) :
    Calls Tryd.prog 39 #[.string s] w fun e w' => e = .returned (fracE (0, 0, 2)) ∧ Below w.heap.size w w' := by
  go_enter Tryd.func39, Tryd.ntmps39
  go_upto_region 1 with fail
  have r0 : (w.alloc (.cells #[.int .i64 0, .int .i64 0] 23)).cell? ⟨w.heap.size, 0, none⟩ = some (.int .i64 0) := by simp [go_sem]
  have r1 : (w.alloc (.cells #[.int .i64 0, .int .i64 0] 23)).cell? ⟨w.heap.size, 1, none⟩ = some (.int .i64 0) := by simp [go_sem]
  have f0 : (w.alloc (.cells #[.int .i64 0, .int .i64 0] 23)).frozen? ⟨w.heap.size, 0, none⟩ = false := by simp [go_sem]
  have f1 : (w.alloc (.cells #[.int .i64 0, .int .i64 0] 23)).frozen? ⟨w.heap.size, 1, none⟩ = false := by simp [go_sem]
  have hbA : Below w.heap.size w (w.alloc (.cells #[.int .i64 0, .int .i64 0] 23)) := (by repeat (first | with_reducible exact Below.refl _ _ | (with_reducible refine Below.setCell ?_ (by first | exact Nat.le_refl _ | omega | (simp; done) | (simp; omega)) _) | (with_reducible refine Below.alloc ?_ (by first | exact Nat.le_refl _ | omega | (simp; done) | (simp; omega)) _) | with_reducible refine Below.drew ?_ | with_reducible refine bel_drewN ?_ _ | (with_reducible refine bel_by (by with_reducible assumption) (by first | exact Nat.le_refl _ | omega | (simp; done) | (simp; omega)) ?_)))
  have hzA : (w.alloc (.cells #[.int .i64 0, .int .i64 0] 23)).heap.size = w.heap.size + 1 := by simp
  generalize w.alloc (.cells #[.int .i64 0, .int .i64 0] 23) = wA at *
  have k0 : w.heap.size < wA.heap.size := by omega
  go_cut [4] (fun s4 wx => s4 = .bool neg ∧ wA = wx)
  case first =>
    rcases HS.out with ⟨h0, rfl, -⟩ | ⟨h0, hc, rfl, -⟩ | ⟨h0, hc, rfl, -⟩
    · have h0' : ¬ (0 : Int) < (s.size : Int) := by omega
      go_wp2_with fail
      go_meet
      exact ⟨rfl, rfl⟩
    · have h0' : (0 : Int) < (s.size : Int) := by omega
      have hc' : ((((s[0]'h0).toNat : Int)) == 45) = false := by simp; omega
      go_wp2_with fail
      go_meet
      exact ⟨rfl, rfl⟩
    · have h0' : (0 : Int) < (s.size : Int) := by omega
      have hc' : ((((s[0]'h0).toNat : Int)) == 45) = true := by simp; omega
      go_wp2_with fail
      go_meet
      exact ⟨rfl, rfl⟩
  obtain ⟨rfl, rfl⟩ := hcut
  go_upto_if 21 with fail
  go_cut [0] (fun s0 wx => s0 = .string r ∧ wA = wx)
  case first =>
    rcases HS.out with ⟨h0, rfl, e⟩ | ⟨h0, hc, rfl, e⟩ | ⟨h0, hc, rfl, e⟩
    · have HE := Lib.hid e
      clear e
      go_wp2_with fail
      go_meet
      exact ⟨congrArg Value.string HE.out, rfl⟩
    · have HE := Lib.hid e
      clear e hc
      go_wp2_with fail
      go_meet
      exact ⟨congrArg Value.string HE.out, rfl⟩
    · have h0' : (1 : Int) ≤ (s.size : Int) := by omega
      have HE := Lib.hid e
      clear e hc
      go_wp2_with fail
      go_meet
      exact ⟨congrArg Value.string HE.out, rfl⟩
  obtain ⟨rfl, rfl⟩ := hcut
  go_wp2
  go_loop [5] (fun s5 => ∃ k : Nat, k ≤ n ∧ s5 = .int .i64 k) (fun s5 => n - (intOf s5).toNat)
  case atStart => exact ⟨0, Nat.zero_le _, rfl⟩
  case round =>
    obtain ⟨k, hk, rfl⟩ := hrel
    by_cases hlt : k < n
    · have hkl : k < r.size := by omega
      have hno := HL.out k hlt hkl
      have n47 : ((((r[k]'hkl).toNat : Int)) != 47) = true := by simp [bne]; omega
      have n46 : ((((r[k]'hkl).toNat : Int)) != 46) = true := by simp [bne]; omega
      clear hno
      go_wp2
      go_round
      case rel => exact ⟨k + 1, by omega, by go_num⟩
      case measure => simp [intOf]; omega
    · obtain rfl : k = n := by omega
      clear hlt hk
      have x0 : (k : Int) < (r.size : Int) := by omega
      have x47 : ((((r[k]'hc0).toNat : Int)) != 47) = false := by simp [bne]; omega
      have y47 : ((((r[k]'hc0).toNat : Int)) == 47) = true := by simp; omega
      have y46 : ((((r[k]'hc0).toNat : Int)) == 46) = false := by simp; omega
      go_wp2_with fail
      refine (HD.out _).mono ?_
      rintro e w1 ⟨rfl, rfl⟩
      go_wp2
      refine bodyPost_ret (v := fracE (0, 0, 2)) (by simp [results, Tryd.results39, go_sem, r0, r1, f0, f1, k0]) rfl ⟨rfl, (by repeat (first | with_reducible exact Below.refl _ _ | (with_reducible refine Below.setCell ?_ (by first | exact Nat.le_refl _ | omega | (simp; done) | (simp; omega)) _) | (with_reducible refine Below.alloc ?_ (by first | exact Nat.le_refl _ | omega | (simp; done) | (simp; omega)) _) | with_reducible refine Below.drew ?_ | with_reducible refine bel_drewN ?_ _ | (with_reducible refine bel_by (by with_reducible assumption) (by first | exact Nat.le_refl _ | omega | (simp; done) | (simp; omega)) ?_)))⟩

set_option maxHeartbeats 2000000 in
set_option maxRecDepth 100000 in
theorem rparse_0_46 {s r : ByteArray} {neg : Bool} {n : Nat} {a b : Int} {t : Int × Int × Int} (HS : Hid (StripP s r neg)) (hs : r.size ≤ 100) (hn : n ≤ r.size)
    (HL : Hid (∀ (k : Nat) (_ : k < n) (hk : k < r.size), ¬ ((r[k]'hk).toNat = 47 ∨ (r[k]'hk).toNat = 46))) (hc0 : n < r.size) (hc : (r[n]'hc0).toNat = 46) (HD : Hid (DigP (r.extract 0 n) a false)) (w : World) :
    Calls Tryd.prog 39 #[.string s] w fun e w' => e = .returned (fracE (0, 0, 2)) ∧ Below w.heap.size w w' := by
  go_enter Tryd.func39, Tryd.ntmps39
  go_upto_region 1 with fail
  have r0 : (w.alloc (.cells #[.int .i64 0, .int .i64 0] 23)).cell? ⟨w.heap.size, 0, none⟩ = some (.int .i64 0) := by simp [go_sem]
  have r1 : (w.alloc (.cells #[.int .i64 0, .int .i64 0] 23)).cell? ⟨w.heap.size, 1, none⟩ = some (.int .i64 0) := by simp [go_sem]
  have f0 : (w.alloc (.cells #[.int .i64 0, .int .i64 0] 23)).frozen? ⟨w.heap.size, 0, none⟩ = false := by simp [go_sem]
  have f1 : (w.alloc (.cells #[.int .i64 0, .int .i64 0] 23)).frozen? ⟨w.heap.size, 1, none⟩ = false := by simp [go_sem]
  have hbA : Below w.heap.size w (w.alloc (.cells #[.int .i64 0, .int .i64 0] 23)) := (by repeat (first | with_reducible exact Below.refl _ _ | (with_reducible refine Below.setCell ?_ (by first | exact Nat.le_refl _ | omega | (simp; done) | (simp; omega)) _) | (with_reducible refine Below.alloc ?_ (by first | exact Nat.le_refl _ | omega | (simp; done) | (simp; omega)) _) | with_reducible refine Below.drew ?_ | with_reducible refine bel_drewN ?_ _ | (with_reducible refine bel_by (by with_reducible assumption) (by first | exact Nat.le_refl _ | omega | (simp; done) | (simp; omega)) ?_)))
  have hzA : (w.alloc (.cells #[.int .i64 0, .int .i64 0] 23)).heap.size = w.heap.size + 1 := by simp
  generalize w.alloc (.cells #[.int .i64 0, .int .i64 0] 23) = wA at *
  have k0 : w.heap.size < wA.heap.size := by omega
  go_cut [4] (fun s4 wx => s4 = .bool neg ∧ wA = wx)
  case first =>
    rcases HS.out with ⟨h0, rfl, -⟩ | ⟨h0, hc, rfl, -⟩ | ⟨h0, hc, rfl, -⟩
    · have h0' : ¬ (0 : Int) < (s.size : Int) := by omega
      go_wp2_with fail
      go_meet
      exact ⟨rfl, rfl⟩
    · have h0' : (0 : Int) < (s.size : Int) := by omega
      have hc' : ((((s[0]'h0).toNat : Int)) == 45) = false := by simp; omega
      go_wp2_with fail
      go_meet
      exact ⟨rfl, rfl⟩
    · have h0' : (0 : Int) < (s.size : Int) := by omega
      have hc' : ((((s[0]'h0).toNat : Int)) == 45) = true := by simp; omega
      go_wp2_with fail
      go_meet
      exact ⟨rfl, rfl⟩
  obtain ⟨rfl, rfl⟩ := hcut
  go_upto_if 21 with fail
  go_cut [0] (fun s0 wx => s0 = .string r ∧ wA = wx)
  case first =>
    rcases HS.out with ⟨h0, rfl, e⟩ | ⟨h0, hc, rfl, e⟩ | ⟨h0, hc, rfl, e⟩
    · have HE := Lib.hid e
      clear e
      go_wp2_with fail
      go_meet
      exact ⟨congrArg Value.string HE.out, rfl⟩
    · have HE := Lib.hid e
      clear e hc
      go_wp2_with fail
      go_meet
      exact ⟨congrArg Value.string HE.out, rfl⟩
    · have h0' : (1 : Int) ≤ (s.size : Int) := by omega
      have HE := Lib.hid e
      clear e hc
      go_wp2_with fail
      go_meet
      exact ⟨congrArg Value.string HE.out, rfl⟩
  obtain ⟨rfl, rfl⟩ := hcut
  go_wp2
  go_loop [5] (fun s5 => ∃ k : Nat, k ≤ n ∧ s5 = .int .i64 k) (fun s5 => n - (intOf s5).toNat)
  case atStart => exact ⟨0, Nat.zero_le _, rfl⟩
  case round =>
    obtain ⟨k, hk, rfl⟩ := hrel
    by_cases hlt : k < n
    · have hkl : k < r.size := by omega
      have hno := HL.out k hlt hkl
      have n47 : ((((r[k]'hkl).toNat : Int)) != 47) = true := by simp [bne]; omega
      have n46 : ((((r[k]'hkl).toNat : Int)) != 46) = true := by simp [bne]; omega
      clear hno
      go_wp2
      go_round
      case rel => exact ⟨k + 1, by omega, by go_num⟩
      case measure => simp [intOf]; omega
    · obtain rfl : k = n := by omega
      clear hlt hk
      have x0 : (k : Int) < (r.size : Int) := by omega
      have x47 : ((((r[k]'hc0).toNat : Int)) != 47) = true := by simp [bne]; omega
      have x46 : ((((r[k]'hc0).toNat : Int)) != 46) = false := by simp [bne]; omega
      have y47 : ((((r[k]'hc0).toNat : Int)) == 47) = false := by simp; omega
      have y46 : ((((r[k]'hc0).toNat : Int)) == 46) = true := by simp; omega
      go_wp2_with fail
      refine (HD.out _).mono ?_
      rintro e w1 ⟨rfl, rfl⟩
      go_wp2
      refine bodyPost_ret (v := fracE (0, 0, 2)) (by simp [results, Tryd.results39, go_sem, r0, r1, f0, f1, k0]) rfl ⟨rfl, (by repeat (first | with_reducible exact Below.refl _ _ | (with_reducible refine Below.setCell ?_ (by first | exact Nat.le_refl _ | omega | (simp; done) | (simp; omega)) _) | (with_reducible refine Below.alloc ?_ (by first | exact Nat.le_refl _ | omega | (simp; done) | (simp; omega)) _) | with_reducible refine Below.drew ?_ | with_reducible refine bel_drewN ?_ _ | (with_reducible refine bel_by (by with_reducible assumption) (by first | exact Nat.le_refl _ | omega | (simp; done) | (simp; omega)) ?_)))⟩

set_option maxHeartbeats 2000000 in
set_option maxRecDepth 100000 in
theorem rparse_1 {s r : ByteArray} {neg : Bool} {n : Nat} {a b : Int} {t : Int × Int × Int} (HS : Hid (StripP s r neg)) (hs : r.size ≤ 100) (hn : n ≤ r.size)
    (HL : Hid (∀ (k : Nat) (_ : k < n) (hk : k < r.size), ¬ ((r[k]'hk).toNat = 47 ∨ (r[k]'hk).toNat = 46))) (hx : n = r.size) (HD : Hid (DigP (r.extract 0 n) a true)) (HB : Hid (∀ (bb : Bool), bb = (neg && decide (0 < a)) → ∀ W, Calls Tryd.prog 44 #[.bool bb, .agg #[.int .u64 0, .int .u64 (a)], .agg #[.int .u64 0, .int .u64 (1)]] W fun e w' => e = .returned (fracE t) ∧ Below W.heap.size W w')) (w : World) :
    Calls Tryd.prog 39 #[.string s] w fun e w' => e = .returned (fracE t) ∧ Below w.heap.size w w' := by
  go_enter Tryd.func39, Tryd.ntmps39
  go_upto_region 1 with fail
  have r0 : (w.alloc (.cells #[.int .i64 0, .int .i64 0] 23)).cell? ⟨w.heap.size, 0, none⟩ = some (.int .i64 0) := by simp [go_sem]
  have r1 : (w.alloc (.cells #[.int .i64 0, .int .i64 0] 23)).cell? ⟨w.heap.size, 1, none⟩ = some (.int .i64 0) := by simp [go_sem]
  have f0 : (w.alloc (.cells #[.int .i64 0, .int .i64 0] 23)).frozen? ⟨w.heap.size, 0, none⟩ = false := by simp [go_sem]
  have f1 : (w.alloc (.cells #[.int .i64 0, .int .i64 0] 23)).frozen? ⟨w.heap.size, 1, none⟩ = false := by simp [go_sem]
  have hbA : Below w.heap.size w (w.alloc (.cells #[.int .i64 0, .int .i64 0] 23)) := (by repeat (first | with_reducible exact Below.refl _ _ | (with_reducible refine Below.setCell ?_ (by first | exact Nat.le_refl _ | omega | (simp; done) | (simp; omega)) _) | (with_reducible refine Below.alloc ?_ (by first | exact Nat.le_refl _ | omega | (simp; done) | (simp; omega)) _) | with_reducible refine Below.drew ?_ | with_reducible refine bel_drewN ?_ _ | (with_reducible refine bel_by (by with_reducible assumption) (by first | exact Nat.le_refl _ | omega | (simp; done) | (simp; omega)) ?_)))
  have hzA : (w.alloc (.cells #[.int .i64 0, .int .i64 0] 23)).heap.size = w.heap.size + 1 := by simp
  generalize w.alloc (.cells #[.int .i64 0, .int .i64 0] 23) = wA at *
  have k0 : w.heap.size < wA.heap.size := by omega
  go_cut [4] (fun s4 wx => s4 = .bool neg ∧ wA = wx)
  case first =>
    rcases HS.out with ⟨h0, rfl, -⟩ | ⟨h0, hc, rfl, -⟩ | ⟨h0, hc, rfl, -⟩
    · have h0' : ¬ (0 : Int) < (s.size : Int) := by omega
      go_wp2_with fail
      go_meet
      exact ⟨rfl, rfl⟩
    · have h0' : (0 : Int) < (s.size : Int) := by omega
      have hc' : ((((s[0]'h0).toNat : Int)) == 45) = false := by simp; omega
      go_wp2_with fail
      go_meet
      exact ⟨rfl, rfl⟩
    · have h0' : (0 : Int) < (s.size : Int) := by omega
      have hc' : ((((s[0]'h0).toNat : Int)) == 45) = true := by simp; omega
      go_wp2_with fail
      go_meet
      exact ⟨rfl, rfl⟩
  obtain ⟨rfl, rfl⟩ := hcut
  go_upto_if 21 with fail
  go_cut [0] (fun s0 wx => s0 = .string r ∧ wA = wx)
  case first =>
    rcases HS.out with ⟨h0, rfl, e⟩ | ⟨h0, hc, rfl, e⟩ | ⟨h0, hc, rfl, e⟩
    · have HE := Lib.hid e
      clear e
      go_wp2_with fail
      go_meet
      exact ⟨congrArg Value.string HE.out, rfl⟩
    · have HE := Lib.hid e
      clear e hc
      go_wp2_with fail
      go_meet
      exact ⟨congrArg Value.string HE.out, rfl⟩
    · have h0' : (1 : Int) ≤ (s.size : Int) := by omega
      have HE := Lib.hid e
      clear e hc
      go_wp2_with fail
      go_meet
      exact ⟨congrArg Value.string HE.out, rfl⟩
  obtain ⟨rfl, rfl⟩ := hcut
  go_wp2
  go_loop [5] (fun s5 => ∃ k : Nat, k ≤ n ∧ s5 = .int .i64 k) (fun s5 => n - (intOf s5).toNat)
  case atStart => exact ⟨0, Nat.zero_le _, rfl⟩
  case round =>
    obtain ⟨k, hk, rfl⟩ := hrel
    by_cases hlt : k < n
    · have hkl : k < r.size := by omega
      have hno := HL.out k hlt hkl
      have n47 : ((((r[k]'hkl).toNat : Int)) != 47) = true := by simp [bne]; omega
      have n46 : ((((r[k]'hkl).toNat : Int)) != 46) = true := by simp [bne]; omega
      clear hno
      go_wp2
      go_round
      case rel => exact ⟨k + 1, by omega, by go_num⟩
      case measure => simp [intOf]; omega
    · obtain rfl : k = n := by omega
      clear hlt hk
      have x0 : ¬ (k : Int) < (r.size : Int) := by omega
      have x1 : ((k : Int) == (r.size : Int)) = true := by simp; omega
      clear hx
      go_wp2_with fail
      refine (HD.out _).mono ?_
      rintro e w1 ⟨rfl, rfl⟩
      cases neg
      all_goals
        go_wp2_with fail
        refine (HB.out _ (by simp) _).mono ?_
        rintro e w2 ⟨rfl, hb2⟩
        obtain ⟨hc2, hf2⟩ := bcell hb2
        have hz2 := bsize hb2
        (try simp at hz2)
        have m0 : w.heap.size < w2.heap.size := by omega
        go_wp2
        refine bodyPost_ret (v := fracE t) (by simp [results, Tryd.results39, go_sem, hc2, hf2, r0, r1, f0, f1, k0, m0]) rfl ⟨rfl, (by repeat (first | with_reducible exact Below.refl _ _ | (with_reducible refine Below.setCell ?_ (by first | exact Nat.le_refl _ | omega | (simp; done) | (simp; omega)) _) | (with_reducible refine Below.alloc ?_ (by first | exact Nat.le_refl _ | omega | (simp; done) | (simp; omega)) _) | with_reducible refine Below.drew ?_ | with_reducible refine bel_drewN ?_ _ | (with_reducible refine bel_by (by with_reducible assumption) (by first | exact Nat.le_refl _ | omega | (simp; done) | (simp; omega)) ?_)))⟩

set_option maxHeartbeats 2000000 in
set_option maxRecDepth 100000 in
theorem rparse_2_47 {s r : ByteArray} {neg : Bool} {n : Nat} {a b : Int} {t : Int × Int × Int} (HS : Hid (StripP s r neg)) (hs : r.size ≤ 100) (hn : n ≤ r.size)
    (HL : Hid (∀ (k : Nat) (_ : k < n) (hk : k < r.size), ¬ ((r[k]'hk).toNat = 47 ∨ (r[k]'hk).toNat = 46))) (hc0 : n < r.size) (hc : (r[n]'hc0).toNat = 47) (HD : Hid (DigP (r.extract 0 n) a true)) (HD2 : Hid (DigP (r.extract (n + 1) r.size) b false)) (w : World) :
    Calls Tryd.prog 39 #[.string s] w fun e w' => e = .returned (fracE (0, 0, 2)) ∧ Below w.heap.size w w' := by
  go_enter Tryd.func39, Tryd.ntmps39
  go_upto_region 1 with fail
  have r0 : (w.alloc (.cells #[.int .i64 0, .int .i64 0] 23)).cell? ⟨w.heap.size, 0, none⟩ = some (.int .i64 0) := by simp [go_sem]
  have r1 : (w.alloc (.cells #[.int .i64 0, .int .i64 0] 23)).cell? ⟨w.heap.size, 1, none⟩ = some (.int .i64 0) := by simp [go_sem]
  have f0 : (w.alloc (.cells #[.int .i64 0, .int .i64 0] 23)).frozen? ⟨w.heap.size, 0, none⟩ = false := by simp [go_sem]
  have f1 : (w.alloc (.cells #[.int .i64 0, .int .i64 0] 23)).frozen? ⟨w.heap.size, 1, none⟩ = false := by simp [go_sem]
  have hbA : Below w.heap.size w (w.alloc (.cells #[.int .i64 0, .int .i64 0] 23)) := (by repeat (first | with_reducible exact Below.refl _ _ | (with_reducible refine Below.setCell ?_ (by first | exact Nat.le_refl _ | omega | (simp; done) | (simp; omega)) _) | (with_reducible refine Below.alloc ?_ (by first | exact Nat.le_refl _ | omega | (simp; done) | (simp; omega)) _) | with_reducible refine Below.drew ?_ | with_reducible refine bel_drewN ?_ _ | (with_reducible refine bel_by (by with_reducible assumption) (by first | exact Nat.le_refl _ | omega | (simp; done) | (simp; omega)) ?_)))
  have hzA : (w.alloc (.cells #[.int .i64 0, .int .i64 0] 23)).heap.size = w.heap.size + 1 := by simp
  generalize w.alloc (.cells #[.int .i64 0, .int .i64 0] 23) = wA at *
  have k0 : w.heap.size < wA.heap.size := by omega
  go_cut [4] (fun s4 wx => s4 = .bool neg ∧ wA = wx)
  case first =>
    rcases HS.out with ⟨h0, rfl, -⟩ | ⟨h0, hc, rfl, -⟩ | ⟨h0, hc, rfl, -⟩
    · have h0' : ¬ (0 : Int) < (s.size : Int) := by omega
      go_wp2_with fail
      go_meet
      exact ⟨rfl, rfl⟩
    · have h0' : (0 : Int) < (s.size : Int) := by omega
      have hc' : ((((s[0]'h0).toNat : Int)) == 45) = false := by simp; omega
      go_wp2_with fail
      go_meet
      exact ⟨rfl, rfl⟩
    · have h0' : (0 : Int) < (s.size : Int) := by omega
      have hc' : ((((s[0]'h0).toNat : Int)) == 45) = true := by simp; omega
      go_wp2_with fail
      go_meet
      exact ⟨rfl, rfl⟩
  obtain ⟨rfl, rfl⟩ := hcut
  go_upto_if 21 with fail
  go_cut [0] (fun s0 wx => s0 = .string r ∧ wA = wx)
  case first =>
    rcases HS.out with ⟨h0, rfl, e⟩ | ⟨h0, hc, rfl, e⟩ | ⟨h0, hc, rfl, e⟩
    · have HE := Lib.hid e
      clear e
      go_wp2_with fail
      go_meet
      exact ⟨congrArg Value.string HE.out, rfl⟩
    · have HE := Lib.hid e
      clear e hc
      go_wp2_with fail
      go_meet
      exact ⟨congrArg Value.string HE.out, rfl⟩
    · have h0' : (1 : Int) ≤ (s.size : Int) := by omega
      have HE := Lib.hid e
      clear e hc
      go_wp2_with fail
      go_meet
      exact ⟨congrArg Value.string HE.out, rfl⟩
  obtain ⟨rfl, rfl⟩ := hcut
  go_wp2
  go_loop [5] (fun s5 => ∃ k : Nat, k ≤ n ∧ s5 = .int .i64 k) (fun s5 => n - (intOf s5).toNat)
  case atStart => exact ⟨0, Nat.zero_le _, rfl⟩
  case round =>
    obtain ⟨k, hk, rfl⟩ := hrel
    by_cases hlt : k < n
    · have hkl : k < r.size := by omega
      have hno := HL.out k hlt hkl
      have n47 : ((((r[k]'hkl).toNat : Int)) != 47) = true := by simp [bne]; omega
      have n46 : ((((r[k]'hkl).toNat : Int)) != 46) = true := by simp [bne]; omega
      clear hno
      go_wp2
      go_round
      case rel => exact ⟨k + 1, by omega, by go_num⟩
      case measure => simp [intOf]; omega
    · obtain rfl : k = n := by omega
      clear hlt hk
      have x0 : (k : Int) < (r.size : Int) := by omega
      have x47 : ((((r[k]'hc0).toNat : Int)) != 47) = false := by simp [bne]; omega
      have y47 : ((((r[k]'hc0).toNat : Int)) == 47) = true := by simp; omega
      have y46 : ((((r[k]'hc0).toNat : Int)) == 46) = false := by simp; omega
      have x1 : ((k : Int) == (r.size : Int)) = false := by simp; omega
      go_wp2_with fail
      refine (HD.out _).mono ?_
      rintro e w1 ⟨rfl, rfl⟩
      go_wp2_with fail
      refine (HD2.out _).mono ?_
      rintro e w1 ⟨rfl, rfl⟩
      go_wp2
      refine bodyPost_ret (v := fracE (0, 0, 2)) (by simp [results, Tryd.results39, go_sem, r0, r1, f0, f1, k0]) rfl ⟨rfl, (by repeat (first | with_reducible exact Below.refl _ _ | (with_reducible refine Below.setCell ?_ (by first | exact Nat.le_refl _ | omega | (simp; done) | (simp; omega)) _) | (with_reducible refine Below.alloc ?_ (by first | exact Nat.le_refl _ | omega | (simp; done) | (simp; omega)) _) | with_reducible refine Below.drew ?_ | with_reducible refine bel_drewN ?_ _ | (with_reducible refine bel_by (by with_reducible assumption) (by first | exact Nat.le_refl _ | omega | (simp; done) | (simp; omega)) ?_)))⟩

set_option maxHeartbeats 2000000 in
set_option maxRecDepth 100000 in
theorem rparse_2_46 {s r : ByteArray} {neg : Bool} {n : Nat} {a b : Int} {t : Int × Int × Int} (HS : Hid (StripP s r neg)) (hs : r.size ≤ 100) (hn : n ≤ r.size)
    (HL : Hid (∀ (k : Nat) (_ : k < n) (hk : k < r.size), ¬ ((r[k]'hk).toNat = 47 ∨ (r[k]'hk).toNat = 46))) (hc0 : n < r.size) (hc : (r[n]'hc0).toNat = 46) (HD : Hid (DigP (r.extract 0 n) a true)) (HD2 : Hid (DigP (r.extract (n + 1) r.size) b false)) (w : World) :
    Calls Tryd.prog 39 #[.string s] w fun e w' => e = .returned (fracE (0, 0, 2)) ∧ Below w.heap.size w w' := by
  go_enter Tryd.func39, Tryd.ntmps39
  go_upto_region 1 with fail
  have r0 : (w.alloc (.cells #[.int .i64 0, .int .i64 0] 23)).cell? ⟨w.heap.size, 0, none⟩ = some (.int .i64 0) := by simp [go_sem]
  have r1 : (w.alloc (.cells #[.int .i64 0, .int .i64 0] 23)).cell? ⟨w.heap.size, 1, none⟩ = some (.int .i64 0) := by simp [go_sem]
  have f0 : (w.alloc (.cells #[.int .i64 0, .int .i64 0] 23)).frozen? ⟨w.heap.size, 0, none⟩ = false := by simp [go_sem]
  have f1 : (w.alloc (.cells #[.int .i64 0, .int .i64 0] 23)).frozen? ⟨w.heap.size, 1, none⟩ = false := by simp [go_sem]
  have hbA : Below w.heap.size w (w.alloc (.cells #[.int .i64 0, .int .i64 0] 23)) := (by repeat (first | with_reducible exact Below.refl _ _ | (with_reducible refine Below.setCell ?_ (by first | exact Nat.le_refl _ | omega | (simp; done) | (simp; omega)) _) | (with_reducible refine Below.alloc ?_ (by first | exact Nat.le_refl _ | omega | (simp; done) | (simp; omega)) _) | with_reducible refine Below.drew ?_ | with_reducible refine bel_drewN ?_ _ | (with_reducible refine bel_by (by with_reducible assumption) (by first | exact Nat.le_refl _ | omega | (simp; done) | (simp; omega)) ?_)))
  have hzA : (w.alloc (.cells #[.int .i64 0, .int .i64 0] 23)).heap.size = w.heap.size + 1 := by simp
  generalize w.alloc (.cells #[.int .i64 0, .int .i64 0] 23) = wA at *
  have k0 : w.heap.size < wA.heap.size := by omega
  go_cut [4] (fun s4 wx => s4 = .bool neg ∧ wA = wx)
  case first =>
    rcases HS.out with ⟨h0, rfl, -⟩ | ⟨h0, hc, rfl, -⟩ | ⟨h0, hc, rfl, -⟩
    · have h0' : ¬ (0 : Int) < (s.size : Int) := by omega
      go_wp2_with fail
      go_meet
      exact ⟨rfl, rfl⟩
    · have h0' : (0 : Int) < (s.size : Int) := by omega
      have hc' : ((((s[0]'h0).toNat : Int)) == 45) = false := by simp; omega
      go_wp2_with fail
      go_meet
      exact ⟨rfl, rfl⟩
    · have h0' : (0 : Int) < (s.size : Int) := by omega
      have hc' : ((((s[0]'h0).toNat : Int)) == 45) = true := by simp; omega
      go_wp2_with fail
      go_meet
      exact ⟨rfl, rfl⟩
  obtain ⟨rfl, rfl⟩ := hcut
  go_upto_if 21 with fail
  go_cut [0] (fun s0 wx => s0 = .string r ∧ wA = wx)
  case first =>
    rcases HS.out with ⟨h0, rfl, e⟩ | ⟨h0, hc, rfl, e⟩ | ⟨h0, hc, rfl, e⟩
    · have HE := Lib.hid e
      clear e
      go_wp2_with fail
      go_meet
      exact ⟨congrArg Value.string HE.out, rfl⟩
    · have HE := Lib.hid e
      clear e hc
      go_wp2_with fail
      go_meet
      exact ⟨congrArg Value.string HE.out, rfl⟩
    · have h0' : (1 : Int) ≤ (s.size : Int) := by omega
      have HE := Lib.hid e
      clear e hc
      go_wp2_with fail
      go_meet
      exact ⟨congrArg Value.string HE.out, rfl⟩
  obtain ⟨rfl, rfl⟩ := hcut
  go_wp2
  go_loop [5] (fun s5 => ∃ k : Nat, k ≤ n ∧ s5 = .int .i64 k) (fun s5 => n - (intOf s5).toNat)
  case atStart => exact ⟨0, Nat.zero_le _, rfl⟩
  case round =>
    obtain ⟨k, hk, rfl⟩ := hrel
    by_cases hlt : k < n
    · have hkl : k < r.size := by omega
      have hno := HL.out k hlt hkl
      have n47 : ((((r[k]'hkl).toNat : Int)) != 47) = true := by simp [bne]; omega
      have n46 : ((((r[k]'hkl).toNat : Int)) != 46) = true := by simp [bne]; omega
      clear hno
      go_wp2
      go_round
      case rel => exact ⟨k + 1, by omega, by go_num⟩
      case measure => simp [intOf]; omega
    · obtain rfl : k = n := by omega
      clear hlt hk
      have x0 : (k : Int) < (r.size : Int) := by omega
      have x47 : ((((r[k]'hc0).toNat : Int)) != 47) = true := by simp [bne]; omega
      have x46 : ((((r[k]'hc0).toNat : Int)) != 46) = false := by simp [bne]; omega
      have y47 : ((((r[k]'hc0).toNat : Int)) == 47) = false := by simp; omega
      have y46 : ((((r[k]'hc0).toNat : Int)) == 46) = true := by simp; omega
      have x1 : ((k : Int) == (r.size : Int)) = false := by simp; omega
      go_wp2_with fail
      refine (HD.out _).mono ?_
      rintro e w1 ⟨rfl, rfl⟩
      go_wp2_with fail
      refine (HD2.out _).mono ?_
      rintro e w1 ⟨rfl, rfl⟩
      go_wp2
      refine bodyPost_ret (v := fracE (0, 0, 2)) (by simp [results, Tryd.results39, go_sem, r0, r1, f0, f1, k0]) rfl ⟨rfl, (by repeat (first | with_reducible exact Below.refl _ _ | (with_reducible refine Below.setCell ?_ (by first | exact Nat.le_refl _ | omega | (simp; done) | (simp; omega)) _) | (with_reducible refine Below.alloc ?_ (by first | exact Nat.le_refl _ | omega | (simp; done) | (simp; omega)) _) | with_reducible refine Below.drew ?_ | with_reducible refine bel_drewN ?_ _ | (with_reducible refine bel_by (by with_reducible assumption) (by first | exact Nat.le_refl _ | omega | (simp; done) | (simp; omega)) ?_)))⟩

set_option maxHeartbeats 2000000 in
set_option maxRecDepth 100000 in
theorem rparse_3 {s r : ByteArray} {neg : Bool} {n : Nat} {a b : Int} {t : Int × Int × Int} (HS : Hid (StripP s r neg)) (hs : r.size ≤ 100) (hn : n ≤ r.size)
    (HL : Hid (∀ (k : Nat) (_ : k < n) (hk : k < r.size), ¬ ((r[k]'hk).toNat = 47 ∨ (r[k]'hk).toNat = 46))) (hc0 : n < r.size) (hc : (r[n]'hc0).toNat = 47) (HD : Hid (DigP (r.extract 0 n) a true)) (HD2 : Hid (DigP (r.extract (n + 1) r.size) b true)) (hb : b = 0) (w : World) :
    Calls Tryd.prog 39 #[.string s] w fun e w' => e = .returned (fracE (0, 0, 1)) ∧ Below w.heap.size w w' := by
  subst hb
  go_enter Tryd.func39, Tryd.ntmps39
  go_upto_region 1 with fail
  have r0 : (w.alloc (.cells #[.int .i64 0, .int .i64 0] 23)).cell? ⟨w.heap.size, 0, none⟩ = some (.int .i64 0) := by simp [go_sem]
  have r1 : (w.alloc (.cells #[.int .i64 0, .int .i64 0] 23)).cell? ⟨w.heap.size, 1, none⟩ = some (.int .i64 0) := by simp [go_sem]
  have f0 : (w.alloc (.cells #[.int .i64 0, .int .i64 0] 23)).frozen? ⟨w.heap.size, 0, none⟩ = false := by simp [go_sem]
  have f1 : (w.alloc (.cells #[.int .i64 0, .int .i64 0] 23)).frozen? ⟨w.heap.size, 1, none⟩ = false := by simp [go_sem]
  have hbA : Below w.heap.size w (w.alloc (.cells #[.int .i64 0, .int .i64 0] 23)) := (by repeat (first | with_reducible exact Below.refl _ _ | (with_reducible refine Below.setCell ?_ (by first | exact Nat.le_refl _ | omega | (simp; done) | (simp; omega)) _) | (with_reducible refine Below.alloc ?_ (by first | exact Nat.le_refl _ | omega | (simp; done) | (simp; omega)) _) | with_reducible refine Below.drew ?_ | with_reducible refine bel_drewN ?_ _ | (with_reducible refine bel_by (by with_reducible assumption) (by first | exact Nat.le_refl _ | omega | (simp; done) | (simp; omega)) ?_)))
  have hzA : (w.alloc (.cells #[.int .i64 0, .int .i64 0] 23)).heap.size = w.heap.size + 1 := by simp
  generalize w.alloc (.cells #[.int .i64 0, .int .i64 0] 23) = wA at *
  have k0 : w.heap.size < wA.heap.size := by omega
  go_cut [4] (fun s4 wx => s4 = .bool neg ∧ wA = wx)
  case first =>
    rcases HS.out with ⟨h0, rfl, -⟩ | ⟨h0, hc, rfl, -⟩ | ⟨h0, hc, rfl, -⟩
    · have h0' : ¬ (0 : Int) < (s.size : Int) := by omega
      go_wp2_with fail
      go_meet
      exact ⟨rfl, rfl⟩
    · have h0' : (0 : Int) < (s.size : Int) := by omega
      have hc' : ((((s[0]'h0).toNat : Int)) == 45) = false := by simp; omega
      go_wp2_with fail
      go_meet
      exact ⟨rfl, rfl⟩
    · have h0' : (0 : Int) < (s.size : Int) := by omega
      have hc' : ((((s[0]'h0).toNat : Int)) == 45) = true := by simp; omega
      go_wp2_with fail
      go_meet
      exact ⟨rfl, rfl⟩
  obtain ⟨rfl, rfl⟩ := hcut
  go_upto_if 21 with fail
  go_cut [0] (fun s0 wx => s0 = .string r ∧ wA = wx)
  case first =>
    rcases HS.out with ⟨h0, rfl, e⟩ | ⟨h0, hc, rfl, e⟩ | ⟨h0, hc, rfl, e⟩
    · have HE := Lib.hid e
      clear e
      go_wp2_with fail
      go_meet
      exact ⟨congrArg Value.string HE.out, rfl⟩
    · have HE := Lib.hid e
      clear e hc
      go_wp2_with fail
      go_meet
      exact ⟨congrArg Value.string HE.out, rfl⟩
    · have h0' : (1 : Int) ≤ (s.size : Int) := by omega
      have HE := Lib.hid e
      clear e hc
      go_wp2_with fail
      go_meet
      exact ⟨congrArg Value.string HE.out, rfl⟩
  obtain ⟨rfl, rfl⟩ := hcut
  go_wp2
  go_loop [5] (fun s5 => ∃ k : Nat, k ≤ n ∧ s5 = .int .i64 k) (fun s5 => n - (intOf s5).toNat)
  case atStart => exact ⟨0, Nat.zero_le _, rfl⟩
  case round =>
    obtain ⟨k, hk, rfl⟩ := hrel
    by_cases hlt : k < n
    · have hkl : k < r.size := by omega
      have hno := HL.out k hlt hkl
      have n47 : ((((r[k]'hkl).toNat : Int)) != 47) = true := by simp [bne]; omega
      have n46 : ((((r[k]'hkl).toNat : Int)) != 46) = true := by simp [bne]; omega
      clear hno
      go_wp2
      go_round
      case rel => exact ⟨k + 1, by omega, by go_num⟩
      case measure => simp [intOf]; omega
    · obtain rfl : k = n := by omega
      clear hlt hk
      have x0 : (k : Int) < (r.size : Int) := by omega
      have x47 : ((((r[k]'hc0).toNat : Int)) != 47) = false := by simp [bne]; omega
      have y47 : ((((r[k]'hc0).toNat : Int)) == 47) = true := by simp; omega
      have y46 : ((((r[k]'hc0).toNat : Int)) == 46) = false := by simp; omega
      have x1 : ((k : Int) == (r.size : Int)) = false := by simp; omega
      go_wp2_with fail
      refine (HD.out _).mono ?_
      rintro e w1 ⟨rfl, rfl⟩
      go_wp2_with fail
      refine (HD2.out _).mono ?_
      rintro e w1 ⟨rfl, rfl⟩
      go_wp2
      refine bodyPost_ret (v := fracE (0, 0, 1)) (by simp [results, Tryd.results39, go_sem, r0, r1, f0, f1, k0]) rfl ⟨rfl, (by repeat (first | with_reducible exact Below.refl _ _ | (with_reducible refine Below.setCell ?_ (by first | exact Nat.le_refl _ | omega | (simp; done) | (simp; omega)) _) | (with_reducible refine Below.alloc ?_ (by first | exact Nat.le_refl _ | omega | (simp; done) | (simp; omega)) _) | with_reducible refine Below.drew ?_ | with_reducible refine bel_drewN ?_ _ | (with_reducible refine bel_by (by with_reducible assumption) (by first | exact Nat.le_refl _ | omega | (simp; done) | (simp; omega)) ?_)))⟩

set_option maxHeartbeats 2000000 in
set_option maxRecDepth 100000 in
theorem rparse_4 {s r : ByteArray} {neg : Bool} {n : Nat} {a b : Int} {t : Int × Int × Int} (HS : Hid (StripP s r neg)) (hs : r.size ≤ 100) (hn : n ≤ r.size)
    (HL : Hid (∀ (k : Nat) (_ : k < n) (hk : k < r.size), ¬ ((r[k]'hk).toNat = 47 ∨ (r[k]'hk).toNat = 46))) (hc0 : n < r.size) (hc : (r[n]'hc0).toNat = 47) (HD : Hid (DigP (r.extract 0 n) a true)) (HD2 : Hid (DigP (r.extract (n + 1) r.size) b true)) (hb : (b == 0) = false) (HB : Hid (∀ (bb : Bool), bb = (neg && decide (0 < a)) → ∀ W, Calls Tryd.prog 44 #[.bool bb, .agg #[.int .u64 0, .int .u64 (a)], .agg #[.int .u64 0, .int .u64 (b)]] W fun e w' => e = .returned (fracE t) ∧ Below W.heap.size W w')) (w : World) :
    Calls Tryd.prog 39 #[.string s] w fun e w' => e = .returned (fracE t) ∧ Below w.heap.size w w' := by
  go_enter Tryd.func39, Tryd.ntmps39
  go_upto_region 1 with fail
  have r0 : (w.alloc (.cells #[.int .i64 0, .int .i64 0] 23)).cell? ⟨w.heap.size, 0, none⟩ = some (.int .i64 0) := by simp [go_sem]
  have r1 : (w.alloc (.cells #[.int .i64 0, .int .i64 0] 23)).cell? ⟨w.heap.size, 1, none⟩ = some (.int .i64 0) := by simp [go_sem]
  have f0 : (w.alloc (.cells #[.int .i64 0, .int .i64 0] 23)).frozen? ⟨w.heap.size, 0, none⟩ = false := by simp [go_sem]
  have f1 : (w.alloc (.cells #[.int .i64 0, .int .i64 0] 23)).frozen? ⟨w.heap.size, 1, none⟩ = false := by simp [go_sem]
  have hbA : Below w.heap.size w (w.alloc (.cells #[.int .i64 0, .int .i64 0] 23)) := (by repeat (first | with_reducible exact Below.refl _ _ | (with_reducible refine Below.setCell ?_ (by first | exact Nat.le_refl _ | omega | (simp; done) | (simp; omega)) _) | (with_reducible refine Below.alloc ?_ (by first | exact Nat.le_refl _ | omega | (simp; done) | (simp; omega)) _) | with_reducible refine Below.drew ?_ | with_reducible refine bel_drewN ?_ _ | (with_reducible refine bel_by (by with_reducible assumption) (by first | exact Nat.le_refl _ | omega | (simp; done) | (simp; omega)) ?_)))
  have hzA : (w.alloc (.cells #[.int .i64 0, .int .i64 0] 23)).heap.size = w.heap.size + 1 := by simp
  generalize w.alloc (.cells #[.int .i64 0, .int .i64 0] 23) = wA at *
  have k0 : w.heap.size < wA.heap.size := by omega
  go_cut [4] (fun s4 wx => s4 = .bool neg ∧ wA = wx)
  case first =>
    rcases HS.out with ⟨h0, rfl, -⟩ | ⟨h0, hc, rfl, -⟩ | ⟨h0, hc, rfl, -⟩
    · have h0' : ¬ (0 : Int) < (s.size : Int) := by omega
      go_wp2_with fail
      go_meet
      exact ⟨rfl, rfl⟩
    · have h0' : (0 : Int) < (s.size : Int) := by omega
      have hc' : ((((s[0]'h0).toNat : Int)) == 45) = false := by simp; omega
      go_wp2_with fail
      go_meet
      exact ⟨rfl, rfl⟩
    · have h0' : (0 : Int) < (s.size : Int) := by omega
      have hc' : ((((s[0]'h0).toNat : Int)) == 45) = true := by simp; omega
      go_wp2_with fail
      go_meet
      exact ⟨rfl, rfl⟩
  obtain ⟨rfl, rfl⟩ := hcut
  go_upto_if 21 with fail
  go_cut [0] (fun s0 wx => s0 = .string r ∧ wA = wx)
  case first =>
    rcases HS.out with ⟨h0, rfl, e⟩ | ⟨h0, hc, rfl, e⟩ | ⟨h0, hc, rfl, e⟩
    · have HE := Lib.hid e
      clear e
      go_wp2_with fail
      go_meet
      exact ⟨congrArg Value.string HE.out, rfl⟩
    · have HE := Lib.hid e
      clear e hc
      go_wp2_with fail
      go_meet
      exact ⟨congrArg Value.string HE.out, rfl⟩
    · have h0' : (1 : Int) ≤ (s.size : Int) := by omega
      have HE := Lib.hid e
      clear e hc
      go_wp2_with fail
      go_meet
      exact ⟨congrArg Value.string HE.out, rfl⟩
  obtain ⟨rfl, rfl⟩ := hcut
  go_wp2
  go_loop [5] (fun s5 => ∃ k : Nat, k ≤ n ∧ s5 = .int .i64 k) (fun s5 => n - (intOf s5).toNat)
  case atStart => exact ⟨0, Nat.zero_le _, rfl⟩
  case round =>
    obtain ⟨k, hk, rfl⟩ := hrel
    by_cases hlt : k < n
    · have hkl : k < r.size := by omega
      have hno := HL.out k hlt hkl
      have n47 : ((((r[k]'hkl).toNat : Int)) != 47) = true := by simp [bne]; omega
      have n46 : ((((r[k]'hkl).toNat : Int)) != 46) = true := by simp [bne]; omega
      clear hno
      go_wp2
      go_round
      case rel => exact ⟨k + 1, by omega, by go_num⟩
      case measure => simp [intOf]; omega
    · obtain rfl : k = n := by omega
      clear hlt hk
      have x0 : (k : Int) < (r.size : Int) := by omega
      have x47 : ((((r[k]'hc0).toNat : Int)) != 47) = false := by simp [bne]; omega
      have y47 : ((((r[k]'hc0).toNat : Int)) == 47) = true := by simp; omega
      have y46 : ((((r[k]'hc0).toNat : Int)) == 46) = false := by simp; omega
      have x1 : ((k : Int) == (r.size : Int)) = false := by simp; omega
      go_wp2_with fail
      refine (HD.out _).mono ?_
      rintro e w1 ⟨rfl, rfl⟩
      go_wp2_with fail
      refine (HD2.out _).mono ?_
      rintro e w1 ⟨rfl, rfl⟩
      cases neg
      all_goals
        go_wp2_with fail
        refine (HB.out _ (by simp) _).mono ?_
        rintro e w2 ⟨rfl, hb2⟩
        obtain ⟨hc2, hf2⟩ := bcell hb2
        have hz2 := bsize hb2
        (try simp at hz2)
        have m0 : w.heap.size < w2.heap.size := by omega
        go_wp2
        refine bodyPost_ret (v := fracE t) (by simp [results, Tryd.results39, go_sem, hc2, hf2, r0, r1, f0, f1, k0, m0]) rfl ⟨rfl, (by repeat (first | with_reducible exact Below.refl _ _ | (with_reducible refine Below.setCell ?_ (by first | exact Nat.le_refl _ | omega | (simp; done) | (simp; omega)) _) | (with_reducible refine Below.alloc ?_ (by first | exact Nat.le_refl _ | omega | (simp; done) | (simp; omega)) _) | with_reducible refine Below.drew ?_ | with_reducible refine bel_drewN ?_ _ | (with_reducible refine bel_by (by with_reducible assumption) (by first | exact Nat.le_refl _ | omega | (simp; done) | (simp; omega)) ?_)))⟩

set_option maxHeartbeats 2000000 in
set_option maxRecDepth 100000 in
theorem rparse_5 {s r : ByteArray} {neg : Bool} {n : Nat} {a b : Int} {t : Int × Int × Int} (HS : Hid (StripP s r neg)) (hs : r.size ≤ 100) (hn : n ≤ r.size)
    (HL : Hid (∀ (k : Nat) (_ : k < n) (hk : k < r.size), ¬ ((r[k]'hk).toNat = 47 ∨ (r[k]'hk).toNat = 46))) (hc0 : n < r.size) (hc : (r[n]'hc0).toNat = 46) (HD : Hid (DigP (r.extract 0 n) a true)) (HD2 : Hid (DigP (r.extract (n + 1) r.size) b true)) (h18 : 19 < r.size) (w : World) :
    Calls Tryd.prog 39 #[.string s] w fun e w' => e = .returned (fracE (0, 0, 2)) ∧ Below w.heap.size w w' := by
  go_enter Tryd.func39, Tryd.ntmps39
  go_upto_region 1 with fail
  have r0 : (w.alloc (.cells #[.int .i64 0, .int .i64 0] 23)).cell? ⟨w.heap.size, 0, none⟩ = some (.int .i64 0) := by simp [go_sem]
  have r1 : (w.alloc (.cells #[.int .i64 0, .int .i64 0] 23)).cell? ⟨w.heap.size, 1, none⟩ = some (.int .i64 0) := by simp [go_sem]
  have f0 : (w.alloc (.cells #[.int .i64 0, .int .i64 0] 23)).frozen? ⟨w.heap.size, 0, none⟩ = false := by simp [go_sem]
  have f1 : (w.alloc (.cells #[.int .i64 0, .int .i64 0] 23)).frozen? ⟨w.heap.size, 1, none⟩ = false := by simp [go_sem]
  have hbA : Below w.heap.size w (w.alloc (.cells #[.int .i64 0, .int .i64 0] 23)) := (by repeat (first | with_reducible exact Below.refl _ _ | (with_reducible refine Below.setCell ?_ (by first | exact Nat.le_refl _ | omega | (simp; done) | (simp; omega)) _) | (with_reducible refine Below.alloc ?_ (by first | exact Nat.le_refl _ | omega | (simp; done) | (simp; omega)) _) | with_reducible refine Below.drew ?_ | with_reducible refine bel_drewN ?_ _ | (with_reducible refine bel_by (by with_reducible assumption) (by first | exact Nat.le_refl _ | omega | (simp; done) | (simp; omega)) ?_)))
  have hzA : (w.alloc (.cells #[.int .i64 0, .int .i64 0] 23)).heap.size = w.heap.size + 1 := by simp
  generalize w.alloc (.cells #[.int .i64 0, .int .i64 0] 23) = wA at *
  have k0 : w.heap.size < wA.heap.size := by omega
  go_cut [4] (fun s4 wx => s4 = .bool neg ∧ wA = wx)
  case first =>
    rcases HS.out with ⟨h0, rfl, -⟩ | ⟨h0, hc, rfl, -⟩ | ⟨h0, hc, rfl, -⟩
    · have h0' : ¬ (0 : Int) < (s.size : Int) := by omega
      go_wp2_with fail
      go_meet
      exact ⟨rfl, rfl⟩
    · have h0' : (0 : Int) < (s.size : Int) := by omega
      have hc' : ((((s[0]'h0).toNat : Int)) == 45) = false := by simp; omega
      go_wp2_with fail
      go_meet
      exact ⟨rfl, rfl⟩
    · have h0' : (0 : Int) < (s.size : Int) := by omega
      have hc' : ((((s[0]'h0).toNat : Int)) == 45) = true := by simp; omega
      go_wp2_with fail
      go_meet
      exact ⟨rfl, rfl⟩
  obtain ⟨rfl, rfl⟩ := hcut
  go_upto_if 21 with fail
  go_cut [0] (fun s0 wx => s0 = .string r ∧ wA = wx)
  case first =>
    rcases HS.out with ⟨h0, rfl, e⟩ | ⟨h0, hc, rfl, e⟩ | ⟨h0, hc, rfl, e⟩
    · have HE := Lib.hid e
      clear e
      go_wp2_with fail
      go_meet
      exact ⟨congrArg Value.string HE.out, rfl⟩
    · have HE := Lib.hid e
      clear e hc
      go_wp2_with fail
      go_meet
      exact ⟨congrArg Value.string HE.out, rfl⟩
    · have h0' : (1 : Int) ≤ (s.size : Int) := by omega
      have HE := Lib.hid e
      clear e hc
      go_wp2_with fail
      go_meet
      exact ⟨congrArg Value.string HE.out, rfl⟩
  obtain ⟨rfl, rfl⟩ := hcut
  go_wp2
  go_loop [5] (fun s5 => ∃ k : Nat, k ≤ n ∧ s5 = .int .i64 k) (fun s5 => n - (intOf s5).toNat)
  case atStart => exact ⟨0, Nat.zero_le _, rfl⟩
  case round =>
    obtain ⟨k, hk, rfl⟩ := hrel
    by_cases hlt : k < n
    · have hkl : k < r.size := by omega
      have hno := HL.out k hlt hkl
      have n47 : ((((r[k]'hkl).toNat : Int)) != 47) = true := by simp [bne]; omega
      have n46 : ((((r[k]'hkl).toNat : Int)) != 46) = true := by simp [bne]; omega
      clear hno
      go_wp2
      go_round
      case rel => exact ⟨k + 1, by omega, by go_num⟩
      case measure => simp [intOf]; omega
    · obtain rfl : k = n := by omega
      clear hlt hk
      have x0 : (k : Int) < (r.size : Int) := by omega
      have x47 : ((((r[k]'hc0).toNat : Int)) != 47) = true := by simp [bne]; omega
      have x46 : ((((r[k]'hc0).toNat : Int)) != 46) = false := by simp [bne]; omega
      have y47 : ((((r[k]'hc0).toNat : Int)) == 47) = false := by simp; omega
      have y46 : ((((r[k]'hc0).toNat : Int)) == 46) = true := by simp; omega
      have x1 : ((k : Int) == (r.size : Int)) = false := by simp; omega
      have x18 : (18 : Int) < (r.size : Int) - 1 := by omega
      go_wp2_with fail
      refine (HD.out _).mono ?_
      rintro e w1 ⟨rfl, rfl⟩
      go_wp2_with fail
      refine (HD2.out _).mono ?_
      rintro e w1 ⟨rfl, rfl⟩
      go_wp2
      refine bodyPost_ret (v := fracE (0, 0, 2)) (by simp [results, Tryd.results39, go_sem, r0, r1, f0, f1, k0]) rfl ⟨rfl, (by repeat (first | with_reducible exact Below.refl _ _ | (with_reducible refine Below.setCell ?_ (by first | exact Nat.le_refl _ | omega | (simp; done) | (simp; omega)) _) | (with_reducible refine Below.alloc ?_ (by first | exact Nat.le_refl _ | omega | (simp; done) | (simp; omega)) _) | with_reducible refine Below.drew ?_ | with_reducible refine bel_drewN ?_ _ | (with_reducible refine bel_by (by with_reducible assumption) (by first | exact Nat.le_refl _ | omega | (simp; done) | (simp; omega)) ?_)))⟩

set_option maxHeartbeats 2000000 in
set_option maxRecDepth 100000 in
theorem rparse_6 {s r : ByteArray} {neg : Bool} {n : Nat} {a b : Int} {t : Int × Int × Int} (HS : Hid (StripP s r neg)) (hs : r.size ≤ 100) (hn : n ≤ r.size)
    (HL : Hid (∀ (k : Nat) (_ : k < n) (hk : k < r.size), ¬ ((r[k]'hk).toNat = 47 ∨ (r[k]'hk).toNat = 46))) (hc0 : n < r.size) (hc : (r[n]'hc0).toNat = 46) (HD : Hid (DigP (r.extract 0 n) a true)) (HD2 : Hid (DigP (r.extract (n + 1) r.size) b true)) (h18 : ¬ 19 < r.size) {D : Int} (hD : D = pw10 ((r.size - (n + 1) : Nat) : Int)) (a0 : 0 ≤ a) (a1 : a * D ≤ 1000000000000000000) (b0 : 0 ≤ b) (b1 : b ≤ 1000000000000000000) (HB : Hid (∀ (bb : Bool), bb = (neg && decide (0 < a * D + b)) → ∀ W, Calls Tryd.prog 44 #[.bool bb, .agg #[.int .u64 0, .int .u64 (a * D + b)], .agg #[.int .u64 0, .int .u64 (D)]] W fun e w' => e = .returned (fracE t) ∧ Below W.heap.size W w')) (w : World) :
    Calls Tryd.prog 39 #[.string s] w fun e w' => e = .returned (fracE t) ∧ Below w.heap.size w w' := by
  have HDD := Lib.hid hD
  have D0 : 1 ≤ D := by rw [hD]; exact (pw10_bd _ (by omega)).1
  have M0 : 0 ≤ a * D := Int.mul_nonneg a0 (by omega)
  have HA1 := Lib.hid a1
  clear hD a1
  go_enter Tryd.func39, Tryd.ntmps39
  go_upto_region 1 with fail
  have r0 : (w.alloc (.cells #[.int .i64 0, .int .i64 0] 23)).cell? ⟨w.heap.size, 0, none⟩ = some (.int .i64 0) := by simp [go_sem]
  have r1 : (w.alloc (.cells #[.int .i64 0, .int .i64 0] 23)).cell? ⟨w.heap.size, 1, none⟩ = some (.int .i64 0) := by simp [go_sem]
  have f0 : (w.alloc (.cells #[.int .i64 0, .int .i64 0] 23)).frozen? ⟨w.heap.size, 0, none⟩ = false := by simp [go_sem]
  have f1 : (w.alloc (.cells #[.int .i64 0, .int .i64 0] 23)).frozen? ⟨w.heap.size, 1, none⟩ = false := by simp [go_sem]
  have hbA : Below w.heap.size w (w.alloc (.cells #[.int .i64 0, .int .i64 0] 23)) := (by repeat (first | with_reducible exact Below.refl _ _ | (with_reducible refine Below.setCell ?_ (by first | exact Nat.le_refl _ | omega | (simp; done) | (simp; omega)) _) | (with_reducible refine Below.alloc ?_ (by first | exact Nat.le_refl _ | omega | (simp; done) | (simp; omega)) _) | with_reducible refine Below.drew ?_ | with_reducible refine bel_drewN ?_ _ | (with_reducible refine bel_by (by with_reducible assumption) (by first | exact Nat.le_refl _ | omega | (simp; done) | (simp; omega)) ?_)))
  have hzA : (w.alloc (.cells #[.int .i64 0, .int .i64 0] 23)).heap.size = w.heap.size + 1 := by simp
  generalize w.alloc (.cells #[.int .i64 0, .int .i64 0] 23) = wA at *
  have k0 : w.heap.size < wA.heap.size := by omega
  go_cut [4] (fun s4 wx => s4 = .bool neg ∧ wA = wx)
  case first =>
    rcases HS.out with ⟨h0, rfl, -⟩ | ⟨h0, hc, rfl, -⟩ | ⟨h0, hc, rfl, -⟩
    · have h0' : ¬ (0 : Int) < (s.size : Int) := by omega
      go_wp2_with fail
      go_meet
      exact ⟨rfl, rfl⟩
    · have h0' : (0 : Int) < (s.size : Int) := by omega
      have hc' : ((((s[0]'h0).toNat : Int)) == 45) = false := by simp; omega
      go_wp2_with fail
      go_meet
      exact ⟨rfl, rfl⟩
    · have h0' : (0 : Int) < (s.size : Int) := by omega
      have hc' : ((((s[0]'h0).toNat : Int)) == 45) = true := by simp; omega
      go_wp2_with fail
      go_meet
      exact ⟨rfl, rfl⟩
  obtain ⟨rfl, rfl⟩ := hcut
  go_upto_if 21 with fail
  go_cut [0] (fun s0 wx => s0 = .string r ∧ wA = wx)
  case first =>
    rcases HS.out with ⟨h0, rfl, e⟩ | ⟨h0, hc, rfl, e⟩ | ⟨h0, hc, rfl, e⟩
    · have HE := Lib.hid e
      clear e
      go_wp2_with fail
      go_meet
      exact ⟨congrArg Value.string HE.out, rfl⟩
    · have HE := Lib.hid e
      clear e hc
      go_wp2_with fail
      go_meet
      exact ⟨congrArg Value.string HE.out, rfl⟩
    · have h0' : (1 : Int) ≤ (s.size : Int) := by omega
      have HE := Lib.hid e
      clear e hc
      go_wp2_with fail
      go_meet
      exact ⟨congrArg Value.string HE.out, rfl⟩
  obtain ⟨rfl, rfl⟩ := hcut
  go_wp2
  go_loop [5] (fun s5 => ∃ k : Nat, k ≤ n ∧ s5 = .int .i64 k) (fun s5 => n - (intOf s5).toNat)
  case atStart => exact ⟨0, Nat.zero_le _, rfl⟩
  case round =>
    obtain ⟨k, hk, rfl⟩ := hrel
    by_cases hlt : k < n
    · have hkl : k < r.size := by omega
      have hno := HL.out k hlt hkl
      have n47 : ((((r[k]'hkl).toNat : Int)) != 47) = true := by simp [bne]; omega
      have n46 : ((((r[k]'hkl).toNat : Int)) != 46) = true := by simp [bne]; omega
      clear hno
      go_wp2
      go_round
      case rel => exact ⟨k + 1, by omega, by go_num⟩
      case measure => simp [intOf]; omega
    · obtain rfl : k = n := by omega
      clear hlt hk
      have x0 : (k : Int) < (r.size : Int) := by omega
      have x47 : ((((r[k]'hc0).toNat : Int)) != 47) = true := by simp [bne]; omega
      have x46 : ((((r[k]'hc0).toNat : Int)) != 46) = false := by simp [bne]; omega
      have y47 : ((((r[k]'hc0).toNat : Int)) == 47) = false := by simp; omega
      have y46 : ((((r[k]'hc0).toNat : Int)) == 46) = true := by simp; omega
      have x1 : ((k : Int) == (r.size : Int)) = false := by simp; omega
      have x18 : ¬ (18 : Int) < (r.size : Int) - 1 := by omega
      go_wp2_with fail
      refine (HD.out _).mono ?_
      rintro e w1 ⟨rfl, rfl⟩
      go_wp2_with fail
      refine (HD2.out _).mono ?_
      rintro e w1 ⟨rfl, rfl⟩
      go_wp2
      go_loop [10, 11] (fun s10 s11 => ∃ j : Nat, k + 1 + j ≤ r.size ∧ s10 = .int .u64 (pw10 (j : Int)) ∧ s11 = .int .i64 ((k : Int) + 1 + j)) (fun _ s11 => (r.size - intOf s11).toNat)
      case atStart => exact ⟨0, by omega, rfl, by simp⟩
      case round =>
        obtain ⟨j, hj, rfl, rfl⟩ := hrel
        obtain ⟨q0, q1⟩ := pw10_bd (j : Int) (by omega)
        by_cases hlt : k + 1 + j < r.size
        · have z0 : (k : Int) + 1 + j < (r.size : Int) := by omega
          have z1 : pw10 (j : Int) * 10 ≤ 18446744073709551615 := by omega
          have HP := Lib.hid (pw10_succ (j : Int) (by omega))
          go_wp2
          go_round
          case rel => exact ⟨j + 1, by omega, by rw [show ((j + 1 : Nat) : Int) = (j : Int) + 1 from by omega, HP.out], by go_num⟩
          case measure => simp [intOf]; omega
        · have z0 : ¬ (k : Int) + 1 + j < (r.size : Int) := by omega
          have eD : pw10 (j : Int) = D := by rw [HDD.out]; congr 1; omega
          rw [eD]
          have a1 := HA1.out
          have w1 : IntKind.u64.wrap (a * D) = a * D := IntWalk.u64_in _ (by omega)
          have w2 : IntKind.u64.wrap (a * D + b) = a * D + b := IntWalk.u64_in _ (by omega)
          have w3 : a * D ≤ 18446744073709551615 := by omega
          have w4 : a * D + b ≤ 18446744073709551615 := by omega
          have w5 : 0 ≤ a * D + b := by omega
          clear eD q0 q1 hlt hj
          cases neg
          all_goals
            go_wp2_with fail
            refine (HB.out _ (by simp) _).mono ?_
            rintro e w2 ⟨rfl, hb2⟩
            obtain ⟨hc2, hf2⟩ := bcell hb2
            have hz2 := bsize hb2
            (try simp at hz2)
            have m0 : w.heap.size < w2.heap.size := by omega
            go_wp2
            refine bodyPost_ret (v := fracE t) (by simp [results, Tryd.results39, go_sem, hc2, hf2, r0, r1, f0, f1, k0, m0]) rfl ⟨rfl, (by repeat (first | with_reducible exact Below.refl _ _ | (with_reducible refine Below.setCell ?_ (by first | exact Nat.le_refl _ | omega | (simp; done) | (simp; omega)) _) | (with_reducible refine Below.alloc ?_ (by first | exact Nat.le_refl _ | omega | (simp; done) | (simp; omega)) _) | with_reducible refine Below.drew ?_ | with_reducible refine bel_drewN ?_ _ | (with_reducible refine bel_by (by with_reducible assumption) (by first | exact Nat.le_refl _ | omega | (simp; done) | (simp; omega)) ?_)))⟩

end Go.Proofs.YtfdalnkdeeminaaDoor
