/- Contracts of package encode: the digits of a number. -/
import Derived.Test.YtljeialaefmbmaaDoorRows
import Derived.WalkKit
import Derived.WalkSpells
import Derived.LoopTactic
import Derived.RegionTactic
import Derived.BigQuiet
import Derived.BigGuard
import Derived.Below
import Derived.Lib.Hide
import Derived.Outline
import Derived.Deep.QuietTactic
import Derived.Deep.CutBlock
import Derived.Deep.DeepCutAuto
import Derived.Deep.RegionHeld3
import Derived.IntWalk
import Derived.Laws.Pointers
set_option linter.unusedSimpArgs false
set_option linter.unusedVariables false
namespace Go.Proofs.YtljeialaefmbmaaDoor
open Go.RowKit

theorem bel_drewN {B : Nat} {a w : World} (h : Below B a w) (n : Nat) : Below B a (w.drewN n) := ⟨h.os, h.tape, h.output, h.size, h.block⟩
theorem bel_by {B : Nat} {a w w1 : World} (hb : Below w.heap.size w w1) (hB : B ≤ w.heap.size) (h : Below B a w) : Below B a w1 := h.trans (hb.mono hB)
theorem bcell {W w1 : World} (hb : Below W.heap.size W w1) : (∀ b o, b < W.heap.size → w1.cell? ⟨b, o, none⟩ = W.cell? ⟨b, o, none⟩) ∧ (∀ b o, b < W.heap.size → w1.frozen? ⟨b, o, none⟩ = W.frozen? ⟨b, o, none⟩) :=
  ⟨fun b o h => hb.cell (p := ⟨b, o, none⟩) h, fun b o h => hb.frozen (p := ⟨b, o, none⟩) h⟩
theorem bsize {W w1 : World} (hb : Below W.heap.size W w1) : W.heap.size ≤ w1.heap.size := hb.size

def isDig (c : UInt8) : Bool := decide (48 ≤ c.toNat ∧ c.toNat ≤ 57)
theorem isDig_out {c : UInt8} (h : isDig c = true) : 48 ≤ (c.toNat : Int) ∧ (c.toNat : Int) ≤ 57 := by
  unfold isDig at h; simp at h; omega
/-- how many digits stand at an offset, at most so many -/
def digN : Nat → ByteArray → Nat → Nat
  | 0, _, _ => 0
  | m + 1, s, at' => if h : at' < s.size then (if isDig (s[at']'h) = true then digN m s (at' + 1) + 1 else 0) else 0
theorem digN_le (m : Nat) (s : ByteArray) (a : Nat) : digN m s a ≤ m ∧ (a ≤ s.size → a + digN m s a ≤ s.size) := by
  induction m generalizing a with
  | zero => simp [digN]
  | succ m ih =>
    unfold digN
    split
    · split
      · have := ih (a + 1); omega
      · omega
    · omega
theorem digN_dig (m : Nat) (s : ByteArray) (a k : Nat) (h : k < digN m s a) (hk : a + k < s.size) : isDig (s[a + k]'hk) = true := by
  induction m generalizing a k with
  | zero => simp [digN] at h
  | succ m ih =>
    unfold digN at h
    split at h
    · split at h
      · rename_i h1 h2
        cases k with
        | zero => exact h2
        | succ k =>
          have := ih (a + 1) k (by omega) (by omega)
          have e : a + 1 + k = a + (k + 1) := by omega
          simp only [e] at this
          exact this
      · omega
    · omega
theorem digN_end (m : Nat) (s : ByteArray) (a : Nat) (h : digN m s a < m) (hk : a + digN m s a < s.size) : isDig (s[a + digN m s a]'hk) = false := by
  induction m generalizing a with
  | zero => omega
  | succ m ih =>
    by_cases h1 : a < s.size
    · by_cases h2 : isDig (s[a]'h1) = true
      · have e : digN (m + 1) s a = digN m s (a + 1) + 1 := by rw [digN, dif_pos h1, if_pos h2]
        have e2 : a + digN (m + 1) s a = a + 1 + digN m s (a + 1) := by omega
        simp only [e2] at hk ⊢
        exact ih (a + 1) (by omega) hk
      · have e : digN (m + 1) s a = 0 := by rw [digN, dif_pos h1, if_neg h2]
        simp only [e, Nat.add_zero]
        simpa using h2
    · have e : digN (m + 1) s a = 0 := by rw [digN, dif_neg h1]
      omega
/-- the number of so many digits at an offset -/
def numN (s : ByteArray) (a : Nat) : Nat → Int
  | 0 => 0
  | k + 1 => if h : a + k < s.size then numN s a k * 10 + (((s[a + k]'h).toNat : Int) - 48) else numN s a k
theorem numN_bd (s : ByteArray) (a k : Nat) (hk : a + k ≤ s.size) (h : ∀ (j : Nat) (_ : j < k) (hj : a + j < s.size), isDig (s[a + j]'hj) = true) : 0 ≤ numN s a k ∧ numN s a k < 10 ^ k := by
  induction k with
  | zero => simp [numN]
  | succ k ih =>
    have h1 := ih (by omega) (fun j h' hj => h j (by omega) hj)
    have h2 := isDig_out (h k (by omega) (by omega))
    unfold numN
    rw [dif_pos (by omega), Int.pow_succ]
    omega
theorem pow19 (k : Nat) (h : k ≤ 19) : (10 : Int) ^ k ≤ 10000000000000000000 := by
  revert h; revert k; decide

/-- the byte at an offset -/
def at8 (s : ByteArray) (k : Nat) : Nat := if h : k < s.size then (s[k]'h).toNat else 0
theorem at8_eq {s : ByteArray} {k : Nat} (h : k < s.size) : at8 s k = (s[k]'h).toNat := dif_pos h
theorem dig_in {s : ByteArray} {a k : Nat} (h : k < digN 19 s a) (hk : a + k < s.size) : 48 ≤ ((s[a + k]'hk).toNat : Int) ∧ ((s[a + k]'hk).toNat : Int) ≤ 57 := isDig_out (digN_dig 19 s a k h hk)
theorem dig_out {s : ByteArray} {a : Nat} (h : digN 19 s a < 19) (hk : a + digN 19 s a < s.size) : ¬ (48 ≤ at8 s (a + digN 19 s a) ∧ at8 s (a + digN 19 s a) ≤ 57) := by
  have := digN_end 19 s a h hk
  rw [at8_eq hk]
  unfold isDig at this
  simpa using this
/-- readNumber: the number and the offset behind the mark, or 0 and 0 -/
def rnumS (s : ByteArray) (a : Nat) (mark : UInt8) : Int × Nat :=
  if digN 19 s a ≠ 0 ∧ a + digN 19 s a < s.size ∧ at8 s (a + digN 19 s a) = mark.toNat ∧ ¬ (at8 s a = 48 ∧ 1 < digN 19 s a) then (numN s a (digN 19 s a), a + digN 19 s a + 1) else (0, 0)
theorem numN_step (s : ByteArray) (a k : Nat) (h : a + k < s.size) : numN s a (k + 1) = numN s a k * 10 + (((s[a + k]'h).toNat : Int) - 48) := by
  rw [numN, dif_pos h]

set_option maxHeartbeats 2000000 in
set_option maxRecDepth 100000 in
theorem rnum_any (s : ByteArray) (a : Nat) (mark : UInt8) (ha : a ≤ s.size) (hs : s.size ≤ 4611686018427387904) (w : World) :
    Calls Tryd.prog 47 #[.string s, .int .i64 (a : Int), .int .u8 mark.toNat] w fun e w' => e = .returned (.tuple #[.int .u64 (rnumS s a mark).1, .int .i64 ((rnumS s a mark).2 : Int)]) ∧ w = w' := by
  obtain ⟨r1, r2⟩ := digN_le 19 s a
  have r2 := r2 ha
  have HD := Lib.hid (fun (k : Nat) (h : k < digN 19 s a) (hk : a + k < s.size) => dig_in h hk)
  have HE := Lib.hid (fun h hk => dig_out (s := s) (a := a) h hk)
  have HB := Lib.hid (fun (k : Nat) (hk : k ≤ digN 19 s a) => numN_bd s a k (by omega) (fun j h' hj => digN_dig 19 s a j (by omega) hj))
  have HS := Lib.hid (show rnumS s a mark = if digN 19 s a ≠ 0 ∧ a + digN 19 s a < s.size ∧ at8 s (a + digN 19 s a) = mark.toNat ∧ ¬ (at8 s a = 48 ∧ 1 < digN 19 s a) then (numN s a (digN 19 s a), a + digN 19 s a + 1) else (0, 0) from rfl)
  generalize rnumS s a mark = t at *
  generalize digN 19 s a = r at *
  go_enter Tryd.func47, Tryd.ntmps47
  go_upto_block 0 with fail
  go_cut [8, 9] (fun s8 s9 wx => s8 = .int .u64 (numN s a r) ∧ s9 = .int .i64 (((a + r : Nat) : Int)) ∧ w = wx)
  case first =>
    go_wp2_with fail
    go_loop [8, 9] (fun s8 s9 => ∃ k : Nat, k ≤ r ∧ s8 = .int .u64 (numN s a k) ∧ s9 = .int .i64 ((a + k : Nat) : Int)) (fun _ s9 => (a + r - (intOf s9)).toNat)
    case atStart => exact ⟨0, Nat.zero_le _, rfl, rfl⟩
    case round =>
      obtain ⟨k, hk, rfl, rfl⟩ := hrel
      obtain ⟨n0, n1⟩ := HB.out k hk
      have n2 := pow19 k (by omega)
      by_cases hlt : k < r
      · have hkl : a + k < s.size := by omega
        obtain ⟨d1, d2⟩ := HD.out k hlt hkl
        have HN := Lib.hid (numN_step s a k hkl)
        obtain ⟨n3, n4⟩ := HB.out (k + 1) hlt
        rw [HN.out] at n3 n4
        have n5 := pow19 (k + 1) (by omega)
        have z0 : ((a + k : Nat) : Int) - (a : Int) < 19 := by omega
        have z1 : numN s a k * 10 ≤ 18446744073709551615 := by omega
        have z2 : numN s a k * 10 + (((s[a + k]'hkl).toNat : Int) - 48) ≤ 18446744073709551615 := by omega
        generalize hN : numN s a k = N at *
        clear n1 n2 n4 n5 hN
        go_wp2
        go_round
        case rel => exact ⟨k + 1, by omega, by rw [HN.out], by go_num⟩
        case measure => simp [intOf]; omega
      · obtain rfl : k = r := by omega
        clear hlt hk n0 n1 n2
        by_cases hsz : a + k < s.size
        · have x0 : ((a + k : Nat) : Int) < (s.size : Int) := by omega
          by_cases h19 : k < 19
          · have x1 : (a : Int) + (k : Int) - (a : Int) < 19 := by omega
            have hno := HE.out h19 hsz
            rw [at8_eq hsz] at hno
            by_cases h48 : (48 : Int) ≤ ((s[a + k]'hsz).toNat : Int)
            · have h57 : ¬ ((s[a + k]'hsz).toNat : Int) ≤ 57 := by omega
              clear hno
              go_wp2_with fail
              go_meet
              exact ⟨rfl, rfl, rfl⟩
            · clear hno
              go_wp2_with fail
              go_meet
              exact ⟨rfl, rfl, rfl⟩
          · have x1 : ¬ (a : Int) + (k : Int) - (a : Int) < 19 := by omega
            go_wp2_with fail
            go_meet
            exact ⟨rfl, rfl, rfl⟩
        · have x0 : ¬ ((a + k : Nat) : Int) < (s.size : Int) := by omega
          go_wp2_with fail
          go_meet
          exact ⟨rfl, rfl, rfl⟩
  obtain ⟨rfl, rfl, rfl⟩ := hcut
  by_cases hr0 : r = 0
  · have HT := Lib.hid (show t = (0, 0) by rw [HS.out, if_neg (fun h => h.1 hr0)])
    have y0 : ((a : Int) + (r : Int) == (a : Int)) = true := by simp; omega
    clear hr0
    go_wp2
    go_ret2
    exact ⟨by rw [HT.out]; rfl, rfl⟩
  have y0 : ((a : Int) + (r : Int) == (a : Int)) = false := by simp; omega
  by_cases hsz : a + r < s.size
  · have y1 : ((a : Int) + (r : Int) == (s.size : Int)) = false := by simp; omega
    have ha0 : a < s.size := by omega
    have za : ((a + r : Nat) : Int) < (s.size : Int) := by omega
    have e1 := at8_eq hsz
    have e2 := at8_eq ha0
    by_cases hm : at8 s (a + r) = mark.toNat
    · have y2 : ((((s[a + r]'hsz).toNat : Int)) != (mark.toNat : Int)) = false := by rw [← e1, hm]; simp
      by_cases hz : at8 s a = 48
      · have y3 : ((((s[a]'ha0).toNat : Int)) == 48) = true := by rw [← e2, hz]; rfl
        by_cases h1 : 1 < r
        · have HT := Lib.hid (show t = (0, 0) by rw [HS.out, if_neg (fun h => h.2.2.2 ⟨hz, h1⟩)])
          have y4 : (1 : Int) < (a : Int) + (r : Int) - (a : Int) := by omega
          clear hr0 e1 e2 hm hz h1
          go_wp2
          go_ret2
          exact ⟨by rw [HT.out]; rfl, rfl⟩
        · have HT := Lib.hid (show t = (numN s a r, a + r + 1) by rw [HS.out, if_pos ⟨hr0, hsz, hm, fun h => h1 h.2⟩])
          have y4 : ¬ (1 : Int) < (a : Int) + (r : Int) - (a : Int) := by omega
          clear hr0 e1 e2 hm hz h1
          go_wp2
          go_ret2
          exact ⟨by rw [HT.out]; rfl, rfl⟩
      · have y3 : ((((s[a]'ha0).toNat : Int)) == 48) = false := by rw [← e2]; simp; omega
        have HT := Lib.hid (show t = (numN s a r, a + r + 1) by rw [HS.out, if_pos ⟨hr0, hsz, hm, fun h => hz h.1⟩])
        clear hr0 e1 e2 hm hz
        go_wp2
        go_ret2
        exact ⟨by rw [HT.out]; rfl, rfl⟩
    · have y2 : ((((s[a + r]'hsz).toNat : Int)) != (mark.toNat : Int)) = true := by rw [← e1]; simp [bne]; omega
      have HT := Lib.hid (show t = (0, 0) by rw [HS.out, if_neg (fun h => hm h.2.2.1)])
      clear hr0 e1 e2 hm
      go_wp2
      go_ret2
      exact ⟨by rw [HT.out]; rfl, rfl⟩
  · have y1 : ((a : Int) + (r : Int) == (s.size : Int)) = true := by simp; omega
    have HT := Lib.hid (show t = (0, 0) by rw [HS.out, if_neg (fun h => hsz h.2.1)])
    clear hr0
    go_wp2
    go_ret2
    exact ⟨by rw [HT.out]; rfl, rfl⟩
end Go.Proofs.YtljeialaefmbmaaDoor
