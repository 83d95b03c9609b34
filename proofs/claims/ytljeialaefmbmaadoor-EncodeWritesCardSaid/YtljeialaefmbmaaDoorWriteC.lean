/- Contracts of package encode: Int and Text of a Writer. -/
import Derived.Test.YtljeialaefmbmaaDoorDec
set_option linter.unusedSimpArgs false
set_option linter.unusedVariables false
namespace Go.Proofs.YtljeialaefmbmaaDoor
open Go.RowKit

theorem decL_len {n k : Nat} (h : n < 10 ^ (k + 1)) : (decL n).length ≤ k + 1 := by
  induction k generalizing n with
  | zero => rw [decL_lt (by simpa using h)]; simp
  | succ k ih =>
    by_cases h10 : n < 10
    · rw [decL_lt h10]; simp
    · rw [decL_ge h10]
      have := ih (n := n / 10) (by rw [Nat.pow_succ] at h; omega)
      simp
      omega
theorem decS_len {n : Int} (h1 : -9223372036854775808 ≤ n) (h2 : n ≤ 9223372036854775807) : (decS n).length ≤ 20 := by
  unfold decS
  split
  · have := decL_len (n := (-n).toNat) (k := 18) (by show _ < 10 ^ 19; omega)
    simp
    omega
  · have := decL_len (n := n.toNat) (k := 18) (by show _ < 10 ^ 19; omega)
    omega
theorem dec_any (n : Int) (h1 : -9223372036854775808 ≤ n) (h2 : n ≤ 9223372036854775807) (w : World) :
    Calls Tryd.prog 29 #[.int .i64 n] w fun r w' => r = .returned (.string ⟨(decS n).toArray⟩) ∧ Below w.heap.size w w' := by
  unfold decS
  split
  · obtain ⟨k, hk⟩ : ∃ k : Nat, n = -(k : Int) := ⟨(-n).toNat, by omega⟩
    subst hk
    have e : (-(-(k : Int))).toNat = k := by omega
    rw [e]
    exact dec_neg k (by omega) (by omega) w
  · obtain ⟨k, hk⟩ : ∃ k : Nat, n = (k : Int) := ⟨n.toNat, by omega⟩
    subst hk
    rw [Int.toNat_natCast]
    exact dec_pos k (by omega) w

/-- what a Writer appends -/
def encI (n : Int) : ByteArray := (⟨#[105]⟩ : ByteArray) ++ ⟨(decS n).toArray⟩ ++ ⟨#[59]⟩
def encT (s : ByteArray) : ByteArray := (⟨(decS (s.size : Int)).toArray⟩ : ByteArray) ++ ⟨#[58]⟩ ++ s
theorem encI_size {n : Int} (h1 : -9223372036854775808 ≤ n) (h2 : n ≤ 9223372036854775807) : (encI n).size ≤ 22 := by
  have := decS_len h1 h2
  have e : (encI n).size = (1 + (decS n).length) + 1 := by unfold encI; rw [ByteArray.size_append, ByteArray.size_append]; rfl
  omega
theorem encT_size {s : ByteArray} (h2 : s.size ≤ 4611686018427387904) : (encT s).size ≤ 21 + s.size := by
  have := decS_len (n := (s.size : Int)) (by omega) (by omega)
  have e : (encT s).size = ((decS (s.size : Int)).length + 1) + s.size := by unfold encT; rw [ByteArray.size_append, ByteArray.size_append]; rfl
  omega

theorem WAt.below {w w' : World} {b : Nat} {l : List ByteArray} {o : Nat} (h : WAt w b l o) (hb : Below w.heap.size w w') : WAt w' b l o := by
  obtain ⟨⟨v, c0, hc⟩, c1, c2, ff, lt⟩ := h
  have hs := hb.size
  exact ⟨⟨v, (hb.cell (p := ⟨b, 0, none⟩) lt).trans c0, hc.keep (But.of hb)⟩, (hb.cell (p := ⟨b, 1, none⟩) lt).trans c1, (hb.cell (p := ⟨b, 2, none⟩) lt).trans c2, fun o => (hb.frozen (p := ⟨b, o, none⟩) lt).trans (ff o), by omega⟩

set_option maxHeartbeats 1000000 in
set_option maxRecDepth 100000 in
theorem wint_any (b : Nat) (l : List ByteArray) (o : Nat) (n : Int) (h1 : -9223372036854775808 ≤ n) (h2 : n ≤ 9223372036854775807) (w : World) (hW : WAt w b l o) (hs : sumLen l + 22 ≤ 4611686018427387904) :
    Calls Tryd.prog 11 #[.pointer (some ⟨b, 0, none⟩), .int .i64 n] w fun e w' => e = .returned (.tuple #[]) ∧ WAt w' b (encI n :: l) o ∧ But b w w' := by
  have HD := Lib.hid (dec_any n h1 h2 w)
  have HW := Lib.hid hW
  have hsz := encI_size h1 h2
  have HA := Lib.hid (fun w1 (h : WAt w1 b l o) => add_any b l o (encI n) w1 h (by omega))
  have HE := Lib.hid (show encI n = (⟨#[105]⟩ : ByteArray) ++ ⟨(decS n).toArray⟩ ++ ⟨#[59]⟩ from rfl)
  have hll := decS_len h1 h2
  clear hW hsz
  generalize encI n = t at *
  generalize hdl : (decS n).toArray = d at *
  have hd2 : d.size ≤ 20 := by rw [← hdl]; simpa using hll
  clear hdl hll
  go_enter Tryd.func11, Tryd.ntmps11
  go_wp2_with fail
  refine HD.out.mono ?_
  rintro e w1 ⟨rfl, hb⟩
  have HW1 := Lib.hid (HW.out.below hb)
  have HB := Lib.hid (But.of (b := b) hb)
  clear hb
  go_wp2_with fail
  rw [← HE.out]
  refine (HA.out _ HW1.out).mono ?_
  rintro e w2 ⟨rfl, hW2, hb2⟩
  go_wp2
  simp [bodyPost, results, Tryd.results11]
  exact ⟨hW2, HB.out.trans hb2⟩

set_option maxHeartbeats 1000000 in
set_option maxRecDepth 100000 in
theorem wtext_any (b : Nat) (l : List ByteArray) (o : Nat) (s : ByteArray) (w : World) (hW : WAt w b l o) (hs : sumLen l + (21 + s.size) ≤ 4611686018427387904) :
    Calls Tryd.prog 12 #[.pointer (some ⟨b, 0, none⟩), .string s] w fun e w' => e = .returned (.tuple #[]) ∧ WAt w' b (encT s :: l) o ∧ But b w w' := by
  have HD := Lib.hid (dec_any (s.size : Int) (by omega) (by omega) w)
  have HW := Lib.hid hW
  have hsz := encT_size (s := s) (by omega)
  have HA := Lib.hid (fun w1 (h : WAt w1 b l o) => add_any b l o (encT s) w1 h (by omega))
  have HE := Lib.hid (show encT s = (⟨(decS (s.size : Int)).toArray⟩ : ByteArray) ++ ⟨#[58]⟩ ++ s from rfl)
  have hll := decS_len (n := (s.size : Int)) (by omega) (by omega)
  have hss : s.size ≤ 4611686018427387904 := by omega
  clear hW hsz
  generalize encT s = t at *
  generalize hdl : (decS (s.size : Int)).toArray = d at *
  have hd2 : d.size ≤ 20 := by rw [← hdl]; simpa using hll
  clear hdl hll
  go_enter Tryd.func12, Tryd.ntmps12
  go_wp2_with fail
  refine HD.out.mono ?_
  rintro e w1 ⟨rfl, hb⟩
  have HW1 := Lib.hid (HW.out.below hb)
  have HB := Lib.hid (But.of (b := b) hb)
  clear hb
  go_wp2_with fail
  rw [← HE.out]
  refine (HA.out _ HW1.out).mono ?_
  rintro e w2 ⟨rfl, hW2, hb2⟩
  go_wp2
  simp [bodyPost, results, Tryd.results12]
  exact ⟨hW2, HB.out.trans hb2⟩
end Go.Proofs.YtljeialaefmbmaaDoor
