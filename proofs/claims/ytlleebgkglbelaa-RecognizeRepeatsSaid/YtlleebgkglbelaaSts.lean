/- Slices of strings; contracts of the reference of layer 4: Has, Sorted. -/
import Derived.Test.YtlleebgkglbelaaBase
import Derived.Sort.Walk0
import Derived.Lib.Strings
set_option linter.unusedSimpArgs false
set_option linter.unusedVariables false
namespace Go.Proofs.Ytlleebgkglbelaa
open Go.RowKit

/-- a slice of strings that reads as a list -/
structure SlS (w : World) (a : Option Addr) (b off len cap : Nat) (L : List ByteArray) : Prop where
  hl : L.length = len
  ha : 0 < len → a = some ⟨b, off, none⟩
  hb : 0 < len → b < w.heap.size
  hcap : len ≤ cap
  hmax : cap ≤ maxLen
  cell : ∀ (k : Nat) (h : k < L.length), w.cell? ⟨b, off + k, none⟩ = some (.string L[k])
theorem SlS.keep {w w' : World} {a : Option Addr} {b off len cap : Nat} {L : List ByteArray} (h : SlS w a b off len cap L) (hB : Below w.heap.size w w') : SlS w' a b off len cap L := by
  obtain ⟨h1, h2, h3, h4, h5, h6⟩ := h
  refine ⟨h1, h2, fun h => Nat.lt_of_lt_of_le (h3 h) hB.size, h4, h5, fun k hk => ?_⟩
  exact (hB.cell (p := ⟨b, off + k, none⟩) (h3 (by omega))).trans (h6 k hk)
theorem SlS.drewN {w : World} {a : Option Addr} {b off len cap : Nat} {L : List ByteArray} (h : SlS w a b off len cap L) (n : Nat) : SlS (w.drewN n) a b off len cap L :=
  ⟨h.hl, h.ha, h.hb, h.hcap, h.hmax, h.cell⟩
def lessB (a b : ByteArray) : Bool := Op.bytesLess a.toList b.toList
/-- strictly increasing -/
def srtL : List ByteArray → Bool
  | [] => true
  | [_] => true
  | a :: b :: t => lessB a b && srtL (b :: t)
theorem srt_iff : ∀ (L : List ByteArray), srtL L = true ↔ ∀ (k : Nat) (h : k + 1 < L.length), lessB (L[k]'(Nat.lt_of_succ_lt h)) (L[k + 1]'h) = true
  | [] => by simp [srtL]
  | [_] => by simp [srtL]
  | a :: b :: t => by
    rw [srtL, Bool.and_eq_true, srt_iff (b :: t)]
    constructor
    · rintro ⟨h0, h⟩ k hk
      cases k with
      | zero => exact h0
      | succ k => exact h k (by simpa using hk)
    · intro h
      exact ⟨h 0 (by simp), fun k hk => h (k + 1) (by simpa using hk)⟩
theorem srt_false {L : List ByteArray} {k : Nat} (h : k + 1 < L.length) (hl : lessB (L[k]'(Nat.lt_of_succ_lt h)) (L[k + 1]'h) = false) : srtL L = false := by
  cases hs : srtL L with
  | false => rfl
  | true => rw [(srt_iff L).1 hs k h] at hl; contradiction

set_option maxHeartbeats 1000000 in
set_option maxRecDepth 100000 in
theorem rsorted_any {a : Option Addr} {b off len cap : Nat} {L : List ByteArray} {w : World} (h : SlS w a b off len cap L) :
    Calls Try.prog 60 #[.slice a len cap] w fun e w' => e = .returned (.bool (srtL L)) ∧ ∃ n, w' = w.drewN n := by
  obtain ⟨hl, ha, hb, hcap, hmax, hcell⟩ := h
  unfold maxLen at hmax
  have HC := Lib.hid hcell
  have HL := Lib.hid hl
  have HT := Lib.hid (show (∀ (k : Nat) (h : k + 1 < L.length), lessB (L[k]'(Nat.lt_of_succ_lt h)) (L[k + 1]'h) = true) → srtL L = true from (srt_iff L).2)
  have HF := Lib.hid (fun k h hl => @srt_false L k h hl)
  obtain ⟨r, hr⟩ : ∃ r, srtL L = r := ⟨_, rfl⟩
  rw [hr] at HT HF
  rw [hr]
  clear hr hl hcell
  by_cases h0 : 0 < len
  · obtain rfl := ha h0
    have hb0 := hb h0
    clear ha hb
    go_enter Try.func60, Try.ntmps60
    go_wp2_with fail
    go_loopw [3] (fun s3 wr => ∃ (k n : Nat), k + 1 ≤ len ∧ s3 = .int .i64 ((k : Int) + 1) ∧ w.drewN n = wr ∧ Hid (∀ (j : Nat) (h : j + 1 < L.length), j < k → lessB (L[j]'(Nat.lt_of_succ_lt h)) (L[j + 1]'h) = true)) (fun s3 _ => (len - (intOf s3)).toNat)
    case atStart => exact ⟨0, 0, by omega, rfl, rfl, Lib.hid (fun j _ h => absurd h (Nat.not_lt_zero j))⟩
    case round =>
      obtain ⟨k, n, hk, rfl, rfl, HK⟩ := hrel
      by_cases hlt : k + 1 < len
      · have l1 : (k : Int) + 1 < (len : Int) := by omega
        have hj : k + 1 < L.length := by rw [HL.out]; exact hlt
        have c1 : (w.drewN n).cell? ⟨b, off + k, none⟩ = some (.string (L[k]'(Nat.lt_of_succ_lt hj))) := HC.out k (by omega)
        have c2 : (w.drewN n).cell? ⟨b, off + (k + 1), none⟩ = some (.string (L[k + 1]'hj)) := HC.out (k + 1) hj
        generalize hwn : w.drewN n = wn at *
        have HWN := Lib.hid hwn
        clear hwn
        cases hls : lessB (L[k]'(Nat.lt_of_succ_lt hj)) (L[k + 1]'hj) with
        | true =>
          have HS := Lib.hid hls
          unfold lessB at hls
          go_wp2_with fail
          go_quiet (fail)
          go_wp2_with fail
          go_roundw
          case rel =>
            refine ⟨k + 1, n + nq, by omega, by go_num, by rw [← HWN.out, World.drewN_drewN], Lib.hid (fun j h hj2 => ?_)⟩
            by_cases e : j = k
            · subst e; exact HS.out
            · exact HK.out j h (by omega)
          case measure => simp [intOf]; omega
        | false =>
          have HS := Lib.hid (HF.out k hj hls)
          unfold lessB at hls
          go_wp2_with fail
          go_quiet (fail)
          go_wp2
          go_ret
          exact ⟨by rw [HS.out]; rfl, n + nq, by rw [← HWN.out, World.drewN_drewN]⟩
      · have l1 : ¬ (k : Int) + 1 < (len : Int) := by omega
        have HS := Lib.hid (HT.out (fun j h => HK.out j h (by rw [HL.out] at h; omega)))
        go_wp2
        go_ret
        exact ⟨by rw [HS.out]; rfl, n, rfl⟩
  · have l1 : ¬ (1 : Int) < (len : Int) := by omega
    have HS := Lib.hid (HT.out (fun j h => by rw [HL.out] at h; omega))
    clear ha hb
    go_enter Try.func60, Try.ntmps60
    go_wp2_with fail
    refine wp_loop_rounds 1 ?_
    rw [rounds_succ]
    go_wp2
    go_ret
    exact ⟨by rw [HS.out]; rfl, 0, by simp [World.drewN_zero]⟩

theorem tolist_inj {a b : ByteArray} (h : a.toList = b.toList) : a = b := by
  rw [Lib.toList_data, Lib.toList_data] at h
  cases a; cases b
  simp only [ByteArray.mk.injEq] at *
  exact Array.toList_inj.1 h
theorem eq_iff {a b : ByteArray} : (a.toList == b.toList) = true ↔ a = b :=
  ⟨fun h => tolist_inj (by simpa using h), fun h => by subst h; simp⟩
theorem eq_no {a b : ByteArray} : (a.toList == b.toList) = false ↔ a ≠ b := by
  rw [← Bool.not_eq_true, eq_iff]
def hasS (L : List ByteArray) (x : ByteArray) : Bool := L.any (fun y => decide (y = x))
theorem hasS_iff {L : List ByteArray} {x : ByteArray} : hasS L x = true ↔ x ∈ L := by simp [hasS]
def hitN (L : List ByteArray) (x : ByteArray) (k : Nat) : Prop := ∀ (j : Nat) (h : j < L.length), j < k → L[j]'h ≠ x
theorem has_hit {L : List ByteArray} {x : ByteArray} {k : Nat} (h : k < L.length) (e : L[k]'h = x) : hasS L x = true := by
  rw [hasS_iff, ← e]; exact List.getElem_mem h
theorem has_miss {L : List ByteArray} {x : ByteArray} (h : hitN L x L.length) : hasS L x = false := by
  rw [← Bool.not_eq_true, hasS_iff]
  intro hx
  obtain ⟨k, hk, e⟩ := List.mem_iff_getElem.1 hx
  exact h k hk hk e
set_option maxHeartbeats 1000000 in
set_option maxRecDepth 100000 in
theorem rhas_any {a : Option Addr} {b off len cap : Nat} {L : List ByteArray} {w : World} (h : SlS w a b off len cap L) (x : ByteArray) :
    Calls Try.prog 58 #[.slice a len cap, .string x] w fun e w' => e = .returned (.bool (hasS L x)) ∧ w' = w := by
  obtain ⟨hl, ha, hb, hcap, hmax, hcell⟩ := h
  unfold maxLen at hmax
  have HC := Lib.hid hcell
  have HL := Lib.hid hl
  have HF := Lib.hid (fun k h e => @has_hit L x k h e)
  have HM := Lib.hid (@has_miss L x)
  obtain ⟨r, hr⟩ : ∃ r, hasS L x = r := ⟨_, rfl⟩
  rw [hr] at HF HM
  rw [hr]
  clear hr hl hcell
  by_cases h0 : 0 < len
  · obtain rfl := ha h0
    clear ha hb
    go_enter Try.func58, Try.ntmps58
    go_wp2_with fail
    go_loop [5] (fun s5 => ∃ (k : Nat), k ≤ len ∧ s5 = .int .i64 (k : Int) ∧ Hid (hitN L x k)) (fun s5 => (len - (intOf s5)).toNat)
    case atStart => exact ⟨0, Nat.zero_le _, rfl, Lib.hid (fun j _ h => absurd h (Nat.not_lt_zero j))⟩
    case round =>
      obtain ⟨k, hk, rfl, HK⟩ := hrel
      by_cases hlt : k < len
      · have l1 : (k : Int) < (len : Int) := by omega
        have hj : k < L.length := by rw [HL.out]; exact hlt
        have c1 : w.cell? ⟨b, off + k, none⟩ = some (.string (L[k]'hj)) := HC.out k hj
        cases he : ((L[k]'hj).toList == x.toList) with
        | true =>
          have HS := Lib.hid (HF.out k hj (eq_iff.1 he))
          go_wp2
          go_ret
          exact ⟨by rw [HS.out]; rfl, rfl⟩
        | false =>
          have HS := Lib.hid (eq_no.1 he)
          go_wp2
          go_round
          case rel =>
            refine ⟨k + 1, by omega, by go_num, Lib.hid (fun j h hj2 => ?_)⟩
            by_cases e : j = k
            · subst e; exact HS.out
            · exact HK.out j h (by omega)
          case measure => simp [intOf]; omega
      · obtain rfl : k = len := by omega
        have HS := Lib.hid (HM.out (fun j h h2 => HK.out j h (by rw [← HL.out]; exact h)))
        go_wp2
        go_ret
        exact ⟨by rw [HS.out]; rfl, rfl⟩
  · have l1 : ¬ (0 : Int) < (len : Int) := by omega
    have HS := Lib.hid (HM.out (fun j h h2 => by rw [HL.out] at h; omega))
    clear ha hb
    go_enter Try.func58, Try.ntmps58
    go_wp2_with fail
    refine wp_loop_rounds 1 ?_
    rw [rounds_succ]
    go_wp2
    go_ret
    exact ⟨by rw [HS.out]; rfl, rfl⟩

end Go.Proofs.Ytlleebgkglbelaa
