/- Contracts of layer 4: Sorted, Has, the reference's Same. -/
import Derived.Test.YtflpehpjemlphaaDoorSls
set_option linter.unusedSimpArgs false
set_option linter.unusedVariables false
namespace Go.Proofs.YtflpehpjemlphaaDoor
open Go.RowKit

def lessB (a b : ByteArray) : Bool := Op.bytesLess a.toList b.toList
/-- strictly increasing -/
def srtL : List ByteArray → Bool
  | [] => true
  | [_] => true
  | a :: b :: t => lessB a b && srtL (b :: t)
theorem srt_iff : ∀ (L : List ByteArray), srtL L = true ↔ ∀ (k : Nat) (h : k + 1 < L.length), lessB (L[k]'(Nat.lt_of_succ_lt h)) (L[k + 1]'h) = true
  | [] => by simp [srtL]
  | [_] => by simp [srtL]
  | a :: b :: t => by
    rw [srtL, Bool.and_eq_true, srt_iff (b :: t)]
    constructor
    · rintro ⟨h0, h⟩ k hk
      cases k with
      | zero => exact h0
      | succ k => exact h k (by simpa using hk)
    · intro h
      exact ⟨h 0 (by simp), fun k hk => h (k + 1) (by simpa using hk)⟩
theorem srt_false {L : List ByteArray} {k : Nat} (h : k + 1 < L.length) (hl : lessB (L[k]'(Nat.lt_of_succ_lt h)) (L[k + 1]'h) = false) : srtL L = false := by
  cases hs : srtL L with
  | false => rfl
  | true => rw [(srt_iff L).1 hs k h] at hl; contradiction

set_option maxHeartbeats 1000000 in
set_option maxRecDepth 100000 in
theorem sorted_any {a : Option Addr} {b off len cap : Nat} {L : List ByteArray} {w : World} (h : SlS w a b off len cap L) :
    Calls Tryd.prog 6 #[.slice a len cap] w fun e w' => e = .returned (.bool (srtL L)) ∧ ∃ n, w' = w.drewN n := by
  obtain ⟨hl, ha, hb, hcap, hmax, hcell⟩ := h
  unfold maxLen at hmax
  have HC := Lib.hid hcell
  have HL := Lib.hid hl
  have HT := Lib.hid (show (∀ (k : Nat) (h : k + 1 < L.length), lessB (L[k]'(Nat.lt_of_succ_lt h)) (L[k + 1]'h) = true) → srtL L = true from (srt_iff L).2)
  have HF := Lib.hid (fun k h hl => @srt_false L k h hl)
  obtain ⟨r, hr⟩ : ∃ r, srtL L = r := ⟨_, rfl⟩
  rw [hr] at HT HF
  rw [hr]
  clear hr hl hcell
  by_cases h0 : 0 < len
  · obtain rfl := ha h0
    have hb0 := hb h0
    clear ha hb
    go_enter Tryd.func6, Tryd.ntmps6
    go_wp2_with fail
    go_loopw [3] (fun s3 wr => ∃ (k n : Nat), k + 1 ≤ len ∧ s3 = .int .i64 ((k : Int) + 1) ∧ w.drewN n = wr ∧ Hid (∀ (j : Nat) (h : j + 1 < L.length), j < k → lessB (L[j]'(Nat.lt_of_succ_lt h)) (L[j + 1]'h) = true)) (fun s3 _ => (len - (intOf s3)).toNat)
    case atStart => exact ⟨0, 0, by omega, rfl, rfl, Lib.hid (fun j _ h => absurd h (Nat.not_lt_zero j))⟩
    case round =>
      obtain ⟨k, n, hk, rfl, rfl, HK⟩ := hrel
      by_cases hlt : k + 1 < len
      · have l1 : (k : Int) + 1 < (len : Int) := by omega
        have hj : k + 1 < L.length := by rw [HL.out]; exact hlt
        have c1 : (w.drewN n).cell? ⟨b, off + k, none⟩ = some (.string (L[k]'(Nat.lt_of_succ_lt hj))) := HC.out k (by omega)
        have c2 : (w.drewN n).cell? ⟨b, off + (k + 1), none⟩ = some (.string (L[k + 1]'hj)) := HC.out (k + 1) hj
        generalize hwn : w.drewN n = wn at *
        have HWN := Lib.hid hwn
        clear hwn
        cases hls : lessB (L[k]'(Nat.lt_of_succ_lt hj)) (L[k + 1]'hj) with
        | true =>
          have HS := Lib.hid hls
          unfold lessB at hls
          go_wp2_with fail
          go_quiet (fail)
          go_wp2_with fail
          go_roundw
          case rel =>
            refine ⟨k + 1, n + nq, by omega, by go_num, by rw [← HWN.out, World.drewN_drewN], Lib.hid (fun j h hj2 => ?_)⟩
            by_cases e : j = k
            · subst e; exact HS.out
            · exact HK.out j h (by omega)
          case measure => simp [intOf]; omega
        | false =>
          have HS := Lib.hid (HF.out k hj hls)
          unfold lessB at hls
          go_wp2_with fail
          go_quiet (fail)
          go_wp2
          go_ret
          exact ⟨by rw [HS.out]; rfl, n + nq, by rw [← HWN.out, World.drewN_drewN]⟩
      · have l1 : ¬ (k : Int) + 1 < (len : Int) := by omega
        have HS := Lib.hid (HT.out (fun j h => HK.out j h (by rw [HL.out] at h; omega)))
        go_wp2
        go_ret
        exact ⟨by rw [HS.out]; rfl, n, rfl⟩
  · have l1 : ¬ (1 : Int) < (len : Int) := by omega
    have HS := Lib.hid (HT.out (fun j h => by rw [HL.out] at h; omega))
    clear ha hb
    go_enter Tryd.func6, Tryd.ntmps6
    go_wp2_with fail
    refine wp_loop_rounds 1 ?_
    rw [rounds_succ]
    go_wp2
    go_ret
    exact ⟨by rw [HS.out]; rfl, 0, by simp [World.drewN_zero]⟩

set_option maxHeartbeats 1000000 in
set_option maxRecDepth 100000 in
theorem rsorted_any {a : Option Addr} {b off len cap : Nat} {L : List ByteArray} {w : World} (h : SlS w a b off len cap L) :
    Calls Tryd.prog 7 #[.slice a len cap] w fun e w' => e = .returned (.bool (srtL L)) ∧ ∃ n, w' = w.drewN n := by
  obtain ⟨hl, ha, hb, hcap, hmax, hcell⟩ := h
  unfold maxLen at hmax
  have HC := Lib.hid hcell
  have HL := Lib.hid hl
  have HT := Lib.hid (show (∀ (k : Nat) (h : k + 1 < L.length), lessB (L[k]'(Nat.lt_of_succ_lt h)) (L[k + 1]'h) = true) → srtL L = true from (srt_iff L).2)
  have HF := Lib.hid (fun k h hl => @srt_false L k h hl)
  obtain ⟨r, hr⟩ : ∃ r, srtL L = r := ⟨_, rfl⟩
  rw [hr] at HT HF
  rw [hr]
  clear hr hl hcell
  by_cases h0 : 0 < len
  · obtain rfl := ha h0
    have hb0 := hb h0
    clear ha hb
    go_enter Tryd.func7, Tryd.ntmps7
    go_wp2_with fail
    go_loopw [3] (fun s3 wr => ∃ (k n : Nat), k + 1 ≤ len ∧ s3 = .int .i64 ((k : Int) + 1) ∧ w.drewN n = wr ∧ Hid (∀ (j : Nat) (h : j + 1 < L.length), j < k → lessB (L[j]'(Nat.lt_of_succ_lt h)) (L[j + 1]'h) = true)) (fun s3 _ => (len - (intOf s3)).toNat)
    case atStart => exact ⟨0, 0, by omega, rfl, rfl, Lib.hid (fun j _ h => absurd h (Nat.not_lt_zero j))⟩
    case round =>
      obtain ⟨k, n, hk, rfl, rfl, HK⟩ := hrel
      by_cases hlt : k + 1 < len
      · have l1 : (k : Int) + 1 < (len : Int) := by omega
        have hj : k + 1 < L.length := by rw [HL.out]; exact hlt
        have c1 : (w.drewN n).cell? ⟨b, off + k, none⟩ = some (.string (L[k]'(Nat.lt_of_succ_lt hj))) := HC.out k (by omega)
        have c2 : (w.drewN n).cell? ⟨b, off + (k + 1), none⟩ = some (.string (L[k + 1]'hj)) := HC.out (k + 1) hj
        generalize hwn : w.drewN n = wn at *
        have HWN := Lib.hid hwn
        clear hwn
        cases hls : lessB (L[k]'(Nat.lt_of_succ_lt hj)) (L[k + 1]'hj) with
        | true =>
          have HS := Lib.hid hls
          unfold lessB at hls
          go_wp2_with fail
          go_quiet (fail)
          go_wp2_with fail
          go_roundw
          case rel =>
            refine ⟨k + 1, n + nq, by omega, by go_num, by rw [← HWN.out, World.drewN_drewN], Lib.hid (fun j h hj2 => ?_)⟩
            by_cases e : j = k
            · subst e; exact HS.out
            · exact HK.out j h (by omega)
          case measure => simp [intOf]; omega
        | false =>
          have HS := Lib.hid (HF.out k hj hls)
          unfold lessB at hls
          go_wp2_with fail
          go_quiet (fail)
          go_wp2
          go_ret
          exact ⟨by rw [HS.out]; rfl, n + nq, by rw [← HWN.out, World.drewN_drewN]⟩
      · have l1 : ¬ (k : Int) + 1 < (len : Int) := by omega
        have HS := Lib.hid (HT.out (fun j h => HK.out j h (by rw [HL.out] at h; omega)))
        go_wp2
        go_ret
        exact ⟨by rw [HS.out]; rfl, n, rfl⟩
  · have l1 : ¬ (1 : Int) < (len : Int) := by omega
    have HS := Lib.hid (HT.out (fun j h => by rw [HL.out] at h; omega))
    clear ha hb
    go_enter Tryd.func7, Tryd.ntmps7
    go_wp2_with fail
    refine wp_loop_rounds 1 ?_
    rw [rounds_succ]
    go_wp2
    go_ret
    exact ⟨by rw [HS.out]; rfl, 0, by simp [World.drewN_zero]⟩

theorem tolist_inj {a b : ByteArray} (h : a.toList = b.toList) : a = b := by
  rw [Lib.toList_data, Lib.toList_data] at h
  cases a; cases b
  simp only [ByteArray.mk.injEq] at *
  exact Array.toList_inj.1 h
theorem eq_iff {a b : ByteArray} : (a.toList == b.toList) = true ↔ a = b :=
  ⟨fun h => tolist_inj (by simpa using h), fun h => by subst h; simp⟩
theorem eq_no {a b : ByteArray} : (a.toList == b.toList) = false ↔ a ≠ b := by
  rw [← Bool.not_eq_true, eq_iff]
theorem take_all_of {L : List ByteArray} {len : Nat} (h : L.length = len) : L.take len = L := List.take_of_length_le (by omega)

set_option maxHeartbeats 1000000 in
set_option maxRecDepth 100000 in
theorem contains_any {a : Option Addr} {b off len cap : Nat} {L : List ByteArray} {w : World} (h : SlS w a b off len cap L) (x : ByteArray) :
    Calls Tryd.prog 26 #[.slice a len cap, .string x] w fun e w' => e = .returned (.bool (Lib.containsS L x)) ∧ w' = w := by
  obtain ⟨hl, ha, hb, hcap, hmax, hcell⟩ := h
  unfold maxLen at hmax
  by_cases h0 : 0 < len
  · obtain rfl := ha h0
    have := Tryd.slices_Contains_string b off len cap L x w (by omega) (by omega) (fun j hj => by rw [hcell j hj]; simp [List.getD, hj])
    rw [take_all_of hl] at this
    exact this
  · obtain rfl : len = 0 := by omega
    have : L = [] := List.eq_nil_of_length_eq_zero hl
    subst this
    exact (Tryd.slices_Contains_string_empty a cap x w)
set_option maxHeartbeats 1000000 in
set_option maxRecDepth 100000 in
theorem has_any {a : Option Addr} {b off len cap : Nat} {L : List ByteArray} {w : World} (h : SlS w a b off len cap L) (x : ByteArray) :
    Calls Tryd.prog 11 #[.slice a len cap, .string x] w fun e w' => e = .returned (.bool (Lib.containsS L x)) ∧ w' = w := by
  have HS := Lib.hid h
  clear h
  go_enter Tryd.func11, Tryd.ntmps11
  go_wp2_with fail
  refine (contains_any HS.out x).mono ?_
  rintro e w1 ⟨rfl, rfl⟩
  go_wp2
  go_ret
  exact ⟨rfl, rfl⟩

def hitN (L : List ByteArray) (x : ByteArray) (k : Nat) : Prop := ∀ (j : Nat) (h : j < L.length), j < k → L[j]'h ≠ x
theorem has_hit {L : List ByteArray} {x : ByteArray} {k : Nat} (h : k < L.length) (e : L[k]'h = x) : Lib.containsS L x = true := by
  rw [Lib.containsS_iff, ← e]; exact List.getElem_mem h
theorem has_miss {L : List ByteArray} {x : ByteArray} (h : hitN L x L.length) : Lib.containsS L x = false := by
  rw [← Bool.not_eq_true, Lib.containsS_iff]
  intro hx
  obtain ⟨k, hk, e⟩ := List.mem_iff_getElem.1 hx
  exact h k hk hk e
set_option maxHeartbeats 1000000 in
set_option maxRecDepth 100000 in
theorem rhas_any {a : Option Addr} {b off len cap : Nat} {L : List ByteArray} {w : World} (h : SlS w a b off len cap L) (x : ByteArray) :
    Calls Tryd.prog 12 #[.slice a len cap, .string x] w fun e w' => e = .returned (.bool (Lib.containsS L x)) ∧ w' = w := by
  obtain ⟨hl, ha, hb, hcap, hmax, hcell⟩ := h
  unfold maxLen at hmax
  have HC := Lib.hid hcell
  have HL := Lib.hid hl
  have HF := Lib.hid (fun k h e => @has_hit L x k h e)
  have HM := Lib.hid (@has_miss L x)
  obtain ⟨r, hr⟩ : ∃ r, Lib.containsS L x = r := ⟨_, rfl⟩
  rw [hr] at HF HM
  rw [hr]
  clear hr hl hcell
  by_cases h0 : 0 < len
  · obtain rfl := ha h0
    clear ha hb
    go_enter Tryd.func12, Tryd.ntmps12
    go_wp2_with fail
    go_loop [5] (fun s5 => ∃ (k : Nat), k ≤ len ∧ s5 = .int .i64 (k : Int) ∧ Hid (hitN L x k)) (fun s5 => (len - (intOf s5)).toNat)
    case atStart => exact ⟨0, Nat.zero_le _, rfl, Lib.hid (fun j _ h => absurd h (Nat.not_lt_zero j))⟩
    case round =>
      obtain ⟨k, hk, rfl, HK⟩ := hrel
      by_cases hlt : k < len
      · have l1 : (k : Int) < (len : Int) := by omega
        have hj : k < L.length := by rw [HL.out]; exact hlt
        have c1 : w.cell? ⟨b, off + k, none⟩ = some (.string (L[k]'hj)) := HC.out k hj
        cases he : ((L[k]'hj).toList == x.toList) with
        | true =>
          have HS := Lib.hid (HF.out k hj (eq_iff.1 he))
          go_wp2
          go_ret
          exact ⟨by rw [HS.out]; rfl, rfl⟩
        | false =>
          have HS := Lib.hid (eq_no.1 he)
          go_wp2
          go_round
          case rel =>
            refine ⟨k + 1, by omega, by go_num, Lib.hid (fun j h hj2 => ?_)⟩
            by_cases e : j = k
            · subst e; exact HS.out
            · exact HK.out j h (by omega)
          case measure => simp [intOf]; omega
      · obtain rfl : k = len := by omega
        have HS := Lib.hid (HM.out (fun j h h2 => HK.out j h (by rw [← HL.out]; exact h)))
        go_wp2
        go_ret
        exact ⟨by rw [HS.out]; rfl, rfl⟩
  · have l1 : ¬ (0 : Int) < (len : Int) := by omega
    have HS := Lib.hid (HM.out (fun j h h2 => by rw [HL.out] at h; omega))
    clear ha hb
    go_enter Tryd.func12, Tryd.ntmps12
    go_wp2_with fail
    refine wp_loop_rounds 1 ?_
    rw [rounds_succ]
    go_wp2
    go_ret
    exact ⟨by rw [HS.out]; rfl, rfl⟩

theorem same_no {L M : List ByteArray} {k : Nat} (h1 : k < L.length) (h2 : k < M.length) (e : L[k]'h1 ≠ M[k]'h2) : decide (L = M) = false := by
  rw [decide_eq_false_iff_not]; rintro rfl; exact e rfl
theorem same_yes {L M : List ByteArray} (hl : L.length = M.length) (h : ∀ (k : Nat) (h1 : k < L.length) (h2 : k < M.length), L[k]'h1 = M[k]'h2) : decide (L = M) = true := by
  rw [decide_eq_true_eq]; exact List.ext_getElem hl h
set_option maxHeartbeats 1000000 in
set_option maxRecDepth 100000 in
theorem same_any {a1 a2 : Option Addr} {b1 b2 off1 off2 len1 len2 cap1 cap2 : Nat} {L M : List ByteArray} {w : World} (h : SlS w a1 b1 off1 len1 cap1 L) (g : SlS w a2 b2 off2 len2 cap2 M) :
    Calls Tryd.prog 8 #[.slice a1 len1 cap1, .slice a2 len2 cap2] w fun e w' => e = .returned (.bool (decide (L = M))) ∧ ∃ n, w' = w.drewN n := by
  obtain ⟨hl, ha, hb, hcap, hmax, hcell⟩ := h
  obtain ⟨gl, ga, gb, gcap, gmax, gcell⟩ := g
  unfold maxLen at hmax gmax
  by_cases hlen : len1 = len2
  · subst hlen
    have HC := Lib.hid hcell
    have GC := Lib.hid gcell
    have HL := Lib.hid hl
    have GL := Lib.hid gl
    have HF := Lib.hid (fun k h1 h2 e => @same_no L M k h1 h2 e)
    have HM := Lib.hid (@same_yes L M (hl.trans gl.symm))
    obtain ⟨r, hr⟩ : ∃ r, decide (L = M) = r := ⟨_, rfl⟩
    rw [hr] at HF HM
    rw [hr]
    clear hr hl hcell gl gcell
    have k0 : ((len1 : Int) != (len1 : Int)) = false := by simp
    by_cases h0 : 0 < len1
    · obtain rfl := ha h0
      obtain rfl := ga h0
      clear ha hb ga gb
      go_enter Tryd.func8, Tryd.ntmps8
      go_wp2_with fail
      go_loopw [5] (fun s5 wr => ∃ (k n : Nat), k ≤ len1 ∧ s5 = .int .i64 (k : Int) ∧ w.drewN n = wr ∧ Hid (∀ (j : Nat) (h1 : j < L.length) (h2 : j < M.length), j < k → L[j]'h1 = M[j]'h2)) (fun s5 _ => (len1 - (intOf s5)).toNat)
      case atStart => exact ⟨0, 0, Nat.zero_le _, rfl, rfl, Lib.hid (fun j _ _ h => absurd h (Nat.not_lt_zero j))⟩
      case round =>
        obtain ⟨k, n, hk, rfl, rfl, HK⟩ := hrel
        by_cases hlt : k < len1
        · have l1 : (k : Int) < (len1 : Int) := by omega
          have hj : k < L.length := by rw [HL.out]; exact hlt
          have gj : k < M.length := by rw [GL.out]; exact hlt
          have c1 : (w.drewN n).cell? ⟨b1, off1 + k, none⟩ = some (.string (L[k]'hj)) := HC.out k hj
          have c2 : (w.drewN n).cell? ⟨b2, off2 + k, none⟩ = some (.string (M[k]'gj)) := GC.out k gj
          generalize hwn : w.drewN n = wn at *
          have HWN := Lib.hid hwn
          clear hwn
          cases he : ((L[k]'hj).toList == (M[k]'gj).toList) with
          | true =>
            have HS := Lib.hid (eq_iff.1 he)
            go_wp2_with fail
            go_quiet (fail)
            go_wp2_with fail
            go_roundw
            case rel =>
              refine ⟨k + 1, n + nq, by omega, by go_num, by rw [← HWN.out, World.drewN_drewN], Lib.hid (fun j h1 h2 hj2 => ?_)⟩
              by_cases e : j = k
              · subst e; exact HS.out
              · exact HK.out j h1 h2 (by omega)
            case measure => simp [intOf]; omega
          | false =>
            have HS := Lib.hid (HF.out k hj gj (eq_no.1 he))
            go_wp2_with fail
            go_quiet (fail)
            go_wp2
            go_ret
            exact ⟨by rw [HS.out]; rfl, n + nq, by rw [← HWN.out, World.drewN_drewN]⟩
        · obtain rfl : k = len1 := by omega
          have HS := Lib.hid (HM.out (fun j h h2 => HK.out j h h2 (by rw [← HL.out]; exact h)))
          go_wp2
          go_ret
          exact ⟨by rw [HS.out]; rfl, n, rfl⟩
    · have l1 : ¬ (0 : Int) < (len1 : Int) := by omega
      have HS := Lib.hid (HM.out (fun j h h2 => by rw [HL.out] at h; omega))
      clear ha hb ga gb
      go_enter Tryd.func8, Tryd.ntmps8
      go_wp2_with fail
      refine wp_loop_rounds 1 ?_
      rw [rounds_succ]
      go_wp2
      go_ret
      exact ⟨by rw [HS.out]; rfl, 0, by simp [World.drewN_zero]⟩
  · have k0 : ((len1 : Int) != (len2 : Int)) = true := by simp; omega
    have HS := Lib.hid (show decide (L = M) = false by rw [decide_eq_false_iff_not]; rintro rfl; omega)
    clear ha hb ga gb hcell gcell hl gl hlen
    go_enter Tryd.func8, Tryd.ntmps8
    go_wp2
    go_ret
    exact ⟨by rw [HS.out]; rfl, 0, by simp [World.drewN_zero]⟩
end Go.Proofs.YtflpehpjemlphaaDoor
