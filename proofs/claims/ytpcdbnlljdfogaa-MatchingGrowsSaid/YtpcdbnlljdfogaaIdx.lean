/- The indices that a condition selects. -/
import Derived.Test.YtpcdbnlljdfogaaUse
set_option linter.unusedSimpArgs false
set_option linter.unusedVariables false
namespace Go.Proofs.Ytpcdbnlljdfogaa
open Go.RowKit

def selN (p : Nat → Bool) (n : Nat) : List Int := ((List.range n).filter p).map (fun (i : Nat) => (i : Int))
theorem selN_succ (p : Nat → Bool) (n : Nat) : selN p (n + 1) = selN p n ++ (if p n = true then [(n : Int)] else []) := by
  unfold selN
  rw [List.range_succ, List.filter_append, List.map_append]
  congr 1
  by_cases h : p n = true
  · simp [h]
  · simp [h]
theorem selN_len (p : Nat → Bool) (n : Nat) : (selN p n).length ≤ n := by
  unfold selN
  rw [List.length_map]
  exact Nat.le_trans (List.length_filter_le _ _) (by simp)
set_option maxHeartbeats 2000000 in
set_option maxRecDepth 100000 in
theorem idxA_any (p : Nat → Bool) (a : Option Addr) (len cap : Nat) (w : World) (bb : Nat) (hlen : len ≤ 1000000)
    (hp : ∀ (i : Nat) (W : World), i < len → Below w.heap.size w W → Calls Try.prog 45 #[.int .i64 (i : Int), .pointer (some ⟨bb, 0, none⟩)] W fun e w' => e = .returned (.bool (p i)) ∧ W = w') :
    Calls Try.prog 44 #[.slice a len cap, .func (.func 45) #[] #[.pointer (some ⟨bb, 0, none⟩)]] w fun e w' => ∃ v, e = .returned v ∧ OwI w' w.heap.size v (selN p len).length (selN p len) ∧ Below w.heap.size w w' := by
  have HP := Lib.hid hp
  clear hp
  obtain ⟨i0, hi0, hz0, hz1, hz2⟩ := info_parts infoI
  obtain ⟨S, hS⟩ : ∃ S, S = selN p len := ⟨_, rfl⟩
  rw [← hS]
  have HS := Lib.hid hS
  clear hS
  go_enter Try.func44, Try.ntmps44
  go_wp2_with fail
  go_loopw [5, 6, 9] (fun s5 _ s9 wq => ∃ (k : Nat) (v : Value) (L : List Int), k ≤ len ∧ s5 = v ∧ s9 = .int .i64 (k : Int) ∧ Hid (L = selN p k) ∧ Hid (OwI wq w.heap.size v L.length L) ∧ Hid (Below w.heap.size w wq)) (fun _ _ s9 _ => (len - (intOf s9)).toNat)
  case atStart => exact ⟨0, _, [], Nat.zero_le _, rfl, rfl, Lib.hid rfl, Lib.hid (World.ownsRow_nil _ _ _ _), Lib.hid (Below.refl _ _)⟩
  case round =>
    obtain ⟨k, v, L, hk, hv, rfl, HL, HO, HB⟩ := hrel
    subst hv
    have hll : L.length ≤ k := by rw [HL.out]; exact selN_len _ _
    by_cases hlt : k < len
    · have hlz : (k : Int) < (len : Int) := by omega
      have HC := Lib.hid (HP.out k wr hlt HB.out)
      have HSu := Lib.hid (selN_succ p k)
      have hww := HB.out.size
      cases hpk : p k with
      | false =>
        have HN := Lib.hid (show L = selN p (k + 1) by rw [HSu.out, hpk, HL.out]; simp)
        rw [hpk] at HC
        clear hpk
        go_wp2_with fail
        refine HC.out.mono ?_
        rintro e w1 ⟨rfl, rfl⟩
        go_wp2_with fail
        go_roundw
        case rel => exact ⟨k + 1, _, L, by omega, rfl, by go_num, HN, HO, HB⟩
        case measure => simp [intOf]; omega
      | true =>
        have HN := Lib.hid (show L ++ [(k : Int)] = selN p (k + 1) by rw [HSu.out, hpk, HL.out]; simp)
        rw [hpk] at HC
        clear hpk
        have HQ := Lib.hid (World.ownsRow.alloc HO.out (.cells #[.int .i64 (k : Int)] 3))
        have HBl := Lib.hid (HB.out.alloc hww (.cells #[.int .i64 (k : Int)] 3))
        have hob := fun kk hk => (World.ownsRow.lt HO.out kk hk).1
        go_wp2_with fail
        refine HC.out.mono ?_
        rintro e w1 ⟨rfl, rfl⟩
        go_wp2_with (first | (at_builtin; refine wpList_append_evry _ rfl _ _ 22 rfl w.heap.size 3 i0 (.int .i64 0) 1 8 Try.underlying22 hi0 hz0 hz1 hz2 rfl (by decide) _ _ _ rfl HQ.out (some ⟨wr.heap.size, 0, none⟩) 1 1 [.int .i64 (k : Int)] rfl ?qc1 ?qc2 ?qc3 ?qc4 ?qc5 ?qc6 ?qc7 ?_) | go_in)
        case qc1 => simp
        case qc2 => exact fun h => by cases h
        case qc3 =>
          intro ad ha jj u hu
          obtain rfl := Option.some.inj ha
          cases jj with
          | zero => simp at hu; subst hu; rw [Addr.add_lit]; simp [go_sem]
          | succ jj => simp at hu
        case qc4 => intro u hu; simp at hu; subst hu; rfl
        case qc5 => unfold maxLen; omega
        case qc6 => omega
        case qc7 => simp; omega
        intro v7 w7 hown hgrow
        have HO7 := Lib.hid (show OwI w7 w.heap.size v7 (L ++ [(k : Int)]).length (L ++ [(k : Int)]) by
          have e : (L ++ [(k : Int)]).map (Value.int .i64) = L.map (Value.int .i64) ++ [.int .i64 (k : Int)] := by simp
          show w7.ownsRow _ _ _ _ _ ((L ++ [(k : Int)]).map (Value.int .i64))
          rw [e, List.length_append]
          exact hown)
        have HB7 := Lib.hid (HBl.out.grown hgrow HBl.out.size (fun kk hk => hob kk hk))
        clear hown hgrow HQ HBl hob
        go_wp2_with fail
        go_roundw
        case rel => exact ⟨k + 1, v7, _, by omega, rfl, by go_num, HN, HO7, HB7⟩
        case measure => simp [intOf]; omega
    · have hlz : ¬ (k : Int) < (len : Int) := by omega
      obtain rfl : k = len := by omega
      obtain ⟨L2, hL2⟩ : ∃ L2, L2 = L := ⟨_, rfl⟩
      have HF := Lib.hid (show L = S by rw [HS.out, HL.out])
      have HOf := Lib.hid (HF.out ▸ HO.out)
      go_wp2_with fail
      go_ret
      exact ⟨_, rfl, HOf.out, HB.out⟩
set_option maxHeartbeats 2000000 in
set_option maxRecDepth 100000 in
theorem idxB_any (p : Nat → Bool) (a : Option Addr) (len cap : Nat) (w : World) (bb gb : Nat) (hlen : len ≤ 1000000)
    (hp : ∀ (i : Nat) (W : World), i < len → Below w.heap.size w W → Calls Try.prog 46 #[.int .i64 (i : Int), .pointer (some ⟨bb, 0, none⟩), .pointer (some ⟨gb, 0, none⟩)] W fun e w' => e = .returned (.bool (p i)) ∧ W = w') :
    Calls Try.prog 44 #[.slice a len cap, .func (.func 46) #[] #[.pointer (some ⟨bb, 0, none⟩), .pointer (some ⟨gb, 0, none⟩)]] w fun e w' => ∃ v, e = .returned v ∧ OwI w' w.heap.size v (selN p len).length (selN p len) ∧ Below w.heap.size w w' := by
  have HP := Lib.hid hp
  clear hp
  obtain ⟨i0, hi0, hz0, hz1, hz2⟩ := info_parts infoI
  obtain ⟨S, hS⟩ : ∃ S, S = selN p len := ⟨_, rfl⟩
  rw [← hS]
  have HS := Lib.hid hS
  clear hS
  go_enter Try.func44, Try.ntmps44
  go_wp2_with fail
  go_loopw [5, 6, 9] (fun s5 _ s9 wq => ∃ (k : Nat) (v : Value) (L : List Int), k ≤ len ∧ s5 = v ∧ s9 = .int .i64 (k : Int) ∧ Hid (L = selN p k) ∧ Hid (OwI wq w.heap.size v L.length L) ∧ Hid (Below w.heap.size w wq)) (fun _ _ s9 _ => (len - (intOf s9)).toNat)
  case atStart => exact ⟨0, _, [], Nat.zero_le _, rfl, rfl, Lib.hid rfl, Lib.hid (World.ownsRow_nil _ _ _ _), Lib.hid (Below.refl _ _)⟩
  case round =>
    obtain ⟨k, v, L, hk, hv, rfl, HL, HO, HB⟩ := hrel
    subst hv
    have hll : L.length ≤ k := by rw [HL.out]; exact selN_len _ _
    by_cases hlt : k < len
    · have hlz : (k : Int) < (len : Int) := by omega
      have HC := Lib.hid (HP.out k wr hlt HB.out)
      have HSu := Lib.hid (selN_succ p k)
      have hww := HB.out.size
      cases hpk : p k with
      | false =>
        have HN := Lib.hid (show L = selN p (k + 1) by rw [HSu.out, hpk, HL.out]; simp)
        rw [hpk] at HC
        clear hpk
        go_wp2_with fail
        refine HC.out.mono ?_
        rintro e w1 ⟨rfl, rfl⟩
        go_wp2_with fail
        go_roundw
        case rel => exact ⟨k + 1, _, L, by omega, rfl, by go_num, HN, HO, HB⟩
        case measure => simp [intOf]; omega
      | true =>
        have HN := Lib.hid (show L ++ [(k : Int)] = selN p (k + 1) by rw [HSu.out, hpk, HL.out]; simp)
        rw [hpk] at HC
        clear hpk
        have HQ := Lib.hid (World.ownsRow.alloc HO.out (.cells #[.int .i64 (k : Int)] 3))
        have HBl := Lib.hid (HB.out.alloc hww (.cells #[.int .i64 (k : Int)] 3))
        have hob := fun kk hk => (World.ownsRow.lt HO.out kk hk).1
        go_wp2_with fail
        refine HC.out.mono ?_
        rintro e w1 ⟨rfl, rfl⟩
        go_wp2_with (first | (at_builtin; refine wpList_append_evry _ rfl _ _ 22 rfl w.heap.size 3 i0 (.int .i64 0) 1 8 Try.underlying22 hi0 hz0 hz1 hz2 rfl (by decide) _ _ _ rfl HQ.out (some ⟨wr.heap.size, 0, none⟩) 1 1 [.int .i64 (k : Int)] rfl ?qc1 ?qc2 ?qc3 ?qc4 ?qc5 ?qc6 ?qc7 ?_) | go_in)
        case qc1 => simp
        case qc2 => exact fun h => by cases h
        case qc3 =>
          intro ad ha jj u hu
          obtain rfl := Option.some.inj ha
          cases jj with
          | zero => simp at hu; subst hu; rw [Addr.add_lit]; simp [go_sem]
          | succ jj => simp at hu
        case qc4 => intro u hu; simp at hu; subst hu; rfl
        case qc5 => unfold maxLen; omega
        case qc6 => omega
        case qc7 => simp; omega
        intro v7 w7 hown hgrow
        have HO7 := Lib.hid (show OwI w7 w.heap.size v7 (L ++ [(k : Int)]).length (L ++ [(k : Int)]) by
          have e : (L ++ [(k : Int)]).map (Value.int .i64) = L.map (Value.int .i64) ++ [.int .i64 (k : Int)] := by simp
          show w7.ownsRow _ _ _ _ _ ((L ++ [(k : Int)]).map (Value.int .i64))
          rw [e, List.length_append]
          exact hown)
        have HB7 := Lib.hid (HBl.out.grown hgrow HBl.out.size (fun kk hk => hob kk hk))
        clear hown hgrow HQ HBl hob
        go_wp2_with fail
        go_roundw
        case rel => exact ⟨k + 1, v7, _, by omega, rfl, by go_num, HN, HO7, HB7⟩
        case measure => simp [intOf]; omega
    · have hlz : ¬ (k : Int) < (len : Int) := by omega
      obtain rfl : k = len := by omega
      obtain ⟨L2, hL2⟩ : ∃ L2, L2 = L := ⟨_, rfl⟩
      have HF := Lib.hid (show L = S by rw [HS.out, HL.out])
      have HOf := Lib.hid (HF.out ▸ HO.out)
      go_wp2_with fail
      go_ret
      exact ⟨_, rfl, HOf.out, HB.out⟩
set_option maxHeartbeats 2000000 in
set_option maxRecDepth 100000 in
theorem idxC_any (p : Nat → Bool) (a : Option Addr) (len cap : Nat) (w : World) (cb : Nat) (hlen : len ≤ 1000000)
    (hp : ∀ (i : Nat) (W : World), i < len → Below w.heap.size w W → Calls Try.prog 47 #[.int .i64 (i : Int), .pointer (some ⟨cb, 0, none⟩)] W fun e w' => e = .returned (.bool (p i)) ∧ W = w') :
    Calls Try.prog 44 #[.slice a len cap, .func (.func 47) #[] #[.pointer (some ⟨cb, 0, none⟩)]] w fun e w' => ∃ v, e = .returned v ∧ OwI w' w.heap.size v (selN p len).length (selN p len) ∧ Below w.heap.size w w' := by
  have HP := Lib.hid hp
  clear hp
  obtain ⟨i0, hi0, hz0, hz1, hz2⟩ := info_parts infoI
  obtain ⟨S, hS⟩ : ∃ S, S = selN p len := ⟨_, rfl⟩
  rw [← hS]
  have HS := Lib.hid hS
  clear hS
  go_enter Try.func44, Try.ntmps44
  go_wp2_with fail
  go_loopw [5, 6, 9] (fun s5 _ s9 wq => ∃ (k : Nat) (v : Value) (L : List Int), k ≤ len ∧ s5 = v ∧ s9 = .int .i64 (k : Int) ∧ Hid (L = selN p k) ∧ Hid (OwI wq w.heap.size v L.length L) ∧ Hid (Below w.heap.size w wq)) (fun _ _ s9 _ => (len - (intOf s9)).toNat)
  case atStart => exact ⟨0, _, [], Nat.zero_le _, rfl, rfl, Lib.hid rfl, Lib.hid (World.ownsRow_nil _ _ _ _), Lib.hid (Below.refl _ _)⟩
  case round =>
    obtain ⟨k, v, L, hk, hv, rfl, HL, HO, HB⟩ := hrel
    subst hv
    have hll : L.length ≤ k := by rw [HL.out]; exact selN_len _ _
    by_cases hlt : k < len
    · have hlz : (k : Int) < (len : Int) := by omega
      have HC := Lib.hid (HP.out k wr hlt HB.out)
      have HSu := Lib.hid (selN_succ p k)
      have hww := HB.out.size
      cases hpk : p k with
      | false =>
        have HN := Lib.hid (show L = selN p (k + 1) by rw [HSu.out, hpk, HL.out]; simp)
        rw [hpk] at HC
        clear hpk
        go_wp2_with fail
        refine HC.out.mono ?_
        rintro e w1 ⟨rfl, rfl⟩
        go_wp2_with fail
        go_roundw
        case rel => exact ⟨k + 1, _, L, by omega, rfl, by go_num, HN, HO, HB⟩
        case measure => simp [intOf]; omega
      | true =>
        have HN := Lib.hid (show L ++ [(k : Int)] = selN p (k + 1) by rw [HSu.out, hpk, HL.out]; simp)
        rw [hpk] at HC
        clear hpk
        have HQ := Lib.hid (World.ownsRow.alloc HO.out (.cells #[.int .i64 (k : Int)] 3))
        have HBl := Lib.hid (HB.out.alloc hww (.cells #[.int .i64 (k : Int)] 3))
        have hob := fun kk hk => (World.ownsRow.lt HO.out kk hk).1
        go_wp2_with fail
        refine HC.out.mono ?_
        rintro e w1 ⟨rfl, rfl⟩
        go_wp2_with (first | (at_builtin; refine wpList_append_evry _ rfl _ _ 22 rfl w.heap.size 3 i0 (.int .i64 0) 1 8 Try.underlying22 hi0 hz0 hz1 hz2 rfl (by decide) _ _ _ rfl HQ.out (some ⟨wr.heap.size, 0, none⟩) 1 1 [.int .i64 (k : Int)] rfl ?qc1 ?qc2 ?qc3 ?qc4 ?qc5 ?qc6 ?qc7 ?_) | go_in)
        case qc1 => simp
        case qc2 => exact fun h => by cases h
        case qc3 =>
          intro ad ha jj u hu
          obtain rfl := Option.some.inj ha
          cases jj with
          | zero => simp at hu; subst hu; rw [Addr.add_lit]; simp [go_sem]
          | succ jj => simp at hu
        case qc4 => intro u hu; simp at hu; subst hu; rfl
        case qc5 => unfold maxLen; omega
        case qc6 => omega
        case qc7 => simp; omega
        intro v7 w7 hown hgrow
        have HO7 := Lib.hid (show OwI w7 w.heap.size v7 (L ++ [(k : Int)]).length (L ++ [(k : Int)]) by
          have e : (L ++ [(k : Int)]).map (Value.int .i64) = L.map (Value.int .i64) ++ [.int .i64 (k : Int)] := by simp
          show w7.ownsRow _ _ _ _ _ ((L ++ [(k : Int)]).map (Value.int .i64))
          rw [e, List.length_append]
          exact hown)
        have HB7 := Lib.hid (HBl.out.grown hgrow HBl.out.size (fun kk hk => hob kk hk))
        clear hown hgrow HQ HBl hob
        go_wp2_with fail
        go_roundw
        case rel => exact ⟨k + 1, v7, _, by omega, rfl, by go_num, HN, HO7, HB7⟩
        case measure => simp [intOf]; omega
    · have hlz : ¬ (k : Int) < (len : Int) := by omega
      obtain rfl : k = len := by omega
      obtain ⟨L2, hL2⟩ : ∃ L2, L2 = L := ⟨_, rfl⟩
      have HF := Lib.hid (show L = S by rw [HS.out, HL.out])
      have HOf := Lib.hid (HF.out ▸ HO.out)
      go_wp2_with fail
      go_ret
      exact ⟨_, rfl, HOf.out, HB.out⟩
end Go.Proofs.Ytpcdbnlljdfogaa
