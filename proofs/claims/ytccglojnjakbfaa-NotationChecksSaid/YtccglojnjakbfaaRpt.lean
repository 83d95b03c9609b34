/- Contract of layer 19's reference: Print, of proper items. -/
import Derived.Test.YtccglojnjakbfaaPrt
set_option linter.unusedSimpArgs false
set_option linter.unusedVariables false
namespace Go.Proofs.Ytccglojnjakbfaa
open Go.RowKit

set_option maxHeartbeats 4000000 in
set_option maxRecDepth 100000 in
theorem rprint_any {w : World} {a : Option Addr} {b off len cap : Nat} {L : List It} (h : SlX w a b off len cap L) (h0 : chkL L = 0) :
    Calls Try.prog 18 #[.slice a len cap] w fun e w' => e = .returned (.string (bs (prtS L))) ∧ Below w.heap.size w w' := by
  have hl0 := h.hl
  have HS := Lib.hid h
  have hle : len ≤ 9223372036854775807 := by have := h.hcap; have := h.hmax; unfold maxLen at this; omega
  obtain ⟨he, _⟩ := chk_zero h0
  obtain ⟨hln, hgd⟩ := err_zero he
  have HG := Lib.hid hgd
  have hlm : len ≤ 30 := by omega
  have hk1 : (⟨#[32]⟩ : ByteArray).size = 1 := rfl
  have hk2 : (⟨#[60]⟩ : ByteArray).size = 1 := rfl
  have hk3 : (⟨#[63]⟩ : ByteArray).size = 1 := rfl
  have hk4 : (⟨#[42]⟩ : ByteArray).size = 1 := rfl
  have hk5 : (⟨#[43]⟩ : ByteArray).size = 1 := rfl
  clear h he hgd h0 hln
  go_enter Try.func18, Try.ntmps18
  go_wp2_with fail
  go_loopw [3, 4] (fun s3 s4 wr => ∃ (k : Nat) (acc sp : List UInt8), k ≤ len ∧ s4 = .int .i64 (k : Int) ∧ s3 = .string (bs acc) ∧ Hid (Below w.heap.size w wr) ∧ Hid (acc ++ (sp ++ prtS (L.drop k)) = prtS L) ∧ Hid (acc.length ≤ 30 * k) ∧ Hid ((k = 0 ∨ k = len) → sp = []) ∧ Hid (∀ (j : Nat) (hj : j < L.length), k = j + 1 → k < len → sp = if (L[j]'hj).j = true then [] else [32])) (fun _ s4 _ => (len - (intOf s4)).toNat)
  case atStart => exact ⟨0, [], [], Nat.zero_le _, rfl, rfl, Lib.hid (Below.refl _ _), Lib.hid (by simp), Lib.hid (by simp), Lib.hid (fun _ => rfl), Lib.hid (fun j _ h => absurd h (by omega))⟩
  case round =>
    obtain ⟨k, acc, sp, hk, rfl, rfl, HB, HE, HN, HZ, HP⟩ := hrel
    by_cases hlt : k < len
    · have hl : (k : Int) < (len : Int) := by omega
      have hkL : k < L.length := by omega
      have S := HS.out.keep HB.out
      obtain rfl := S.ha (by omega)
      have sb := S.hb (by omega)
      have c0 := S.c0 k hkL
      have c1 := S.c1 k hkL
      have c2 := S.c2 k hkL
      have c3 := S.c3 k hkL
      have c4 := S.c4 k hkL
      obtain ⟨hcode, hd0, hd9⟩ := HG.out _ (List.getElem_mem hkL)
      obtain ⟨_, hcs⟩ := code_size hcode
      have HE2 := Lib.hid (show acc ++ (sp ++ ((L[k]'hkL).c.data.toList ++ (mkL (L[k]'hkL) ++ ((if (L[k]'hkL).j = true then [43] else if k + 1 = L.length then [] else [32]) ++ prtS (L.drop (k + 1)))))) = prtS L by rw [← HE.out, prt_cut hkL])
      have HNX := Lib.hid (show ∀ (j : Nat) (hj : j < L.length), k + 1 = j + 1 → (L[j]'hj).j = (L[k]'hkL).j from fun j hj e => by
        obtain rfl : j = k := by omega
        rfl)
      have hsp : (k = 0 ∧ sp = []) ∨ (1 ≤ k ∧ wr.cell? ⟨b, off + (k - 1) * 5 + 4, none⟩ = some (.bool true) ∧ sp = []) ∨ (1 ≤ k ∧ wr.cell? ⟨b, off + (k - 1) * 5 + 4, none⟩ = some (.bool false) ∧ sp = [32]) := by
        rcases Nat.eq_zero_or_pos k with h0 | h0
        · exact Or.inl ⟨h0, HZ.out (Or.inl h0)⟩
        · have hj : k - 1 < L.length := by omega
          have e1 := HP.out (k - 1) hj (by omega) hlt
          have e2 := S.c4 (k - 1) hj
          refine Or.inr ?_
          cases hq : (L[k - 1]'hj).j with
          | true => rw [hq] at e1 e2; exact Or.inl ⟨by omega, e2, by simpa using e1⟩
          | false => rw [hq] at e1 e2; exact Or.inr ⟨by omega, e2, by simpa using e1⟩
      clear S hcode HE HZ HP
      generalize L[k]'hkL = x at *
      obtain ⟨xc, xd, xr, xv, xj⟩ := x
      simp only at c0 c1 c2 c3 c4 hd0 hd9 hcs HE2 HNX
      obtain ⟨n, rfl⟩ := Int.eq_ofNat_of_zero_le hd0
      have hn9 : n ≤ 9 := by omega
      have HBA := Lib.hid (show Below w.heap.size w (wr.alloc (.cells #[.string xc, .int .i64 n, .bool xr, .bool xv, .bool xj] 49)) from HB.out.alloc HB.out.size _)
      have HIT := Lib.hid (it_new wr ⟨xc, n, xr, xv, xj⟩ 49)
      have HKB := Lib.hid (show ∀ (i : Nat) (v : Value), wr.cell? ⟨b, i, none⟩ = some v → (wr.alloc (.cells #[.string xc, .int .i64 n, .bool xr, .bool xv, .bool xj] 49)).cell? ⟨b, i, none⟩ = some v from fun i v hv => by
        rw [← hv]; exact ((Below.refl _ _).alloc (Nat.le_refl _) _).cell (p := ⟨b, _, none⟩) sb)
      have hps : (bs acc).size ≤ 30 * k := by rw [bs_size]; exact HN.out
      generalize hP : bs acc = P at *
      have HPE := Lib.hid hP
      clear hP hd0 hd9
      have sbV : b < (wr.alloc (.cells #[.string xc, .int .i64 n, .bool xr, .bool xv, .bool xj] 49)).heap.size := by simp; omega
      obtain ⟨z0, z1, z2, z3, z4, zf, zl⟩ := HIT.out
      simp only at z0 z1 z2 z3 z4
      have hPa : P.data.toList = acc := by rw [← HPE.out, bs_data]
      have HPA := Lib.hid hPa
      clear hPa
      rcases hsp with ⟨hk0, hsp⟩ | ⟨hk0, hc, hsp⟩ | ⟨hk0, hc, hsp⟩
      · have HSP := Lib.hid hsp
        have q1 : decide ((k : Int) > 0) = false := decide_eq_false (by omega)
        have q2 : decide (0 < k) = false := decide_eq_false (by omega)
        clear hk0 hsp
        go_wp2_with fail
        go_loop [3, 6] (fun s3 s6 => ∃ (j : Nat) (Q : ByteArray), j ≤ n ∧ s6 = .int .i64 (j : Int) ∧ s3 = .string Q ∧ Hid (Q.data.toList = acc ++ (sp ++ (xc.data.toList ++ List.replicate j 60))) ∧ Q.size ≤ 30 * k + 10 + j) (fun _ s6 => (n - (intOf s6)).toNat)
        case atStart => exact ⟨0, _, Nat.zero_le _, rfl, rfl, Lib.hid (by rw [HSP.out, ← HPA.out]; simp), by rw [ByteArray.size_append]; omega⟩
        case round =>
          obtain ⟨j, Q, hj, rfl, rfl, HQ, hqs⟩ := hrel
          by_cases hjn : j < n
          · have hjl : (j : Int) < (n : Int) := by omega
            go_wp2_with fail
            go_round
            case rel =>
              refine ⟨j + 1, _, by omega, by go_num, rfl, Lib.hid ?_, by rw [ByteArray.size_append, hk2]; omega⟩
              rw [ByteArray.data_append, Array.toList_append, HQ.out, List.replicate_succ']
              simp
            case measure => simp [intOf]; omega
          · obtain rfl : j = n := by omega
            have hjl : ¬ (j : Int) < (j : Int) := by omega
            have r1 : (Q ++ (⟨#[63]⟩ : ByteArray)).size ≤ 30 * k + 20 := by rw [ByteArray.size_append, hk3]; omega
            have r2 : (Q ++ (⟨#[63]⟩ : ByteArray) ++ (⟨#[42]⟩ : ByteArray)).size ≤ 30 * k + 21 := by rw [ByteArray.size_append, hk4]; omega
            have r3 : (Q ++ (⟨#[42]⟩ : ByteArray)).size ≤ 30 * k + 20 := by rw [ByteArray.size_append, hk4]; omega
            have HMK := Lib.hid (show mkL ⟨xc, (j : Int), xr, xv, xj⟩ = List.replicate j 60 ++ ((if xr = true then [63] else []) ++ (if xv = true then [42] else [])) from rfl)
            clear HPE HPA HSP
            obtain ⟨sp', hsp'⟩ : ∃ sp' : List UInt8, sp' = (if xj = true then [] else if k + 1 = L.length then [] else [32]) := ⟨_, rfl⟩
            have HS1 := Lib.hid (show (k + 1 = 0 ∨ k + 1 = len) → sp' = [] from fun h => by
              rw [hsp', if_pos (show k + 1 = L.length by omega)]; split <;> rfl)
            have HS2 := Lib.hid (show ∀ (i : Nat) (hi : i < L.length), k + 1 = i + 1 → k + 1 < len → sp' = if (L[i]'hi).j = true then [] else [32] from fun i hi e h => by
              rw [hsp', HNX.out i hi e, if_neg (show ¬ k + 1 = L.length by omega)])
            have HE3 := Lib.hid (show acc ++ (sp ++ (xc.data.toList ++ (mkL ⟨xc, (j : Int), xr, xv, xj⟩ ++ ((if xj = true then [43] else []) ++ (sp' ++ prtS (L.drop (k + 1))))))) = prtS L by
              rw [← HE2.out, hsp']
              cases xj <;> simp)
            rw [HMK.out] at HE3
            clear hsp' HE2 HMK
            cases xr <;> cases xv <;> cases xj
            all_goals
              go_wp2_with fail
              go_roundw
              case rel =>
                refine ⟨k + 1, _, sp', by omega, by go_num, congrArg Value.string (bs_list _).symm, HBA, Lib.hid ?_, Lib.hid ?_, HS1, HS2⟩
                · rw [← HE3.out]
                  simp [HQ.out]
                · rw [list_size]
                  try simp only [ByteArray.size_append, hk3, hk4, hk5]
                  omega
              case measure => simp [intOf]; omega
      · have HSP := Lib.hid hsp
        have q1 : decide ((k : Int) > 0) = true := decide_eq_true (by omega)
        have q2 : decide (0 < k) = true := decide_eq_true (by omega)
        have q3 : (k : Int) - 1 = ((k - 1 : Nat) : Int) := by omega
        have q6 : (k : Int) - 1 < (len : Int) := by omega
        have q7 : 0 ≤ (k : Int) - 1 := by omega
        have q4 : IntKind.i64.wrap ((k : Int) - 1) = (k : Int) - 1 := IntWalk.i64_in _ (by omega)
        have hcV := HKB.out _ _ hc
        have HQ3 := Lib.hid q3
        clear q3
        clear hk0 hsp
        go_wp2_with fail
        go_loop [3, 6] (fun s3 s6 => ∃ (j : Nat) (Q : ByteArray), j ≤ n ∧ s6 = .int .i64 (j : Int) ∧ s3 = .string Q ∧ Hid (Q.data.toList = acc ++ (sp ++ (xc.data.toList ++ List.replicate j 60))) ∧ Q.size ≤ 30 * k + 10 + j) (fun _ s6 => (n - (intOf s6)).toNat)
        case atStart => exact ⟨0, _, Nat.zero_le _, rfl, rfl, Lib.hid (by rw [HSP.out, ← HPA.out]; simp), by rw [ByteArray.size_append]; omega⟩
        case round =>
          obtain ⟨j, Q, hj, rfl, rfl, HQ, hqs⟩ := hrel
          by_cases hjn : j < n
          · have hjl : (j : Int) < (n : Int) := by omega
            go_wp2_with fail
            go_round
            case rel =>
              refine ⟨j + 1, _, by omega, by go_num, rfl, Lib.hid ?_, by rw [ByteArray.size_append, hk2]; omega⟩
              rw [ByteArray.data_append, Array.toList_append, HQ.out, List.replicate_succ']
              simp
            case measure => simp [intOf]; omega
          · obtain rfl : j = n := by omega
            have hjl : ¬ (j : Int) < (j : Int) := by omega
            have r1 : (Q ++ (⟨#[63]⟩ : ByteArray)).size ≤ 30 * k + 20 := by rw [ByteArray.size_append, hk3]; omega
            have r2 : (Q ++ (⟨#[63]⟩ : ByteArray) ++ (⟨#[42]⟩ : ByteArray)).size ≤ 30 * k + 21 := by rw [ByteArray.size_append, hk4]; omega
            have r3 : (Q ++ (⟨#[42]⟩ : ByteArray)).size ≤ 30 * k + 20 := by rw [ByteArray.size_append, hk4]; omega
            have HMK := Lib.hid (show mkL ⟨xc, (j : Int), xr, xv, xj⟩ = List.replicate j 60 ++ ((if xr = true then [63] else []) ++ (if xv = true then [42] else [])) from rfl)
            clear HPE HPA HSP
            obtain ⟨sp', hsp'⟩ : ∃ sp' : List UInt8, sp' = (if xj = true then [] else if k + 1 = L.length then [] else [32]) := ⟨_, rfl⟩
            have HS1 := Lib.hid (show (k + 1 = 0 ∨ k + 1 = len) → sp' = [] from fun h => by
              rw [hsp', if_pos (show k + 1 = L.length by omega)]; split <;> rfl)
            have HS2 := Lib.hid (show ∀ (i : Nat) (hi : i < L.length), k + 1 = i + 1 → k + 1 < len → sp' = if (L[i]'hi).j = true then [] else [32] from fun i hi e h => by
              rw [hsp', HNX.out i hi e, if_neg (show ¬ k + 1 = L.length by omega)])
            have HE3 := Lib.hid (show acc ++ (sp ++ (xc.data.toList ++ (mkL ⟨xc, (j : Int), xr, xv, xj⟩ ++ ((if xj = true then [43] else []) ++ (sp' ++ prtS (L.drop (k + 1))))))) = prtS L by
              rw [← HE2.out, hsp']
              cases xj <;> simp)
            rw [HMK.out] at HE3
            clear hsp' HE2 HMK
            cases xr <;> cases xv <;> cases xj
            all_goals
              go_wp2_with fail
              go_roundw
              case rel =>
                refine ⟨k + 1, _, sp', by omega, by go_num, congrArg Value.string (bs_list _).symm, HBA, Lib.hid ?_, Lib.hid ?_, HS1, HS2⟩
                · rw [← HE3.out]
                  simp [HQ.out]
                · rw [list_size]
                  try simp only [ByteArray.size_append, hk3, hk4, hk5]
                  omega
              case measure => simp [intOf]; omega
      · have HSP := Lib.hid hsp
        have q1 : decide ((k : Int) > 0) = true := decide_eq_true (by omega)
        have q2 : decide (0 < k) = true := decide_eq_true (by omega)
        have q3 : (k : Int) - 1 = ((k - 1 : Nat) : Int) := by omega
        have q6 : (k : Int) - 1 < (len : Int) := by omega
        have q7 : 0 ≤ (k : Int) - 1 := by omega
        have q4 : IntKind.i64.wrap ((k : Int) - 1) = (k : Int) - 1 := IntWalk.i64_in _ (by omega)
        have hcV := HKB.out _ _ hc
        have HQ3 := Lib.hid q3
        clear q3
        have q8 : (P ++ (⟨#[32]⟩ : ByteArray)).size ≤ 30 * k + 1 := by rw [ByteArray.size_append, hk1]; omega
        clear hk0 hsp
        go_wp2_with fail
        go_loop [3, 6] (fun s3 s6 => ∃ (j : Nat) (Q : ByteArray), j ≤ n ∧ s6 = .int .i64 (j : Int) ∧ s3 = .string Q ∧ Hid (Q.data.toList = acc ++ (sp ++ (xc.data.toList ++ List.replicate j 60))) ∧ Q.size ≤ 30 * k + 10 + j) (fun _ s6 => (n - (intOf s6)).toNat)
        case atStart => exact ⟨0, _, Nat.zero_le _, rfl, rfl, Lib.hid (by rw [HSP.out, ← HPA.out]; simp), by rw [ByteArray.size_append, ByteArray.size_append, hk1]; omega⟩
        case round =>
          obtain ⟨j, Q, hj, rfl, rfl, HQ, hqs⟩ := hrel
          by_cases hjn : j < n
          · have hjl : (j : Int) < (n : Int) := by omega
            go_wp2_with fail
            go_round
            case rel =>
              refine ⟨j + 1, _, by omega, by go_num, rfl, Lib.hid ?_, by rw [ByteArray.size_append, hk2]; omega⟩
              rw [ByteArray.data_append, Array.toList_append, HQ.out, List.replicate_succ']
              simp
            case measure => simp [intOf]; omega
          · obtain rfl : j = n := by omega
            have hjl : ¬ (j : Int) < (j : Int) := by omega
            have r1 : (Q ++ (⟨#[63]⟩ : ByteArray)).size ≤ 30 * k + 20 := by rw [ByteArray.size_append, hk3]; omega
            have r2 : (Q ++ (⟨#[63]⟩ : ByteArray) ++ (⟨#[42]⟩ : ByteArray)).size ≤ 30 * k + 21 := by rw [ByteArray.size_append, hk4]; omega
            have r3 : (Q ++ (⟨#[42]⟩ : ByteArray)).size ≤ 30 * k + 20 := by rw [ByteArray.size_append, hk4]; omega
            have HMK := Lib.hid (show mkL ⟨xc, (j : Int), xr, xv, xj⟩ = List.replicate j 60 ++ ((if xr = true then [63] else []) ++ (if xv = true then [42] else [])) from rfl)
            clear HPE HPA HSP
            obtain ⟨sp', hsp'⟩ : ∃ sp' : List UInt8, sp' = (if xj = true then [] else if k + 1 = L.length then [] else [32]) := ⟨_, rfl⟩
            have HS1 := Lib.hid (show (k + 1 = 0 ∨ k + 1 = len) → sp' = [] from fun h => by
              rw [hsp', if_pos (show k + 1 = L.length by omega)]; split <;> rfl)
            have HS2 := Lib.hid (show ∀ (i : Nat) (hi : i < L.length), k + 1 = i + 1 → k + 1 < len → sp' = if (L[i]'hi).j = true then [] else [32] from fun i hi e h => by
              rw [hsp', HNX.out i hi e, if_neg (show ¬ k + 1 = L.length by omega)])
            have HE3 := Lib.hid (show acc ++ (sp ++ (xc.data.toList ++ (mkL ⟨xc, (j : Int), xr, xv, xj⟩ ++ ((if xj = true then [43] else []) ++ (sp' ++ prtS (L.drop (k + 1))))))) = prtS L by
              rw [← HE2.out, hsp']
              cases xj <;> simp)
            rw [HMK.out] at HE3
            clear hsp' HE2 HMK
            cases xr <;> cases xv <;> cases xj
            all_goals
              go_wp2_with fail
              go_roundw
              case rel =>
                refine ⟨k + 1, _, sp', by omega, by go_num, congrArg Value.string (bs_list _).symm, HBA, Lib.hid ?_, Lib.hid ?_, HS1, HS2⟩
                · rw [← HE3.out]
                  simp [HQ.out]
                · rw [list_size]
                  try simp only [ByteArray.size_append, hk3, hk4, hk5]
                  omega
              case measure => simp [intOf]; omega
    · obtain rfl : k = len := by omega
      have hl : ¬ (k : Int) < (k : Int) := by omega
      have HE2 := Lib.hid (show acc = prtS L by
        have := HE.out
        rw [List.drop_eq_nil_of_le (by omega), HZ.out (Or.inr rfl)] at this
        simpa [prtS] using this)
      go_wp2_with fail
      go_ret
      exact ⟨by rw [HE2.out]; rfl, HB.out⟩
end Go.Proofs.Ytccglojnjakbfaa
