/- Contracts of layer 19's reference: shapes and Check; small. -/
import Derived.Test.YtlleebgkglbelaaChx
set_option linter.unusedSimpArgs false
set_option linter.unusedVariables false
namespace Go.Proofs.Ytlleebgkglbelaa
open Go.RowKit

set_option maxHeartbeats 1000000 in
set_option maxRecDepth 100000 in
theorem rshapes_any {w : World} {a : Option Addr} {b off len cap : Nat} {L : List It} (h : SlX w a b off len cap L) (hf : fitC L) :
    Calls Try.prog 37 #[.slice a len cap] w fun e w' => e = .returned (.int .i64 (errE L)) ∧ w = w' := by
  have hl0 := h.hl
  have HF := Lib.hid hf
  have hle : len ≤ 9223372036854775807 := by have := h.hcap; have := h.hmax; unfold maxLen at this; omega
  have HS := Lib.hid h
  clear hf h
  by_cases h30 : L.length > 30
  · have HR := Lib.hid (show errE L = 6 by unfold errE; rw [if_pos h30])
    have k1 : decide ((len : Int) > 30) = true := decide_eq_true (by omega)
    go_enter Try.func37, Try.ntmps37
    go_wp2_with fail
    go_ret
    exact ⟨by rw [HR.out]; rfl, rfl⟩
  · have k1 : decide ((len : Int) > 30) = false := decide_eq_false (by omega)
    have HE := Lib.hid (show errE L = if L.any badC = true then 3 else if L.any badD = true then 5 else 0 by unfold errE; rw [if_neg h30])
    clear h30
    go_enter Try.func37, Try.ntmps37
    go_wp2_with fail
    go_loop [3] (fun s3 => ∃ k : Nat, k ≤ len ∧ s3 = .int .i64 (k : Int) ∧ Hid (∀ (i : Nat) (h : i < L.length), i < k → badC (L[i]'h) = false)) (fun s3 => (len - (intOf s3)).toNat)
    case atStart => exact ⟨0, Nat.zero_le _, rfl, Lib.hid (fun i _ h => absurd h (Nat.not_lt_zero i))⟩
    case round =>
      obtain ⟨k, hk, rfl, HK⟩ := hrel
      by_cases hlt : k < len
      · have hl : (k : Int) < (len : Int) := by omega
        have hkL : k < L.length := by omega
        obtain rfl := HS.out.ha (by omega)
        have sb := HS.out.hb (by omega)
        have c0 := HS.out.c0 k hkL
        have HX := Lib.hid (rcode_any (L[k]'hkL).c (HF.out k hkL))
        have HB := Lib.hid (show badC (L[k]'hkL) = !codeS (L[k]'hkL).c from rfl)
        generalize (L[k]'hkL).c = x at c0 HX HB
        cases hc : codeS x with
        | true =>
          rw [hc] at HX HB
          clear hc
          go_wp2_with fail
          refine (HX.out _).mono ?_
          rintro e w1 ⟨rfl, rfl⟩
          go_wp2_with fail
          go_round
          case rel =>
            refine ⟨k + 1, by omega, by go_num, Lib.hid (fun i h hi => ?_)⟩
            by_cases e : i = k
            · subst e; exact HB.out
            · exact HK.out i h (by omega)
          case measure => simp [intOf]; omega
        | false =>
          rw [hc] at HX HB
          have HR := Lib.hid (show errE L = 3 by rw [HE.out, if_pos (any_get hkL HB.out)])
          clear hc
          go_wp2_with fail
          refine (HX.out _).mono ?_
          rintro e w1 ⟨rfl, rfl⟩
          go_wp2_with fail
          go_ret
          exact ⟨by rw [HR.out]; rfl, rfl⟩
      · obtain rfl : k = len := by omega
        have hl : ¬ (k : Int) < (k : Int) := by omega
        have HE2 := Lib.hid (show errE L = if L.any badD = true then 5 else 0 by rw [HE.out, any_no (fun i hi => HK.out i hi (by omega))]; rfl)
        clear HE HK
        go_wp2_with fail
        go_loop [4] (fun s4 => ∃ i : Nat, i ≤ k ∧ s4 = .int .i64 (i : Int) ∧ Hid (∀ (j : Nat) (h : j < L.length), j < i → badD (L[j]'h) = false)) (fun s4 => (k - (intOf s4)).toNat)
        case atStart => exact ⟨0, Nat.zero_le _, rfl, Lib.hid (fun i _ h => absurd h (Nat.not_lt_zero i))⟩
        case round =>
          obtain ⟨i, hi, rfl, HK⟩ := hrel
          by_cases hlt : i < k
          · have hl : (i : Int) < (k : Int) := by omega
            have hiL : i < L.length := by omega
            obtain rfl := HS.out.ha (by omega)
            have sb := HS.out.hb (by omega)
            have c1 := HS.out.c1 i hiL
            have HB := Lib.hid (show badD (L[i]'hiL) = (decide ((L[i]'hiL).d < 0) || decide ((L[i]'hiL).d > 9)) from rfl)
            generalize (L[i]'hiL).d = x at c1 HB
            by_cases h1 : x < 0
            · have k2 : decide (x < 0) = true := decide_eq_true h1
              have HR := Lib.hid (show errE L = 5 by rw [HE2.out, if_pos (any_get hiL (by rw [HB.out, k2]; rfl))])
              go_wp2_with fail
              go_ret
              exact ⟨by rw [HR.out]; rfl, rfl⟩
            · have k2 : decide (x < 0) = false := decide_eq_false h1
              by_cases h2 : x > 9
              · have k3 : decide (x > 9) = true := decide_eq_true h2
                have HR := Lib.hid (show errE L = 5 by rw [HE2.out, if_pos (any_get hiL (by rw [HB.out, k2, k3]; rfl))])
                go_wp2_with fail
                go_ret
                exact ⟨by rw [HR.out]; rfl, rfl⟩
              · have k3 : decide (x > 9) = false := decide_eq_false h2
                have HB2 := Lib.hid (show badD (L[i]'hiL) = false by rw [HB.out, k2, k3]; rfl)
                go_wp2_with fail
                go_round
                case rel =>
                  refine ⟨i + 1, by omega, by go_num, Lib.hid (fun j h hj => ?_)⟩
                  by_cases e : j = i
                  · subst e; exact HB2.out
                  · exact HK.out j h (by omega)
                case measure => simp [intOf]; omega
          · obtain rfl : i = k := by omega
            have hl : ¬ (i : Int) < (i : Int) := by omega
            have HR := Lib.hid (show errE L = 0 by rw [HE2.out, any_no (fun j hj => HK.out j hj (by omega))]; rfl)
            go_wp2_with fail
            go_ret
            exact ⟨by rw [HR.out]; rfl, rfl⟩
set_option maxHeartbeats 1000000 in
set_option maxRecDepth 100000 in
theorem rcheck_any {w : World} {a : Option Addr} {b off len cap : Nat} {L : List It} (h : SlX w a b off len cap L) (hf : fitC L) :
    Calls Try.prog 20 #[.slice a len cap] w fun e w' => e = .returned (.int .i64 (chkL L)) ∧ w = w' := by
  have hl0 := h.hl
  have HA := Lib.hid (rshapes_any h hf)
  have HS := Lib.hid h
  have hle : len ≤ 9223372036854775807 := by have := h.hcap; have := h.hmax; unfold maxLen at this; omega
  clear h hf
  obtain ⟨r, hr⟩ : ∃ r, errE L = r := ⟨_, rfl⟩
  have HR : chkL L = if r = 0 then (if lastJ L = true then 15 else 0) else r := by unfold chkL; rw [hr]
  rw [HR]
  rw [hr] at HA
  clear HR
  by_cases h0 : r = 0
  · subst h0
    rw [if_pos rfl]
    clear hr
    by_cases hn : 0 < len
    · have hn' : L.length - 1 < L.length := by omega
      have hJ := lastJ_at (L := L) (by omega)
      obtain ⟨x, hx⟩ : ∃ x, L[L.length - 1]'hn' = x := ⟨_, rfl⟩
      rw [hx] at hJ
      have HX := Lib.hid hx
      clear hx
      rw [hJ]
      clear hJ
      obtain ⟨q, hq⟩ : ∃ q, x.j = q := ⟨_, rfl⟩
      have HJ := Lib.hid hq
      rw [hq]
      obtain ⟨z, hz⟩ : ∃ z, (if q = true then (15 : Int) else 0) = z := ⟨_, rfl⟩
      have HR := Lib.hid hz
      rw [hz]
      clear hz hq
      obtain ⟨n1, hn1⟩ : ∃ n1, len = n1 + 1 := ⟨len - 1, by omega⟩
      have HN := Lib.hid hn1
      have g1 : decide ((len : Int) > 0) = true := decide_eq_true (by omega)
      have g2 : decide (0 < len) = true := decide_eq_true hn
      have g3 : (len : Int) - 1 = (n1 : Int) := by omega
      have g4 : (n1 : Int) < (len : Int) := by omega
      have g5 : IntKind.i64.wrap ((len : Int) - 1) = (n1 : Int) := by rw [g3]; exact IntWalk.i64_in _ (by omega)
      have g6 : IntKind.i64.wrap (n1 : Int) = (n1 : Int) := IntWalk.i64_in _ (by omega)
      clear hn1
      go_enter Try.func20, Try.ntmps20
      go_wp2_with fail
      refine HA.out.mono ?_
      rintro e w1 ⟨rfl, rfl⟩
      have S := HS.out
      obtain rfl := S.ha hn
      have sb := S.hb hn
      have c4 := S.c4 n1 (by have := HN.out; omega)
      have hxx : L[n1]'(by have := HN.out; omega) = x := by rw [← HX.out]; congr 1; have := HN.out; omega
      rw [hxx] at c4
      clear S hxx
      rw [HJ.out] at c4
      cases q with
      | true =>
        go_wp2_with fail
        go_ret
        exact ⟨by rw [← HR.out]; rfl, rfl⟩
      | false =>
        go_wp2_with fail
        go_ret
        exact ⟨by rw [← HR.out]; rfl, rfl⟩
    · obtain rfl : len = 0 := by omega
      have hJ : lastJ L = false := by
        have : L = [] := List.eq_nil_of_length_eq_zero hl0
        rw [this]; rfl
      rw [hJ]
      go_enter Try.func20, Try.ntmps20
      go_wp2_with fail
      refine HA.out.mono ?_
      rintro e w1 ⟨rfl, rfl⟩
      go_wp2_with fail
      go_ret
      exact ⟨by first | rfl | simp, rfl⟩
  · rw [if_neg h0]
    clear hr
    have k0 : (r == 0) = false := by simpa using h0
    have k1 : (r != 0) = true := by simpa using h0
    clear h0
    go_enter Try.func20, Try.ntmps20
    go_wp2_with fail
    refine HA.out.mono ?_
    rintro e w1 ⟨rfl, rfl⟩
    go_wp2_with fail
    go_ret
    exact ⟨rfl, rfl⟩
def smB (L : List It) : Bool := decide (L.length ≤ 60) && L.all (fun x => decide (x.c.size ≤ 100))
theorem smB_fit {L : List It} (h : smB L = true) : L.length ≤ 60 ∧ ∀ (k : Nat) (hk : k < L.length), (L[k]'hk).c.size ≤ 100 := by
  unfold smB at h
  rw [Bool.and_eq_true, decide_eq_true_eq, List.all_eq_true] at h
  exact ⟨h.1, fun k hk => by simpa using h.2 _ (List.getElem_mem hk)⟩
end Go.Proofs.Ytlleebgkglbelaa
