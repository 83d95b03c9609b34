/- Contracts of layer 19: checkEach, Check, the reference's shapes and Check, small, Same. -/
import Derived.Test.YtlleebgkglbelaaCkx
import Derived.Test.YtlleebgkglbelaaRCode
import Derived.BigRegion
set_option linter.unusedSimpArgs false
set_option linter.unusedVariables false
namespace Go.Proofs.Ytlleebgkglbelaa
open Go.RowKit

def errE (L : List It) : Int := if L.length > 30 then 6 else if L.any badC = true then 3 else if L.any badD = true then 5 else 0
def lastJ (L : List It) : Bool := match L.getLast? with | some x => x.j | none => false
def chkL (L : List It) : Int := if errE L = 0 then (if lastJ L = true then 15 else 0) else errE L
theorem lastJ_at {L : List It} (h : 0 < L.length) : lastJ L = (L[L.length - 1]'(by omega)).j := by
  unfold lastJ
  rw [List.getLast?_eq_getElem?, List.getElem?_eq_getElem (by omega)]
theorem eg1 : ∀ args w, (callFunc 53 args).run Try.prog w = .ok (.enter 53 args) w := fun _ _ => by kernel_rfl
theorem eg2 : ∀ args w, (callFunc 55 args).run Try.prog w = .ok (.enter 55 args) w := fun _ _ => by kernel_rfl
set_option maxHeartbeats 1000000 in
set_option maxRecDepth 100000 in
theorem each_any {w : World} {a : Option Addr} {b off len cap : Nat} {L : List It} (h : SlX w a b off len cap L) (hf : fitC L) :
    Calls Try.prog 42 #[.slice a len cap] w fun e w' => e = .returned (.int .i64 (errE L)) ∧ Below w.heap.size w w' := by
  have hl0 := h.hl
  have HA := Lib.hid (contains_any _ badC badC_any eg1 h hf)
  have HS := Lib.hid h
  have HF := Lib.hid hf
  have HA2 := Lib.hid (fun W (hW : SlX W a b off len cap L) => contains_any _ badD badD_any eg2 hW HF.out)
  clear h hf
  unfold errE
  by_cases h30 : L.length > 30
  · rw [if_pos h30]
    have k1 : decide ((len : Int) > 30) = true := decide_eq_true (by omega)
    go_enter Try.func42, Try.ntmps42
    go_wp2_with fail
    go_ret
    exact ⟨rfl, Below.refl _ _⟩
  · rw [if_neg h30]
    have k1 : decide ((len : Int) > 30) = false := decide_eq_false (by omega)
    cases hc : L.any badC with
    | true =>
      rw [hc] at HA
      rw [if_pos rfl]
      clear hc
      go_enter Try.func42, Try.ntmps42
      go_wp2_with fail
      refine HA.out.mono ?_
      rintro e w1 ⟨rfl, hb1⟩
      go_wp2_with fail
      go_ret
      exact ⟨rfl, hb1⟩
    | false =>
      rw [hc] at HA
      rw [if_neg (by simp)]
      clear hc
      generalize L.any badD = q at *
      go_enter Try.func42, Try.ntmps42
      go_wp2_with fail
      refine HA.out.mono ?_
      rintro e w1 ⟨rfl, hb1⟩
      have HQ := Lib.hid (HA2.out w1 (HS.out.keep hb1))
      have HB := Lib.hid hb1
      clear hb1
      cases q with
      | true =>
        go_wp2_with fail
        refine HQ.out.mono ?_
        rintro e w2 ⟨rfl, hb2⟩
        have HB2 := Lib.hid (HB.out.trans (Below.mono hb2 HB.out.size))
        clear hb2
        go_wp2_with fail
        go_ret
        exact ⟨rfl, HB2.out⟩
      | false =>
        go_wp2_with fail
        refine HQ.out.mono ?_
        rintro e w2 ⟨rfl, hb2⟩
        have HB2 := Lib.hid (HB.out.trans (Below.mono hb2 HB.out.size))
        clear hb2
        go_wp2_with fail
        go_ret
        exact ⟨by first | rfl | simp, HB2.out⟩
set_option maxHeartbeats 1000000 in
set_option maxRecDepth 100000 in
theorem check_any {w : World} {a : Option Addr} {b off len cap : Nat} {L : List It} (h : SlX w a b off len cap L) (hf : fitC L) :
    Calls Try.prog 31 #[.slice a len cap] w fun e w' => e = .returned (.int .i64 (chkL L)) ∧ Below w.heap.size w w' := by
  have hl0 := h.hl
  have HA := Lib.hid (each_any h hf)
  have HS := Lib.hid h
  have hle : len ≤ 9223372036854775807 := by have := h.hcap; have := h.hmax; unfold maxLen at this; omega
  clear h hf
  obtain ⟨r, hr⟩ : ∃ r, errE L = r := ⟨_, rfl⟩
  have HR : chkL L = if r = 0 then (if lastJ L = true then 15 else 0) else r := by unfold chkL; rw [hr]
  rw [HR]
  rw [hr] at HA
  clear HR
  by_cases h0 : r = 0
  · subst h0
    rw [if_pos rfl]
    clear hr
    by_cases hn : 0 < len
    · have hn' : L.length - 1 < L.length := by omega
      have hJ := lastJ_at (L := L) (by omega)
      obtain ⟨x, hx⟩ : ∃ x, L[L.length - 1]'hn' = x := ⟨_, rfl⟩
      rw [hx] at hJ
      have HX := Lib.hid hx
      clear hx
      rw [hJ]
      clear hJ
      obtain ⟨q, hq⟩ : ∃ q, x.j = q := ⟨_, rfl⟩
      have HJ := Lib.hid hq
      rw [hq]
      obtain ⟨z, hz⟩ : ∃ z, (if q = true then (15 : Int) else 0) = z := ⟨_, rfl⟩
      have HR := Lib.hid hz
      rw [hz]
      clear hz hq
      obtain ⟨n1, hn1⟩ : ∃ n1, len = n1 + 1 := ⟨len - 1, by omega⟩
      have HN := Lib.hid hn1
      have g1 : decide ((len : Int) > 0) = true := decide_eq_true (by omega)
      have g2 : decide (0 < len) = true := decide_eq_true hn
      have g3 : (len : Int) - 1 = (n1 : Int) := by omega
      have g4 : (n1 : Int) < (len : Int) := by omega
      have g5 : IntKind.i64.wrap ((len : Int) - 1) = (n1 : Int) := by rw [g3]; exact IntWalk.i64_in _ (by omega)
      have g6 : IntKind.i64.wrap (n1 : Int) = (n1 : Int) := IntWalk.i64_in _ (by omega)
      clear hn1
      go_enter Try.func31, Try.ntmps31
      go_wp2_with fail
      refine HA.out.mono ?_
      rintro e w1 ⟨rfl, hb1⟩
      have S := HS.out.keep hb1
      obtain rfl := S.ha hn
      have sb := S.hb hn
      have c4 := S.c4 n1 (by have := HN.out; omega)
      have hxx : L[n1]'(by have := HN.out; omega) = x := by rw [← HX.out]; congr 1; have := HN.out; omega
      rw [hxx] at c4
      clear S hxx
      have HB := Lib.hid hb1
      clear hb1
      rw [HJ.out] at c4
      cases q with
      | true =>
        go_wp2_with fail
        go_ret
        exact ⟨by rw [← HR.out]; rfl, HB.out⟩
      | false =>
        go_wp2_with fail
        go_ret
        exact ⟨by rw [← HR.out]; rfl, HB.out⟩
    · obtain rfl : len = 0 := by omega
      have hJ : lastJ L = false := by
        have : L = [] := List.eq_nil_of_length_eq_zero hl0
        rw [this]; rfl
      rw [hJ]
      go_enter Try.func31, Try.ntmps31
      go_wp2_with fail
      refine HA.out.mono ?_
      rintro e w1 ⟨rfl, hb1⟩
      go_wp2_with fail
      go_ret
      exact ⟨by first | rfl | simp, hb1⟩
  · rw [if_neg h0]
    clear hr
    have k0 : (r == 0) = false := by simpa using h0
    have k1 : (r != 0) = true := by simpa using h0
    clear h0
    go_enter Try.func31, Try.ntmps31
    go_wp2_with fail
    refine HA.out.mono ?_
    rintro e w1 ⟨rfl, hb1⟩
    go_wp2_with fail
    go_ret
    exact ⟨rfl, hb1⟩
end Go.Proofs.Ytlleebgkglbelaa
