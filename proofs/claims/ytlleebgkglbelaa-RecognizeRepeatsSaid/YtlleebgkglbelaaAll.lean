/- Contracts of layer 4: all, and the checks of names, federations, codes, bibs and titles. -/
import Derived.Test.YtlleebgkglbelaaByte
set_option linter.unusedSimpArgs false
set_option linter.unusedVariables false
namespace Go.Proofs.Ytlleebgkglbelaa
open Go.RowKit

/-- what a function value over bytes gives -/
def ByteFn (g : Nat) (p : UInt8 → Bool) : Prop := ∀ (c : UInt8) (w : World), Calls Try.prog g #[.int .u8 (c.toNat : Int)] w fun e w' => e = .returned (.bool (p c)) ∧ w = w'
def allB (p : UInt8 → Bool) (s : ByteArray) : Bool := s.data.toList.all p
theorem allB_iff {p : UInt8 → Bool} {s : ByteArray} : allB p s = true ↔ ∀ (k : Nat) (h : k < s.size), p (s[k]'h) = true := by
  unfold allB
  rw [List.all_eq_true]
  constructor
  · intro h k hk
    exact h _ (by simp only [Array.mem_toList_iff]; exact Array.getElem_mem hk)
  · intro h c hc
    simp only [Array.mem_toList_iff] at hc
    obtain ⟨k, hk, rfl⟩ := Array.mem_iff_getElem.1 hc
    exact h k hk
theorem allB_false {p : UInt8 → Bool} {s : ByteArray} {k : Nat} (h : k < s.size) (hp : p (s[k]'h) = false) : allB p s = false := by
  cases hb : allB p s with
  | false => rfl
  | true => rw [allB_iff.1 hb k h] at hp; contradiction

set_option maxHeartbeats 400000 in
set_option maxRecDepth 100000 in
theorem all_any (g : Nat) (p : UInt8 → Bool) (hg : ByteFn g p) (eg : ∀ args w, (callFunc g args).run Try.prog w = .ok (.enter g args) w) (s : ByteArray) (hs : s.size ≤ 9223372036854775807) (w : World) :
    Calls Try.prog 69 #[.string s, .func (.func g) #[] #[]] w fun e w' => e = .returned (.bool (allB p s)) ∧ w = w' := by
  have HG := Lib.hid hg
  clear hg
  go_enter Try.func69, Try.ntmps69
  go_wp2
  go_loop [8] (fun s8 => ∃ k : Nat, k ≤ s.size ∧ s8 = .int .i64 k ∧ Hid (∀ (j : Nat) (h : j < s.size), j < k → p (s[j]'h) = true)) (fun s8 => (s.size - (intOf s8)).toNat)
  case atStart => exact ⟨0, Nat.zero_le _, rfl, Lib.hid (fun j _ h => absurd h (Nat.not_lt_zero j))⟩
  case round =>
    obtain ⟨k, hk, rfl, HK⟩ := hrel
    by_cases hlt : k < s.size
    · have hl : (k : Int) < (s.size : Int) := by omega
      cases hp : p (s[k]'hlt) with
      | true =>
        have H1 := Lib.hid hp
        clear hp
        go_wp2_with fail
        refine ((HG.out (s[k]'hlt) _).mono ?_)
        rw [H1.out]
        rintro e w1 ⟨rfl, rfl⟩
        go_wp2
        go_round
        case rel =>
          refine ⟨k + 1, by omega, by go_num, Lib.hid (fun j h hj => ?_)⟩
          by_cases e : j = k
          · subst e; exact H1.out
          · exact HK.out j h (by omega)
        case measure => simp [intOf]; omega
      | false =>
        have H1 := Lib.hid hp
        clear hp
        go_wp2_with fail
        refine ((HG.out (s[k]'hlt) _).mono ?_)
        rw [H1.out]
        rintro e w1 ⟨rfl, rfl⟩
        go_wp2
        go_ret
        exact ⟨by rw [allB_false hlt H1.out]; rfl, rfl⟩
    · obtain rfl : k = s.size := by omega
      go_wp2
      go_ret
      exact ⟨by rw [allB_iff.2 (fun j h => HK.out j h h)]; rfl, rfl⟩
end Go.Proofs.Ytlleebgkglbelaa
