/- Contracts of package encode: decimal: plain facts. -/
import Derived.Test.YtljeialaefmbmaaDoorRep
set_option linter.unusedSimpArgs false
set_option linter.unusedVariables false
namespace Go.Proofs.YtljeialaefmbmaaDoor
open Go.RowKit

/-- the decimal digits -/
def dig (r : Nat) : UInt8 := UInt8.ofNat (48 + r % 10)
theorem dig_nat (r : Nat) : (dig r).toNat = 48 + r % 10 := by
  unfold dig
  rw [UInt8.toNat_ofNat']
  omega
def decL (n : Nat) : List UInt8 := if n < 10 then [dig n] else decL (n / 10) ++ [dig n]
termination_by n
theorem decL_lt {n : Nat} (h : n < 10) : decL n = [dig n] := by rw [decL, if_pos h]
theorem decL_ge {n : Nat} (h : ¬ n < 10) : decL n = decL (n / 10) ++ [dig n] := by rw [decL, if_neg h]
/-- what stands ahead of the last digit -/
def decP (n : Nat) : List UInt8 := if n < 10 then [] else decL (n / 10)
theorem decL_pre (n : Nat) : decL n = decP n ++ [dig n] := by
  unfold decP
  split
  · rename_i h; rw [decL_lt h]; rfl
  · rename_i h; rw [decL_ge h]
def decS (n : Int) : List UInt8 := if n < 0 then 45 :: decL (-n).toNat else decL n.toNat
/-- the array of digits holds a text from a place on -/
def Tail (w : World) (g : Nat) (t : TypeId) (k : Nat) (l : List UInt8) : Prop :=
  k + l.length = 20 ∧ ∃ f, w.rowIs g t 20 f ∧ ∀ j (h : j < l.length), f (k + j) = .int .u8 (l[j].toNat : Int)
theorem Tail.put {w : World} {g : Nat} {t : TypeId} {k : Nat} {l : List UInt8} (h : Tail w g t (k + 1) l) (c : UInt8) : Tail (w.setCell ⟨g, k, none⟩ (.int .u8 (c.toNat : Int))) g t k (c :: l) := by
  obtain ⟨hl, f, hr, hc⟩ := h
  refine ⟨by simp; omega, _, hr.set k _, fun j hj => ?_⟩
  cases j with
  | zero => simp
  | succ j =>
    have hj' : j < l.length := by simpa using hj
    have := hc j hj'
    rw [show k + (j + 1) = k + 1 + j by omega]
    simp [this]
    intro e
    omega
theorem Tail.text {P : Program} {w : World} {g : Nat} {t : TypeId} {k : Nat} {l : List UInt8} (h : Tail w g t k l) (src dst e : TypeId) (hs : P.underlying src = some (.slice e)) (he : P.underlying e = some (.int .u8)) (hd : P.underlying dst = some .string) (n : Nat) (hn : n = 20 - k) :
    (convert src dst (.slice (some ⟨g, k, none⟩) n n)).run P w = .ok (.string ⟨l.toArray⟩) w := by
  obtain ⟨hl, f, hr, hc⟩ := h
  obtain rfl : n = l.length := by omega
  refine run_convert_bytes_back w src dst e ⟨g, k, none⟩ l.length l hs he hd (fun j hj => ?_)
  have e : ((⟨g, k, none⟩ : Addr).add j) = ⟨g, k + j, none⟩ := by unfold Addr.add; split <;> simp_all
  rw [e, hr.cell (show k + j < 20 by omega), hc j hj]
theorem Tail.cell {w : World} {g : Nat} {t : TypeId} {k : Nat} {l : List UInt8} (h : Tail w g t k l) (i : Nat) (hi : i < 20) : ∃ v, w.cell? ⟨g, i, none⟩ = some v := by
  obtain ⟨hl, f, hr, hc⟩ := h
  exact ⟨_, hr.cell hi⟩
theorem Tail.frozen {w : World} {g : Nat} {t : TypeId} {k : Nat} {l : List UInt8} (h : Tail w g t k l) (i : Nat) : w.frozen? ⟨g, i, none⟩ = false := by
  obtain ⟨hl, f, hr, hc⟩ := h
  exact hr.frozen i
theorem Tail.lt {w : World} {g : Nat} {t : TypeId} {k : Nat} {l : List UInt8} (h : Tail w g t k l) : g < w.heap.size := by
  obtain ⟨hl, f, hr, hc⟩ := h
  exact hr.lt
theorem pow_lt_10 {r k e : Nat} (h10 : 10 ≤ r) (h : r < 10 ^ (k + e)) (he : e ≤ 1) : 1 ≤ k ∧ r / 10 < 10 ^ (k - 1 + e) := by
  have hk : 1 ≤ k := by
    rcases Nat.eq_zero_or_pos k with h0 | h0
    · subst h0
      have : 10 ^ (0 + e) ≤ 10 ^ 1 := Nat.pow_le_pow_right (by omega) (by omega)
      omega
    · exact h0
  refine ⟨hk, ?_⟩
  have e1 : 10 ^ (k + e) = 10 ^ (k - 1 + e) * 10 := by rw [← Nat.pow_succ]; congr 1; omega
  rw [e1] at h
  omega
end Go.Proofs.YtljeialaefmbmaaDoor
