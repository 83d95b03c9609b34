/- Plain facts: what is formed and of few tokens is small, and its lines are no longer than lines are; what is read is so. -/
import Derived.Test.YtohalocbghhenaaGreatDoorPyl
import Derived.Test.YtohalocbghhenaaGreatDoorWf
import Derived.Test.YtohalocbghhenaaGreatDoorPrl
import Derived.Test.YtohalocbghhenaaGreatDoorLenP
set_option linter.unusedSimpArgs false
set_option linter.unusedVariables false
namespace Go.Proofs.YtohalocbghhenaaGreatDoor
open Go.RowKit

theorem formed_ok : ∀ (c : Cls), formed c = true → (toksC c).length ≤ 1000000 → lok c ∧ small c ∧ c.count ≤ (toksC c).length
  | .nil, _, _ => ⟨trivial, trivial, Nat.le_refl _⟩
  | .cons wd xs bl k a r, hf, hl => by
    simp only [formed, Bool.and_eq_true] at hf
    obtain ⟨⟨⟨⟨f1, f2⟩, f3⟩, f4⟩, f5⟩ := hf
    have hw : wd.size ≤ 42 := valid_short _ f1
    have hv : ∀ t ∈ xs, validT t = true := fun t ht => by
      have := List.all_eq_true.1 f2 t ht
      rw [Bool.and_eq_true] at this
      exact this.1
    have ht : ∀ t ∈ xs, t.t.size ≤ 1000000000 := fun t ht => by have := valid_short t (hv t ht); omega
    cases bl with
    | false =>
      obtain rfl : k = .nil := Cls.len_nil (by simpa using f3)
      simp only [toksC, List.length_cons, List.length_append, Bool.false_eq_true, if_false, List.length_nil] at hl
      obtain ⟨r1, r2, r3⟩ := formed_ok r f5 (by omega)
      refine ⟨⟨by omega, hv, ht, by omega, trivial, r1⟩, ⟨by omega, ht, trivial, r2⟩, ?_⟩
      simp only [Cls.count, toksC, List.length_cons, List.length_append, Bool.false_eq_true, if_false, List.length_nil]
      omega
    | true =>
      simp only [toksC, List.length_cons, List.length_append, if_true, List.length_nil] at hl
      obtain ⟨k1, k2, k3⟩ := formed_ok k f4 (by omega)
      obtain ⟨r1, r2, r3⟩ := formed_ok r f5 (by omega)
      refine ⟨⟨by omega, hv, ht, by omega, k1, r1⟩, ⟨by omega, ht, k2, r2⟩, ?_⟩
      simp only [Cls.count, toksC, List.length_cons, List.length_append, if_true, List.length_nil]
      omega
theorem parS_len {s : ByteArray} (h : (parS s).2.1 = 0) : s.size ≤ 65536 := by
  by_cases hs : s.size ≤ 65536
  · exact hs
  · exfalso
    have e : lexS s = ([], 6, 65536) := by unfold lexS; rw [if_pos (by omega)]
    unfold parS at h
    rw [e] at h
    exact absurd h (by decide)
theorem parS_room {s : ByteArray} (h : (parS s).2.1 = 0) : formed (parS s).1 = true ∧ (parS s).1.depth ≤ 8 ∧ (parS s).1.count < 1000000000 ∧ small (parS s).1 ∧ lok (parS s).1 ∧ checkS (parS s).1 = 0 := by
  have hs := parS_len h
  obtain ⟨ts, x, e1, e2, e3, e4, e5, e6, hlen⟩ := parS_toks s hs h
  have h2 : (toksC (parS s).1).length = ts.length := by
    have := congrArg List.length e4
    simpa using this.symm
  obtain ⟨k1, k2, k3⟩ := formed_ok _ e5 (by omega)
  exact ⟨e5, e6, by omega, k2, k1, by unfold checkS; rw [if_pos e5, if_neg (by omega)]⟩
/-- what Print gives -/
def prtS (c : Cls) : List UInt8 × Int := if checkS c = 0 then (if (linS c 0).length ≤ 65536 then (linS c 0, 0) else ([], 6)) else ([], checkS c)
/-- what Normalize gives -/
def nrmS (s : ByteArray) : List UInt8 × Int × Int := if (parS s).2.1 = 0 then (if (linS (parS s).1 0).length ≤ 65536 then (linS (parS s).1 0, 0, 0) else ([], 6, 65536)) else ([], (parS s).2)
/-- what Equal gives -/
def eqlS (a b : ByteArray) : Bool := (parS a).2.1 == 0 && ((parS b).2.1 == 0 && decide ((parS a).1.zero = (parS b).1.zero))
theorem check_ok {c : Cls} (h : checkS c = 0) : formed c = true ∧ c.depth ≤ 8 := by
  unfold checkS at h
  split at h
  · rename_i h1
    split at h
    · exact absurd h (by decide)
    · exact ⟨h1, by omega⟩
  · exact absurd h (by decide)
/-- the canonical source is read again as the same entries -/
theorem lin_again {c : Cls} (h : checkS c = 0) (hl : (linS c 0).length ≤ 65536) : (parS (bs (linS c 0))).2 = (0, 0) ∧ (parS (bs (linS c 0))).1.zero = c.zero ∧ linS (parS (bs (linS c 0))).1 0 = linS c 0 := by
  obtain ⟨h1, h2⟩ := check_ok h
  obtain ⟨c', e, hz⟩ := parS_print h1 h2 hl
  rw [e]
  exact ⟨rfl, hz, lin_same hz 0⟩
end Go.Proofs.YtohalocbghhenaaGreatDoor
