/- Entries of two sources with a line break between them. -/
import Derived.Test.YtepigooldelgnaaDoorParZ
import Derived.Test.YtepigooldelgnaaDoorLexA
set_option linter.unusedSimpArgs false
set_option linter.unusedVariables false
namespace Go.Proofs.YtepigooldelgnaaDoor
open Go.RowKit

theorem parS_concat (a b c : ByteArray) (hc : c.data.toList = a.data.toList ++ 10 :: b.data.toList) (hs : c.size ≤ 65536) (ha : (parS a).2.1 = 0) (hb : (parS b).2.1 = 0) :
    (parS c).2.1 = 0 ∧ (parS c).1.zero = ((parS a).1.app (parS b).1).zero := by
  have hcz : c.size = a.size + b.size + 1 := by
    have := congrArg List.length hc
    rw [list_size, List.length_append, List.length_cons, list_size, list_size] at this
    omega
  have low : ∀ s : ByteArray, s.size ≤ 65536 → (parS s).2.1 = 0 → (lexR (s.size + 1) s.data.toList 0).2.1 = 0 ∧ lexS s = lexR (s.size + 1) s.data.toList 0 ∧ (parL ((lexR (s.size + 1) s.data.toList 0).1.length + 1) 0 (lexR (s.size + 1) s.data.toList 0).1).2.2.1 = 0 ∧ (parS s).1 = (parL ((lexR (s.size + 1) s.data.toList 0).1.length + 1) 0 (lexR (s.size + 1) s.data.toList 0).1).1 := by
    intro s hz h
    have e := lexS_small s hz
    by_cases h0 : (lexR (s.size + 1) s.data.toList 0).2.1 = 0
    · rw [if_pos h0] at e
      unfold parS at h ⊢
      rw [e, if_pos h0] at h ⊢
      exact ⟨h0, rfl, h, rfl⟩
    · rw [if_neg h0] at e
      unfold parS at h
      rw [e] at h
      simp only [h0, if_false] at h
  obtain ⟨a1, _, a3, a4⟩ := low a (by omega) ha
  obtain ⟨b1, _, b3, b4⟩ := low b (by omega) hb
  rw [a4, b4]
  have hla := list_size a
  have hlb := list_size b
  obtain ⟨p1, p2⟩ := lexR_app (a.size + 1) a.data.toList 0 (by omega) a1 b.data.toList (c.size + 1) (by rw [← hc, list_size]; omega)
  rw [← hc] at p1 p2
  obtain ⟨s1, s2, _⟩ := lexR_shift (c.size + 1) b.data.toList 0 (a.data.toList.length + 1)
  rw [← Nat.add_assoc] at s1 s2
  have hfu := lexR_fuel (c.size + 1) (b.size + 1) b.data.toList 0 (by omega) (by omega)
  rw [hfu] at s1 s2
  obtain ⟨ts, e, l1, l2, l3, _⟩ := lexR_like (a.size + 1) a.data.toList 0 (by omega) a1
  have c1 : (lexR (c.size + 1) c.data.toList 0).2.1 = 0 := by rw [p2, s2]; exact b1
  rw [l1] at a3 p1 ⊢
  rw [List.dropLast_concat] at p1
  generalize (lexR (c.size + 1) b.data.toList (0 + a.data.toList.length + 1)).1 = m at *
  generalize (lexR (b.size + 1) b.data.toList 0).1 = n at *
  have hmn : m.length = n.length := by
    have := congrArg List.length s1
    simpa using this
  have hpc : parS c = ((parL ((ts ++ m).length + 1) 0 (ts ++ m)).1, (parL ((ts ++ m).length + 1) 0 (ts ++ m)).2.2) := by
    unfold parS
    rw [lexS_small c hs, if_pos c1, if_pos c1, p1]
  have q := parL_fuel ((ts ++ [e]).length + 1) (ts.length + 2) 0 (ts ++ [e]) (by omega) (by simp)
  obtain ⟨_, r2⟩ := parL_app (ts.length + 2) 0 ts e (fun t ht => (l2 t ht).2) (by rw [l3]) (by omega) (by rw [← q]; exact a3)
  obtain ⟨_, r3⟩ := r2 rfl
  have r4 := r3 m ((ts ++ m).length + 1) (by omega)
  obtain ⟨z1, z2, _⟩ := parL_zero (n.length + 1) 0 n m s1.symm b3
  have hfm := parL_fuel ((ts ++ m).length + 1) (n.length + 1) 0 m (by simp; omega) (by omega)
  rw [hpc]
  simp only
  rw [r4, hfm, q]
  unfold comb
  rw [if_pos z1]
  simp only
  exact ⟨trivial, by rw [Cls.zero_app, Cls.zero_app, z2]⟩
end Go.Proofs.YtepigooldelgnaaDoor
