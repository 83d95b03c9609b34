/- What the laws of layer 10 use of Parse. -/
import Derived.Test.YtiofekoadjgjdaaGreatDoorAwk
set_option linter.unusedSimpArgs false
set_option linter.unusedVariables false
namespace Go.Proofs.YtiofekoadjgjdaaGreatDoor
open Go.RowKit

theorem parL_count : ∀ (f o : Nat) (l : List Tk), l.length < f → (parL f o l).2.2.1 = 0 → (parL f o l).1.count + (parL f o l).2.1.length < l.length
  | 0, _, _, h, _ => by omega
  | f + 1, o, [], _, h => absurd h (by simp [parL])
  | f + 1, o, t :: l, hf, h => by
    simp only [List.length_cons] at hf
    rcases parL_inv h with hb | ⟨hb, h1, d, m, hd, hs⟩
    · rw [parL_ends hb]
      simp [Cls.count]
    · have hm := dw_len hd
      rcases hs with ⟨h59, hc⟩ | ⟨h59, h123, h8, hc, hc2⟩
      · have ih := parL_count f o m (by omega) hc
        rw [parL_semi hb h1 hd h59]
        unfold consR
        rw [if_pos hc]
        simp only [Cls.count, List.length_cons]
        omega
      · have i1 := parL_count f (o + 1) m (by omega) hc
        have hlr := parL_le f (o + 1) m
        have i2 := parL_count f o _ (by omega) hc2
        rw [parL_block hb h1 hd h59 h123 h8 hc]
        unfold consR
        rw [if_pos hc2]
        simp only [Cls.count, List.length_cons]
        omega
theorem parS_count (s : ByteArray) : (parS s).1.count ≤ 65537 := by
  unfold parS
  by_cases h : (lexS s).2.1 = 0
  · rw [if_pos h]
    obtain ⟨_, hl, _⟩ := lexS_ok h
    by_cases h0 : (parL ((lexS s).1.length + 1) 0 (lexS s).1).2.2.1 = 0
    · have := parL_count ((lexS s).1.length + 1) 0 (lexS s).1 (by omega) h0
      simp only
      omega
    · rw [parL_bad _ _ _ h0]
      simp [Cls.count]
  · rw [if_neg h]
    simp [Cls.count]
theorem parS_bad {s : ByteArray} (h : (parS s).2.1 ≠ 0) : (parS s).1 = .nil := by
  unfold parS at h ⊢
  by_cases h0 : (lexS s).2.1 = 0
  · rw [if_pos h0] at h ⊢
    simp only at h ⊢
    rw [parL_bad _ _ _ h]
  · rw [if_neg h0]
theorem parS_good {s : ByteArray} (h : (parS s).2.1 = 0) : (parS s).2 = (0, 0) := by
  unfold parS at h ⊢
  by_cases h0 : (lexS s).2.1 = 0
  · rw [if_pos h0] at h ⊢
    simp only at h ⊢
    exact parL_good _ _ _ h
  · rw [if_neg h0] at h
    exact absurd h h0
/-- what Parse gives, as a slice -/
def PrlPost (w : World) (x : Cls × Int × Int) (e : Ending) (w' : World) : Prop :=
  ∃ a b cap, e = .returned (.tuple #[.slice a x.1.len cap, fV x.2.1 x.2.2]) ∧ SlC w' (fun y => w.heap.size ≤ y ∧ y < w'.heap.size) a b 0 x.1.len cap x.1 ∧ Below w.heap.size w w' ∧ (a = none → x.1.len = 0 ∧ cap = 0)
theorem own_form2 {w : World} {base e z n : Nat} {v : Value} {xs : List Value} (h : w.ownsRow base e z v n xs) : ∃ ao cap, v = .slice ao n cap ∧ (ao = none → n = 0 ∧ cap = 0) := by
  rcases h.2 with ⟨rfl, h0⟩ | ⟨g, cap, cur, rfl, _⟩
  · exact ⟨none, 0, by rw [h0], fun _ => ⟨h0, rfl⟩⟩
  · exact ⟨_, cap, rfl, fun h => by cases h⟩
theorem parl_any (s : ByteArray) (w : World) (hT : Tabs w) : Calls Tryz.prog 6 #[.string s] w (PrlPost w (parS s)) :=
  (parse_any s w hT).mono fun e w' h => by
    obtain ⟨v, vs, rfl, ho, hr, hb⟩ := h
    obtain ⟨a, b, cap, hv, sl⟩ := slC_own ho (hr.mono fun x hx => hx.1) (fun x hx => (ho.lt x hx).1)
    obtain ⟨a', cap', hv', hz⟩ := own_form2 ho
    rw [hv] at hv'
    simp only [Value.slice.injEq, true_and] at hv'
    obtain ⟨rfl, rfl⟩ := hv'
    exact ⟨a, b, cap, by rw [hv], sl.here, hb, hz⟩
end Go.Proofs.YtiofekoadjgjdaaGreatDoor
