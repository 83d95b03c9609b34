/- Rows of integers of one's own; slices.Clone. -/
import Derived.Test.YtpcdbnlljdfogaaInc
import Derived.Test.YtpcdbnlljdfogaaApp
import Derived.Test.YtpcdbnlljdfogaaShelf
set_option linter.unusedSimpArgs false
set_option linter.unusedVariables false
namespace Go.Proofs.Ytpcdbnlljdfogaa
open Go.RowKit

abbrev OwI (w : World) (B : Nat) (v : Value) (n : Nat) (L : List Int) : Prop := w.ownsRow B 3 1 v n (L.map (Value.int .i64))
theorem OwI.len {w : World} {B n : Nat} {v : Value} {L : List Int} (h : OwI w B v n L) : L.length = n := by
  have := h.1
  simpa using this
theorem OwI.shape {w : World} {B n : Nat} {v : Value} {L : List Int} (h : OwI w B v n L) (hn : 0 < n) : ∃ g cap, v = .slice (some ⟨g, 0, none⟩) n cap ∧ B ≤ g ∧ g < w.heap.size ∧ n ≤ cap ∧ cap ≤ maxLen := by
  rcases h.2 with ⟨_, h0⟩ | ⟨g, cap, cur, rfl, hb, hg, h1, h2, _⟩
  · omega
  · exact ⟨g, cap, rfl, hb, (Array.getElem?_eq_some_iff.1 hg).1, h1, h2⟩
theorem OwI.at_ {w : World} {B n g cap : Nat} {L : List Int} (h : OwI w B (.slice (some ⟨g, 0, none⟩) n cap) n L) (k : Nat) (hk : k < L.length) : w.cell? ⟨g, k, none⟩ = some (.int .i64 (L[k]'hk)) := by
  have := h.len
  rw [World.ownsRow.cellAt h k (by omega)]
  simp [hk]
theorem OwI.put {w : World} {B n g cap : Nat} {L : List Int} (h : OwI w B (.slice (some ⟨g, 0, none⟩) n cap) n L) (k : Nat) (x : Int) : OwI (w.setCell ⟨g, k, none⟩ (.int .i64 x)) B (.slice (some ⟨g, 0, none⟩) n cap) n (L.set k x) := by
  have := (World.ownsRow.stored h k (.int .i64 x)).1
  rw [← List.map_set] at this
  exact this
theorem OwI.far {w : World} {B n : Nat} {v : Value} {L : List Int} (h : OwI w B v n L) {p : Addr} (u : Value) (hp : v.ownBlock ≠ some p.block) : OwI (w.setCell p u) B v n L := World.ownsRow.kept h (grownBy_set w p u) (.inr hp)
theorem OwI.low {w w' : World} {B C n : Nat} {v : Value} {L : List Int} (h : OwI w B v n L) (hB : Below C w w') (hv : ∀ k, v.ownBlock = some k → k < C) : OwI w' B v n L := by
  refine ⟨h.1, ?_⟩
  rcases h.2 with hn | ⟨g, cap, cur, rfl, h1, h2, h3⟩
  · exact .inl hn
  · exact .inr ⟨g, cap, cur, rfl, h1, (hB.block g (hv g rfl)).trans h2, h3⟩
theorem OwI.keep {w w' : World} {B n : Nat} {v : Value} {L : List Int} (h : OwI w B v n L) (hB : Below w.heap.size w w') : OwI w' B v n L := h.low hB (fun k hk => (World.ownsRow.lt h k hk).2)
theorem OwI.mono {w : World} {B C n : Nat} {v : Value} {L : List Int} (h : OwI w B v n L) (hC : C ≤ B) : OwI w C v n L :=
  ⟨h.1, h.2.imp id fun ⟨g, cap, cur, h1, h2, h3⟩ => ⟨g, cap, cur, h1, Nat.le_trans hC h2, h3⟩⟩
theorem atI_eq {L : List Int} {i : Int} (h : i.toNat < L.length) : atI L i = L[i.toNat]'h := by
  unfold atI
  rw [List.getD_eq_getElem?_getD, List.getElem?_eq_getElem h]
  rfl
theorem cln_any {a : Option Addr} {b off len cap : Nat} {L : List Int} {w : World} (h : SlI w a b off len cap L) (hlen : len ≤ 1000000) :
    Calls Try.prog 58 #[.slice a len cap] w fun e w' => ∃ v', e = .returned v' ∧ OwI w' w.heap.size v' len L ∧ Below w.heap.size w w' := by
  cases a with
  | none =>
    have h0 : len = 0 := by
      cases len with
      | zero => rfl
      | succ n => have := h.ha (by omega); cases this
    subst h0
    obtain rfl : L = [] := List.eq_nil_of_length_eq_zero h.hl
    refine (Try.slices_Clone_int_nil 0 cap w).mono ?_
    rintro e w1 ⟨rfl, rfl⟩
    exact ⟨_, rfl, World.ownsRow_nil _ _ _ _, Below.refl _ _⟩
  | some ad =>
    cases len with
    | zero =>
      obtain rfl : L = [] := List.eq_nil_of_length_eq_zero h.hl
      refine (Try.slices_Clone_int_zero ad cap w).mono ?_
      rintro e w1 ⟨v', rfl, h1, _, h2⟩
      exact ⟨_, rfl, h1, h2⟩
    | succ n =>
      obtain rfl := Option.some.inj (h.ha (by omega))
      refine (Try.slices_Clone_int b off (n + 1) cap L w (by rw [h.hl]; exact Nat.le_refl _) (by omega) (fun j hj => ?_)).mono ?_
      · rw [h.cell j hj]
        simp [hj]
      · rintro e w1 ⟨v', rfl, h1, _, h2⟩
        rw [List.take_of_length_le (by rw [h.hl]; exact Nat.le_refl _)] at h1
        exact ⟨_, rfl, h1, h2⟩
end Go.Proofs.Ytpcdbnlljdfogaa
