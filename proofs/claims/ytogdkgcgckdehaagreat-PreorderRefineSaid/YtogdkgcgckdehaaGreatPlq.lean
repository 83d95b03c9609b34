/- What a list of places is; a slice of the call's own that a later world keeps. -/
import Derived.Test.YtogdkgcgckdehaaGreatOwn
set_option linter.unusedSimpArgs false
set_option linter.unusedVariables false
namespace Go.Proofs.YtogdkgcgckdehaaGreat
open Go.RowKit Go.Sort

theorem infoI : (Tryz.prog.info? 3).map (fun i => (i.zero, i.size, i.bytes)) = some (some (.int .i64 0), 1, 8) := by kernel_rfl
theorem infoR : (Tryz.prog.info? 27).map (fun i => (i.zero, i.size, i.bytes)) = some (some (.slice none 0 0), 1, 24) := by kernel_rfl
/-- the place of each element: one more than the number of those that stand before it -/
def plcL {α : Type} (cf : α → α → Int) (L : List α) : List Int := L.map fun x => 1 + (befN cf L x : Int)
theorem plcL_len {α : Type} (cf : α → α → Int) (L : List α) : (plcL cf L).length = L.length := by simp [plcL]
def PlcPost (w : World) (len : Nat) (P : List Int) (e : Ending) (w' : World) : Prop :=
  ∃ gb, e = .returned (.slice (some ⟨gb, 0, none⟩) len len) ∧ SlI w' (some ⟨gb, 0, none⟩) gb 0 len len P ∧ (w.heap.size ≤ gb ∧ ∀ k, w'.frozen? ⟨gb, k, none⟩ = false) ∧ Below w.heap.size w w'
theorem own_blk {w : World} {base g e n cap : Nat} {xs : List Value} (h : w.ownsRow base e 1 (.slice (some ⟨g, 0, none⟩) n cap) n xs) : g < w.heap.size ∧ ∀ k, w.frozen? ⟨g, k, none⟩ = false := by
  refine ⟨?_, fun k => h.frozenAt k⟩
  rcases h.2 with ⟨h', _⟩ | ⟨g', cap', cur, h', _, hb, _⟩
  · cases h'
  · cases h'
    exact (Array.getElem?_eq_some_iff.1 hb).1
theorem own_below {w w' : World} {base e n : Nat} {v : Value} {xs : List Value} (h : w.ownsRow base e 1 v n xs) (hB : Below w.heap.size w w') : w'.ownsRow base e 1 v n xs := by
  obtain ⟨hl, h⟩ := h
  rcases h with h | ⟨g, cap, cur, h', hg, hb, hr⟩
  · exact ⟨hl, Or.inl h⟩
  · exact ⟨hl, Or.inr ⟨g, cap, cur, h', hg, by rw [hB.block g (Array.getElem?_eq_some_iff.1 hb).1]; exact hb, hr⟩⟩
theorem own_low {w : World} {base base' e n : Nat} {v : Value} {xs : List Value} (h : w.ownsRow base e 1 v n xs) (hb : base' ≤ base) : w.ownsRow base' e 1 v n xs := by
  obtain ⟨hl, h⟩ := h
  rcases h with h | ⟨g, cap, cur, h', hg, h''⟩
  · exact ⟨hl, Or.inl h⟩
  · exact ⟨hl, Or.inr ⟨g, cap, cur, h', Nat.le_trans hb hg, h''⟩⟩
theorem setI_next {len k : Nat} {Z P : List Int} {v : Int} (hZ : Z.length = len) (hk : k < len) (hv : P.getD k 0 = v) (h : ∀ j, j < k → Z.getD j 0 = P.getD j 0) : ∀ j, j < k + 1 → (Z.set k v).getD j 0 = P.getD j 0 := by
  intro j hj
  by_cases e : j = k
  · subst e
    simp [List.getD, hZ, hk]
    rw [← hv]
    rfl
  · have := h j (by omega)
    simp only [List.getD] at this ⊢
    rw [List.getElem?_set_ne (by omega)]
    exact this
theorem eq_getD {A B : List Int} (hl : A.length = B.length) (h : ∀ j, j < A.length → A.getD j 0 = B.getD j 0) : A = B := by
  apply List.ext_getElem hl
  intro j h1 h2
  have := h j h1
  simpa [List.getD, h1, h2] using this
theorem plc_end {w : World} {base g e n : Nat} {Z P : List Int} (h : w.ownsRow base e 1 (.slice (some ⟨g, 0, none⟩) n n) n (Z.map (Value.int .i64))) (hP : P.length = n) (hZ : Z.length = n) (hm : n ≤ maxLen) (hv : ∀ j, j < n → Z.getD j 0 = P.getD j 0) :
    SlI w (some ⟨g, 0, none⟩) g 0 n n P := by
  have e : Z = P := eq_getD (by omega) (fun j hj => hv j (by omega))
  subst e
  refine ⟨hZ, fun _ => rfl, fun _ => (own_blk h).1, Nat.le_refl _, hm, fun k hk => ?_⟩
  rw [Nat.zero_add, h.cellAt k (by omega)]
  simp [hk]
end Go.Proofs.YtogdkgcgckdehaaGreat
