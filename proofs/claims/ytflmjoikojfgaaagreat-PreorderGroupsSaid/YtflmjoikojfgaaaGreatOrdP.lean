/- Plain facts: the insertion sort keeps the order of equals. -/
import Derived.Test.YtflmjoikojfgaaaGreatPlcP
import Derived.Sort.LotA
set_option linter.unusedSimpArgs false
set_option linter.unusedVariables false
namespace Go.Proofs.YtflmjoikojfgaaaGreat
open Go.Sort
variable {α : Type} [Inhabited α]

/-- by c, then by the index -/
def byIx (c : α → α → Int) (ix : α → Nat) : α → α → Int := thenC c (onC (fun x => (ix x : Int)) Lib.compareInt)
omit [Inhabited α] in
theorem byIx_tot {c : α → α → Int} (h : Tot c) (ix : α → Nat) : Tot (byIx c ix) := h.then (tot_int.on _)
omit [Inhabited α] in
theorem byIx_lt {c : α → α → Int} {ix : α → Nat} {x y : α} (h : ix y < ix x) : ltOf (byIx c ix) x y = ltOf c x y := by
  unfold ltOf byIx thenC onC
  rw [decide_eq_decide]
  by_cases e : c x y = 0
  · rw [if_pos e, e]
    show (if (ix x : Int) < (ix y : Int) then (-1 : Int) else if (ix x : Int) > (ix y : Int) then 1 else 0) < 0 ↔ (0 : Int) < 0
    rw [if_neg (by omega), if_pos (by omega)]
    omega
  · rw [if_neg e]
theorem insInner_eq {c : α → α → Int} {ix : α → Nat} : ∀ (j : Nat) (d : Array α), j < d.size → (∀ p, p < j → ix d[p]! < ix d[j]!) → insInner (ltOf c) 0 j d = insInner (ltOf (byIx c ix)) 0 j d
  | 0, d, _, _ => rfl
  | j + 1, d, hj, h => by
    unfold insInner
    rw [byIx_lt (h j (by omega))]
    have g := swp_get d hj (show j < d.size by omega)
    rw [insInner_eq j (swp d (j + 1) j) (by rw [swp_size]; omega) (fun p hp => by
      rw [g, g]
      simp only [show p ≠ j by omega, show p ≠ j + 1 by omega, if_false, if_true]
      exact h p (by omega))]
/-- up to i they are the first ones, behind it each stands at its place -/
def IxInv (ix : α → Nat) (i : Nat) (d : Array α) : Prop := (∀ p, p < i → p < d.size → ix d[p]! < i) ∧ ∀ q, i ≤ q → q < d.size → ix d[q]! = q
theorem insInner_inv {lt : α → α → Bool} {ix : α → Nat} {a i : Nat} : ∀ (j : Nat) (d : Array α), j < i → i ≤ d.size → IxInv ix i d → IxInv ix i (insInner lt a j d) ∧ (insInner lt a j d).size = d.size
  | 0, d, _, _, h => ⟨h, rfl⟩
  | j + 1, d, hj, hi, h => by
    unfold insInner
    split
    · have g := swp_get d (show j + 1 < d.size by omega) (show j < d.size by omega)
      have h2 : IxInv ix i (swp d (j + 1) j) := by
        refine ⟨fun p hp hps => ?_, fun q hq hqs => ?_⟩
        · rw [g]
          rw [swp_size] at hps
          split
          · exact h.1 _ (by omega) (by omega)
          · split
            · exact h.1 _ (by omega) (by omega)
            · exact h.1 _ (by omega) (by omega)
        · rw [swp_size] at hqs
          rw [g]
          rw [if_neg (by omega), if_neg (by omega)]
          exact h.2 q hq hqs
      have ih := insInner_inv (lt := lt) (a := a) j (swp d (j + 1) j) (by omega) (by rw [swp_size]; exact hi) h2
      exact ⟨ih.1, by rw [ih.2, swp_size]⟩
    · exact ⟨h, rfl⟩
theorem insOuter_eq {c : α → α → Int} {ix : α → Nat} {b : Nat} : ∀ (n i : Nat) (d : Array α), b - i = n → 0 < i → b ≤ d.size → IxInv ix i d → insOuter (ltOf c) 0 b i d = insOuter (ltOf (byIx c ix)) 0 b i d
  | 0, i, d, hn, _, _, _ => by
    rw [insOuter, if_neg (by omega), insOuter, if_neg (by omega)]
  | n + 1, i, d, hn, hi, hb, h => by
    have hlt : i < b := by omega
    rw [insOuter, if_pos hlt, show insOuter (ltOf (byIx c ix)) 0 b i d = insOuter (ltOf (byIx c ix)) 0 b (i + 1) (insInner (ltOf (byIx c ix)) 0 i d) from by rw [insOuter, if_pos hlt]]
    have hix : ix d[i]! = i := h.2 i (Nat.le_refl _) (by omega)
    have e1 := insInner_eq (c := c) (ix := ix) i d (by omega) (fun p hp => by rw [hix]; exact h.1 p hp (by omega))
    have h2 : IxInv ix (i + 1) d := ⟨fun p hp hps => by
      by_cases e : p = i
      · subst e; omega
      · have := h.1 p (by omega) hps; omega, fun q hq hqs => h.2 q (by omega) hqs⟩
    have h3 := insInner_inv (lt := ltOf (byIx c ix)) (a := 0) i d (Nat.lt_succ_self i) (by omega) h2
    rw [e1]
    exact insOuter_eq n (i + 1) _ (by omega) (by omega) (by rw [h3.2]; exact hb) h3.1
/-- the insertion sort of elements that stand in the order of their indices: sorted by c, equals by their indices -/
theorem ins_stable {c : α → α → Int} (hT : Tot c) {ix : α → Nat} (d : Array α) (h : ∀ q, q < d.size → ix d[q]! = q) :
    PermIn 0 d.size d (insertionSort (ltOf c) d 0 d.size) ∧ SortedIn (ltOf (byIx c ix)) 0 d.size (insertionSort (ltOf c) d 0 d.size) := by
  have e : insertionSort (ltOf c) d 0 d.size = insertionSort (ltOf (byIx c ix)) d 0 d.size := by
    unfold insertionSort
    by_cases h0 : d.size = 0
    · rw [insOuter, if_neg (by omega), insOuter, if_neg (by omega)]
    · exact insOuter_eq _ 1 d rfl (by omega) (Nat.le_refl _) ⟨fun p hp hps => by rw [h p hps]; exact hp, fun q _ hqs => h q hqs⟩
  rw [e]
  exact insertionSort_holds (swo_of (byIx_tot hT ix)) d 0 d.size (Nat.zero_le _) (Nat.le_refl _)
end Go.Proofs.YtflmjoikojfgaaaGreat
