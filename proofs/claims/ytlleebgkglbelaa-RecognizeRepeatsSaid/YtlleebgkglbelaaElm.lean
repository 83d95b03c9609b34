/- Maps from codes to elements: how they read. -/
import Derived.Test.YtlleebgkglbelaaRce
import Derived.Maps.OwnSet
set_option linter.unusedSimpArgs false
set_option linter.unusedVariables false
namespace Go.Proofs.Ytlleebgkglbelaa
open Go.RowKit
open Go.Maps (Keyed)

open Classical in
/-- how an element reads -/
noncomputable def elR (v : Value) : Option (DataW El × List MemPlace) := if h : ∃ x : El, v = x.val then some (.held (Classical.choose h), []) else none
theorem elR_mk (x : El) : elR x.val = some (.held x, []) := by
  have hex : ∃ y : El, x.val = y.val := ⟨x, rfl⟩
  unfold elR
  rw [dif_pos hex, ← El.inj (Classical.choose_spec hex)]
theorem elR_inv {v : Value} {d : DataW El} {ps : List MemPlace} (h : elR v = some (d, ps)) : ∃ x : El, v = x.val ∧ d = .held x := by
  unfold elR at h
  split at h
  · rename_i hex
    simp only [Option.some.injEq, Prod.mk.injEq] at h
    exact ⟨_, Classical.choose_spec hex, h.1.symm⟩
  · cases h
def kS (s : ByteArray) : Lit := .string s.data.toList
theorem kS_inj {a b : ByteArray} (h : kS a = kS b) : a = b := bs_inj (by simpa [kS] using h)
theorem kS_key (s : ByteArray) : WideAt.IsKeyLit (kS s) := by simp [kS, WideAt.IsKeyLit]
theorem kS_of {s : ByteArray} (h : s.size ≤ maxLen) : keyOf Try.prog 9 (.string s) = some (kS s) := WideMaps.keyOf_string_mk Try.underlying9 h
theorem lawS : Keyed Try.prog 9 := Maps.string_keyed Try.underlying9
/-- the last element with a code -/
def getE (L : List El) (s : ByteArray) : Option El := L.reverse.find? (fun x => decide (x.c = s))
theorem getE_snoc (L : List El) (x : El) (s : ByteArray) : getE (L ++ [x]) s = if x.c = s then some x else getE L s := by
  unfold getE
  rw [List.reverse_append, List.reverse_singleton, List.singleton_append, List.find?_cons]
  by_cases h : x.c = s <;> simp [h]
/-- the map of elements by their codes -/
def putE (L : List El) : DataW El := L.foldl (fun D x => D.put (kS x.c) (.held x)) (.map [])
theorem putE_snoc (L : List El) (x : El) : putE (L ++ [x]) = (putE L).put (kS x.c) (.held x) := by simp [putE, List.foldl_append]
theorem putE_tidy : ∀ (M : List El), Maps.Tidy (putE M.reverse)
  | [] => Maps.tidy_empty
  | x :: t => by
    rw [List.reverse_cons, putE_snoc]
    exact (putE_tidy t).put (kS_key _) _
theorem tidyE (L : List El) : Maps.Tidy (putE L) := by have := putE_tidy L.reverse; rwa [List.reverse_reverse] at this
theorem has_rev (s : ByteArray) : ∀ (M : List El), Maps.has (putE M.reverse) (kS s) = (getE M.reverse s).isSome
  | [] => rfl
  | x :: t => by
    rw [List.reverse_cons, putE_snoc, getE_snoc]
    by_cases h : x.c = s
    · subst h
      rw [Maps.has_put_same (tidyE _).isMap (kS_key _), if_pos rfl]; rfl
    · rw [Maps.has_put_other (fun e => h (kS_inj e).symm), if_neg h, has_rev s t]
theorem hasE (L : List El) (s : ByteArray) : Maps.has (putE L) (kS s) = (getE L s).isSome := by have := has_rev s L.reverse; rwa [List.reverse_reverse] at this
theorem at_rev (s : ByteArray) (z : El) : ∀ (M : List El), (putE M.reverse).atKey (kS s) (.held z) = .held ((getE M.reverse s).getD z)
  | [] => rfl
  | x :: t => by
    rw [List.reverse_cons, putE_snoc, getE_snoc]
    by_cases h : x.c = s
    · subst h
      rw [Maps.atKey_put_same (tidyE _).isMap (kS_key _), if_pos rfl]; rfl
    · rw [Maps.atKey_put_other (fun e => h (kS_inj e).symm), if_neg h, at_rev s z t]
theorem atE (L : List El) (s : ByteArray) (z : El) : (putE L).atKey (kS s) (.held z) = .held ((getE L s).getD z) := by have := at_rev s z L.reverse; rwa [List.reverse_reverse] at this
/-- codes that differ -/
def DistE (L : List El) : Prop := L.Pairwise (fun x y => x.c ≠ y.c)
theorem getE_none {L : List El} {s : ByteArray} (h : ∀ x ∈ L, x.c ≠ s) : getE L s = none := by
  unfold getE
  rw [List.find?_eq_none]
  intro x hx
  simpa using h x (List.mem_reverse.1 hx)
theorem size_rev : ∀ (M : List El), DistE M.reverse → Maps.size (putE M.reverse) = M.length
  | [], _ => rfl
  | x :: t, h => by
    rw [List.reverse_cons] at h
    have h2 := List.pairwise_append.1 h
    have hn : Maps.has (putE t.reverse) (kS x.c) = false := by
      rw [hasE, getE_none (fun y hy => h2.2.2 y hy x (by simp))]; rfl
    rw [List.reverse_cons, putE_snoc, Maps.size_put (tidyE _), if_neg (by rw [hn]; simp), size_rev t h2.1]
    rfl
theorem sizeE {L : List El} (h : DistE L) : Maps.size (putE L) = L.length := by
  have := size_rev L.reverse (by rwa [List.reverse_reverse])
  rwa [List.reverse_reverse, List.length_reverse] at this
theorem size_le_rev : ∀ (M : List El), Maps.size (putE M.reverse) ≤ M.length
  | [] => Nat.le_refl _
  | x :: t => by
    rw [List.reverse_cons, putE_snoc, Maps.size_put (tidyE _), List.length_cons]
    have := size_le_rev t
    split <;> omega
theorem sizeE_le (L : List El) : Maps.size (putE L) ≤ L.length := by
  have := size_le_rev L.reverse
  rwa [List.reverse_reverse, List.length_reverse] at this
theorem zeroEl (w : World) : (zeroValue 66).run Try.prog w = .ok El.zero.val w := by kernel_rfl
/-- a block that is the map of elements -/
def MapE (w : World) (b n : Nat) (L : List El) : Prop := w.ownsMap Try.prog 9 elR b n (putE L)
theorem MapE.low {w w' : World} {B b n : Nat} {L : List El} (h : MapE w b n L) (hB : Below B w w') (hb : b < B) : MapE w' b n L := by
  obtain ⟨es, clock, h1, h2⟩ := h
  exact ⟨es, clock, (hB.block b hb).trans h1, h2⟩
theorem MapE.lt {w : World} {b n : Nat} {L : List El} (h : MapE w b n L) : b < w.heap.size := World.ownsMap.lt h
theorem MapE.keep {w w' : World} {b n : Nat} {L : List El} (h : MapE w b n L) (hB : Below w.heap.size w w') : MapE w' b n L := h.low hB h.lt
/-- 'v, ok := m[s]' -/
theorem wpList_look_el (w : World) {ops : Array Oper} {rest : List Oper} {o : Oper} {a : Act} {Q : Exit → Act → World → Prop}
    (hg : o.guard = none) (m x : Operand) (hop : o.op = Op.lookup 93 m x true) (b n : Nat) (L : List El) (hm : a.eval m = .map (some b)) (hown : MapE w b n L) (s : ByteArray) (hx : a.eval x = .string s) (hs : s.size ≤ maxLen)
    (y : El) (hy : (getE L s).getD El.zero = y) (q : Bool) (hq : (getE L s).isSome = q) (v : Value) (hv : y.val = v)
    (hK : wpList Try.prog ops Q rest (a.put o.dst (.tuple #[v, .bool q])) w) :
    wpList Try.prog ops Q (o :: rest) a w := by
  refine wpList_lookup_own_ok w hg m x 93 hop 9 66 lawS Try.underlying93 elR (zeroEl w) (.held El.zero) [] (elR_mk _) b n (putE L) hm hown (.string s) (kS s) hx (kS_of hs) ?_
  subst hy hq hv
  intro v ps hv
  rw [atE] at hv
  obtain ⟨y, rfl, hy⟩ := elR_inv hv
  simp only [DataW.held.injEq] at hy
  rw [← hy, hasE]
  exact hK
/-- 'm[x.c] = x' -/
theorem wpList_put_el (w : World) {ops : Array Oper} {rest : List Oper} {o : Oper} {a : Act} {Q : Exit → Act → World → Prop}
    (hg : o.guard = none) (m x v : Operand) (hop : o.op = Op.mapUpdate 93 m x v) (b n : Nat) (L : List El) (hm : a.eval m = .map (some b)) (hown : MapE w b n L) (hn : n < maxLen) (y : El) (hx : a.eval x = .string y.c) (hv : a.eval v = y.val) (hs : y.c.size ≤ maxLen)
    (hK : ∀ w', MapE w' b (n + 1) (L ++ [y]) → w.grownBy w' (some b) → wpList Try.prog ops Q rest (a.put o.dst undef) w') :
    wpList Try.prog ops Q (o :: rest) a w := by
  refine wpList_mapUpdate_own w hg m x v 93 hop 9 66 lawS Try.underlying93 elR b n (putE L) hm hown hn (.string y.c) y.val (kS y.c) hx hv (kS_of hs) (.held y) [] (elR_mk y) ?_
  intro w' h1 h2
  refine hK w' ?_ h2
  unfold MapE
  rw [putE_snoc]
  exact h1
end Go.Proofs.Ytlleebgkglbelaa
