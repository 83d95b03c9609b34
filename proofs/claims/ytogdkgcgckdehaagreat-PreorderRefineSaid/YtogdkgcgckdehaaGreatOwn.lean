/- A slice of the call's own, sorted by the library: what it owns behind it; at whatever encoding of one cell. -/
import Derived.Test.YtogdkgcgckdehaaGreatBox
import Derived.Test.YtogdkgcgckdehaaGreatPlcP
import Derived.Laws.OwnMore
import Derived.Sort.Grow
set_option linter.unusedSimpArgs false
set_option linter.unusedVariables false
namespace Go.Proofs.YtogdkgcgckdehaaGreat
open Go.RowKit Go.Sort
variable {α : Type} [Inhabited α] {enc : α → Value}

omit [Inhabited α] in
theorem getL {L : List α} [Inhabited α] {j : Nat} (h : j < L.length) : L.toArray[j]! = L[j] := by simp [h]
theorem holds_blk {w : World} {g : Nat} {cur : Array Value} {e : TypeId} {ss : List α} (hb : w.heap[g]? = some (.cells cur e (0, 0))) (ht : cur.toList.take ss.length = ss.map enc) : Holds enc w g 0 ss.toArray := by
  intro j hj
  have hj' : j < ss.length := by simpa using hj
  refine ⟨?_, by simp [World.frozen?, hb]⟩
  have h1 : (cur.toList.take ss.length)[j]? = (ss.map enc)[j]? := by rw [ht]
  rw [List.getElem?_take_of_lt hj'] at h1
  simp only [World.cell?, hb, Nat.zero_add]
  simp only [Option.isSome_none, Bool.false_eq_true, if_false]
  rw [← Array.getElem?_toList, h1]
  simp [hj']
theorem heap_srt {w : World} {g n : Nat} {os : Array Obj} {cur : Array Value} {e : TypeId} {fr : Nat × Nat} (d : Array α) (hb : w.heap[g]? = some (.cells cur e fr)) :
    (grow (putRow enc (Sort.ahead w n) g 0 d) os).heap[g]? = some (.cells (putCells enc 0 d cur) e fr) := by
  have hg : g < w.heap.size := (Array.getElem?_eq_some_iff.1 hb).1
  rw [heap_grow_old _ _ (by simpa using hg)]
  simp [putRow, mapBlock, Sort.ahead, Array.getElem?_modify, hb, onCells]
theorem grownBy_srt {w : World} {g n : Nat} {os : Array Obj} (d : Array α) : w.grownBy (grow (putRow enc (Sort.ahead w n) g 0 d) os) (some g) := by
  refine ⟨rfl, rfl, rfl, by simp, fun k hk hne => ?_⟩
  rw [heap_grow_old _ _ (by simpa using hk)]
  have : g ≠ k := fun e => hne (by rw [e])
  simp [putRow, mapBlock, Sort.ahead, Array.getElem?_modify, this]
theorem take_put (cur : Array Value) (ts : List α) (h : ts.length ≤ cur.size) : (putCells enc 0 ts.toArray cur).toList.take ts.length = ts.map enc := by
  apply List.ext_getElem?
  intro j
  by_cases hj : j < ts.length
  · rw [List.getElem?_take_of_lt hj, Array.getElem?_toList]
    simp [putCells, hj, show j < cur.size by omega]
  · rw [List.getElem?_take_eq_none (by omega), List.getElem?_eq_none (by simp; omega)]
theorem ownsRow_srt {w : World} {base g cap n m : Nat} {e : TypeId} {os : Array Obj} {cur : Array Value} {d : Array α} (hm : d.size = m) (hbase : base ≤ g) (hb : w.heap[g]? = some (.cells cur e (0, 0)))
    (h1 : m ≤ cap) (h2 : cap ≤ maxLen) (h3 : cur.size = cap * 1) :
    (grow (putRow enc (Sort.ahead w n) g 0 d) os).ownsRow base e 1 (.slice (some ⟨g, 0, none⟩) m cap) m (d.toList.map enc) := by
  refine ⟨by simp [hm], .inr ⟨g, cap, _, rfl, hbase, heap_srt _ hb, h1, h2, by simp [putCells, h3], ?_⟩⟩
  rw [Nat.mul_one, ← hm]
  have := take_put (enc := enc) cur d.toList (by simp; omega)
  simpa using this
omit [Inhabited α] in
/-- a slice of the call's own, read -/
theorem own_sl {w : World} {base n : Nat} {e : TypeId} {v : Value} {L : List α} (hn : L.length = n) (h : w.ownsRow base e 1 v n (L.map enc)) :
    ∃ a b cap, v = .slice a n cap ∧ SlG enc w a b 0 n cap L ∧ (a = none → cap = 0) ∧ (0 < n → base ≤ b) := by
  have hcell := h
  subst hn
  rcases h.2 with ⟨rfl, h0⟩ | ⟨g, cap, cur, rfl, hg, hb, h1, h2, h3, h4⟩
  · have : L = [] := List.eq_nil_of_length_eq_zero h0
    subst this
    exact ⟨none, 0, 0, rfl, slg_nil enc w, fun _ => rfl, fun h => absurd h (Nat.lt_irrefl 0)⟩
  · have hgs : g < w.heap.size := (Array.getElem?_eq_some_iff.1 hb).1
    refine ⟨_, g, cap, rfl, ⟨rfl, fun _ => rfl, fun _ => hgs, h1, h2, fun k hk => ?_⟩, (fun h => by cases h), fun _ => hg⟩
    rw [Nat.zero_add, hcell.cellAt k (by omega)]
    simp [hk]
/-- a list that is sorted -/
def SrtG (c : α → α → Int) (L : List α) : Prop := SortedIn (ltOf c) 0 L.length L.toArray
theorem SrtG.mono {c : α → α → Int} {L : List α} (hT : Tot c) (h : SrtG c L) (x : α) {i j : Nat} (hi : i < L.length) (hj : j < L.length) (hij : i ≤ j) (hf : decide (c (L[i]'hi) x < 0) = false) : decide (c (L[j]'hj) x < 0) = false := by
  have := sorted_mono hT h x i j hij hj (by rw [getL hi, hf]; rfl)
  rw [getL hj] at this
  simpa using this
/-- what is asked of a comparison: in whatever world in which what lay below B lies unturned -/
def CmpG (enc : α → Value) (cf : α → α → Int) (g : Nat) (cb : Array Value) (B : Nat) (w : World) : Prop :=
  ∀ W, Below B w W → ∀ x y : α, Calls Tryz.prog g (#[enc x, enc y] ++ cb) W fun e w' => e = .returned (.int .i64 (cf x y)) ∧ Grw W w'
omit [Inhabited α] in
theorem CmpG.later {cf : α → α → Int} {g : Nat} {cb : Array Value} {B : Nat} {w W : World} (h : CmpG enc cf g cb B w) (hW : Below B w W) : CmpG enc cf g cb B W := fun W' hW' => h W' (hW.trans hW')
end Go.Proofs.YtogdkgcgckdehaaGreat
