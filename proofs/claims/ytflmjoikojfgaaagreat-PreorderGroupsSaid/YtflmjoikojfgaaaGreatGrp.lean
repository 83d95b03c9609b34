/- preorder.Groups: the rows in groups that tie, from the best to the worst. -/
import Derived.Test.YtflmjoikojfgaaaGreatOrder
import Derived.Test.YtflmjoikojfgaaaGreatApp
set_option linter.unusedSimpArgs false
set_option linter.unusedVariables false
namespace Go.Proofs.YtflmjoikojfgaaaGreat
open Go.RowKit Go.Sort

def tieB (C : List (List (Int × Int))) (i k : Nat) : Bool := decide (ahC (C.getD i []) (C.getD k []) = 0)
/-- the groups of the first k of an order -/
def grpK (C : List (List (Int × Int))) (O : List Nat) : Nat → List (List Nat)
  | 0 => []
  | k + 1 => if 0 < k ∧ tieB C (O.getD (k - 1) 0) (O.getD k 0) = true then (grpK C O k).dropLast ++ [(grpK C O k).getLastD [] ++ [O.getD k 0]] else grpK C O k ++ [[O.getD k 0]]
theorem grpK_ne (C : List (List (Int × Int))) (O : List Nat) (k : Nat) : 0 < k → grpK C O k ≠ [] := by
  intro h
  cases k with
  | zero => omega
  | succ k => unfold grpK; split <;> simp
theorem grpK_len (C : List (List (Int × Int))) (O : List Nat) : ∀ k, (grpK C O k).length ≤ k
  | 0 => Nat.le_refl _
  | k + 1 => by
    have := grpK_len C O k
    unfold grpK
    split
    · rw [List.length_append, List.length_dropLast]; simp; omega
    · rw [List.length_append]; simp; omega
theorem grpK_lens (C : List (List (Int × Int))) (O : List Nat) : ∀ k, ∀ g ∈ grpK C O k, g.length ≤ k
  | 0, g, h => by simp [grpK] at h
  | k + 1, g, h => by
    unfold grpK at h
    have ih := grpK_lens C O k
    split at h
    · rw [List.mem_append] at h
      rcases h with h | h
      · exact Nat.le_succ_of_le (ih g ((List.dropLast_sublist (grpK C O k)).subset h))
      · rw [List.mem_singleton] at h
        subst h
        rw [List.length_append]
        by_cases h0 : grpK C O k = []
        · rw [h0]; simp
        · rw [List.getLastD_eq_getLast?, List.getLast?_eq_some_getLast h0]
          have := ih _ (List.getLast_mem h0)
          simp only [Option.getD_some, List.length_singleton]
          omega
    · rw [List.mem_append] at h
      rcases h with h | h
      · exact Nat.le_succ_of_le (ih g h)
      · rw [List.mem_singleton] at h
        subst h
        simp
/-- a group, as it lies -/
structure Gr where
  g : Nat
  cap : Nat
  L : List Nat
def Gr.val (x : Gr) : Value := .slice (some ⟨x.g, 0, none⟩) x.L.length x.cap
/-- groups that the call owns, each in a block of its own -/
structure GrOk (B : Nat) (w : World) (v : Value) (G : List Gr) : Prop where
  row : w.ownsRow B 31 1 v G.length (G.map Gr.val)
  each : ∀ x ∈ G, w.ownsRow B 3 1 x.val x.L.length ((natL x.L).map (Value.int .i64))
  apart : (G.map Gr.g).Nodup
  off : ∀ x ∈ G, v.ownBlock ≠ some x.g
theorem val_blk (x : Gr) : x.val.ownBlock = some x.g := rfl
theorem GrOk.nil (B : Nat) (w : World) : GrOk B w (.slice none 0 0) [] := ⟨World.ownsRow_nil w _ _ _, fun x h => by simp at h, by simp, fun x h => by simp at h⟩
theorem GrOk.below {B : Nat} {w w' : World} {v : Value} {G : List Gr} (h : GrOk B w v G) (hB : Below w.heap.size w w') : GrOk B w' v G :=
  ⟨own_below h.row hB, fun x hx => own_below (h.each x hx) hB, h.apart, h.off⟩
theorem info31 : (Tryz.prog.info? 31).map (fun i => (i.zero, i.size, i.bytes)) = some (some (.slice none 0 0), 1, 24) := by kernel_rfl
/-- one more group, in a block that is new -/
theorem GrOk.more {B : Nat} {w w' : World} {v v' : Value} {G : List Gr} (h : GrOk B w v G) {x : Gr} (hx : w.ownsRow B 3 1 x.val x.L.length ((natL x.L).map (Value.int .i64))) (hnew : ∀ y ∈ G, y.g ≠ x.g) (hvx : v.ownBlock ≠ some x.g)
    (ho : w'.ownsRow B 31 1 v' (G.length + 1) (G.map Gr.val ++ [x.val])) (hg : w.grownBy w' v.ownBlock) (hb : v'.ownBlock = v.ownBlock ∨ ∀ k, v'.ownBlock = some k → w.heap.size ≤ k) : GrOk B w' v' (G ++ [x]) := by
  refine ⟨?_, ?_, ?_, ?_⟩
  · rw [List.length_append, List.map_append]; exact ho
  · intro y hy
    rw [List.mem_append, List.mem_singleton] at hy
    rcases hy with hy | rfl
    · exact (h.each y hy).kept hg (Or.inr fun e => h.off y hy e.symm)
    · exact hx.kept hg (Or.inr fun e => hvx e.symm)
  · rw [List.map_append, List.map_singleton, List.nodup_append]
    refine ⟨h.apart, by simp, ?_⟩
    intro a ha b hb' e
    rw [List.mem_singleton] at hb'
    obtain ⟨y, hy, rfl⟩ := List.mem_map.1 ha
    exact hnew y hy (e.trans hb')
  · intro y hy
    rcases hb with hb | hb
    · rw [hb]
      rw [List.mem_append, List.mem_singleton] at hy
      rcases hy with hy | rfl
      · exact h.off y hy
      · exact hvx
    · intro e
      have h1 := hb _ e
      rw [List.mem_append, List.mem_singleton] at hy
      have h2 : y.g < w.heap.size := by
        rcases hy with hy | rfl
        · exact ((h.each y hy).lt y.g rfl).2
        · exact (hx.lt _ rfl).2
      omega
theorem last_split {α : Type} [Inhabited α] {G : List α} (h : G ≠ []) : G = G.dropLast ++ [G.getLast h] := (List.dropLast_concat_getLast h).symm
/-- one more element in the last group -/
theorem GrOk.onto {B : Nat} {w w1 : World} {v v' : Value} {H : List Gr} {x : Gr} {i gb cap : Nat} (h : GrOk B w v (H ++ [x])) (hv : v = .slice (some ⟨gb, 0, none⟩) (H.length + 1) cap) {y : Gr} (hy : v' = y.val) (hyL : y.L = x.L ++ [i])
    (ho : w1.ownsRow B 3 1 v' (x.L.length + 1) ((natL x.L).map (Value.int .i64) ++ [.int .i64 (i : Int)])) (hg : w.grownBy w1 x.val.ownBlock) (hb : v'.ownBlock = x.val.ownBlock ∨ ∀ k, v'.ownBlock = some k → w.heap.size ≤ k) :
    GrOk B (w1.setCell ⟨gb, H.length, none⟩ v') v (H ++ [y]) := by
  subst hy
  have hx := h.each x (by simp)
  have hoff := h.off x (by simp)
  have hyg : y.g = x.g ∨ w.heap.size ≤ y.g := by
    rcases hb with hb | hb
    · left
      rw [val_blk, val_blk] at hb
      exact Option.some.inj hb
    · right; exact hb _ rfl
  have hgb : gb < w.heap.size := (h.row.lt gb (by rw [hv]; rfl)).2
  have hgx : gb ≠ x.g := fun e => hoff (by rw [hv, e]; rfl)
  have hyb : gb ≠ y.g := by
    rcases hyg with e | e
    · rw [e]; exact hgx
    · omega
  have hrow1 := h.row.kept hg (Or.inr (by rw [val_blk]; exact hoff))
  have hset := grownBy_set w1 ⟨gb, H.length, none⟩ y.val
  refine ⟨?_, ?_, ?_, ?_⟩
  · subst hv
    rw [List.length_append, List.length_singleton] at hrow1 ⊢
    have h2 := (hrow1.stored H.length y.val).1
    rw [List.map_append, List.map_singleton] at h2 ⊢
    have e : (H.map Gr.val ++ [x.val]).set H.length y.val = H.map Gr.val ++ [y.val] := by
      rw [List.set_append_right _ _ (by simp)]
      simp
    rw [← e]
    exact h2
  · intro z hz
    rw [List.mem_append, List.mem_singleton] at hz
    rcases hz with hz | rfl
    · have hzo := h.each z (by simp [hz])
      have hzx : z.g ≠ x.g := by
        have := h.apart
        rw [List.map_append, List.map_singleton, List.nodup_append] at this
        exact this.2.2 z.g (List.mem_map.2 ⟨z, hz, rfl⟩) x.g (by simp)
      have hz1 := hzo.kept hg (Or.inr (by rw [val_blk, val_blk]; exact fun e => hzx (Option.some.inj e)))
      refine hz1.kept hset (Or.inr ?_)
      rw [val_blk]
      intro e
      have := h.off z (by simp [hz])
      rw [hv] at this
      exact this e.symm
    · have e2 : ((natL z.L).map (Value.int .i64)) = (natL x.L).map (Value.int .i64) ++ [.int .i64 (i : Int)] := by rw [hyL]; simp [natL]
      have e3 : z.L.length = x.L.length + 1 := by rw [hyL]; simp
      rw [e2, e3]
      refine ho.kept hset (Or.inr ?_)
      rw [val_blk]
      intro e
      exact hyb (Option.some.inj e).symm
  · rw [List.map_append, List.map_singleton, List.nodup_append]
    have hap := h.apart
    rw [List.map_append, List.map_singleton, List.nodup_append] at hap
    refine ⟨hap.1, by simp, ?_⟩
    intro a ha b hb' e
    rw [List.mem_singleton] at hb'
    subst hb' e
    rcases hyg with e | e
    · exact hap.2.2 _ ha x.g (by simp) e
    · obtain ⟨z, hz, hzg⟩ := List.mem_map.1 ha
      have := ((h.each z (by simp [hz])).lt z.g rfl).2
      omega
  · intro z hz
    rw [List.mem_append, List.mem_singleton] at hz
    rcases hz with hz | rfl
    · exact h.off z (by simp [hz])
    · rw [hv]
      intro e
      exact hyb (Option.some.inj e)
end Go.Proofs.YtflmjoikojfgaaaGreat
