/- leaving: rows behind one another in one block; an append into a row's own room. -/
import Derived.Test.YtpcdbnlljdfogaaLev
set_option linter.unusedSimpArgs false
set_option linter.unusedVariables false
namespace Go.Proofs.Ytpcdbnlljdfogaa
open Go.RowKit

theorem info48 : (Try.prog.info? 22).map (fun i => (i.zero, i.size, i.bytes)) = some (some (.slice none 0 0), 1, 24) := by kernel_rfl
theorem wpList_append_spot {P : Program} (w : World) {ops : Array Oper} {rest : List Oper} {o : Oper} {a : Act} {Q : Exit → Act → World → Prop} (hgd : o.guard = none) (s x : Operand) (t : TypeId)
    (ho : o.op = .call { callee := .builtin .append, args := #[s, x], argTypes := #[t, t] })
    (e : TypeId) (i : TypeInfo) (ht : P.underlying t = some (.slice e)) (hi : P.info? e = some i) (hsize : i.size = 1)
    (b off n cap : Nat) (hs : a.eval s = .slice (some ⟨b, off, none⟩) n cap)
    (ad : Addr) (c : Nat) (v : Value) (hx : a.eval x = .slice (some ad) 1 c) (hnew : w.cell? (ad.add 0) = some v) (h1 : v.oneCell' = true)
    (hroom : n + 1 ≤ cap) (hc : (w.cell? ⟨b, off + n, none⟩).isSome = true) (hf : w.frozen? ⟨b, off + n, none⟩ = false)
    (h : wpList P ops Q rest (a.put o.dst (.slice (some ⟨b, off, none⟩) (n + 1) cap)) (w.setCell ⟨b, off + n, none⟩ v)) : wpList P ops Q (o :: rest) a w := by
  refine wpList_plain hgd fun K hK => ?_
  have hr := run_append_room_cells (P := P) w t o.type e i ht hi b off n cap ad 1 c [v] (by rw [hsize]; rfl) (fun j u hj => ?_) (fun u hu => ?_) hroom (fun j hj => ?_) (fun j hj => ?_)
  · unfold Oper.wp execOp
    simp only [ho, resolve, invoke, builtin, Sem.run_bind, Sem.run_pure, Result.andThen_ok, List.map_toArray, List.map_cons, List.map_nil, hs, hx, hr, hsize, Nat.mul_one]
    exact hK _ _ h
  · match j, hj with
    | 0, hj => simp at hj; subst hj; exact hnew
    | j + 1, hj => simp at hj
  · simp at hu; subst hu; exact h1
  · simp at hj; subst hj; rw [hsize]; simpa using hc
  · simp at hj; subst hj; rw [hsize]; simpa using hf
/-- the row of a vertex when the arcs below k are laid -/
def lv (gr : Nat) (H : List Int) (k v : Nat) : Value := .slice (some ⟨gr, po H v, none⟩) (arcsL (swp H) v k).length (H.count (v : Int))
structure LevK (w : World) (B gl gr n : Nat) (H : List Int) (k : Nat) (C : List Int) : Prop where
  g : OwI w B (.slice (some ⟨gr, 0, none⟩) H.length H.length) H.length C
  l : w.ownsRow B 22 1 (.slice (some ⟨gl, 0, none⟩) n n) n ((List.range n).map (lv gr H k))
  c : ∀ v, v < n → ∀ (j : Nat) (x : Int), (arcsL (swp H) v k)[j]? = some x → C[offs H v + j]? = some x
  ne : gl ≠ gr
theorem LevK.low {w w' : World} {B gl gr n : Nat} {H C : List Int} {k : Nat} (h : LevK w B gl gr n H k C) (hB : Below w.heap.size w w') : LevK w' B gl gr n H k C := by
  refine ⟨h.g.keep hB, ?_, h.c, h.ne⟩
  refine ⟨h.l.1, ?_⟩
  have hl := World.ownsRow.lt h.l gl rfl
  rcases h.l.2 with hn | ⟨g, cap, cur, hv, h1, h2, h3⟩
  · exact .inl hn
  · have : g = gl := by cases hv; rfl
    subst this
    exact .inr ⟨g, cap, cur, hv, h1, (hB.block g hl.2).trans h2, h3⟩
/-- one arc more -/
theorem LevK.step {w : World} {B gl gr n : Nat} {H C : List Int} {k t : Nat} (h : LevK w B gl gr n H k C) (hk : k < H.length) (ht : atI (swp H) (k : Int) = (t : Int)) (htn : t < n) :
    LevK ((w.setCell ⟨gr, offs H t + (arcsL (swp H) t k).length, none⟩ (.int .i64 (k : Int))).setCell ⟨gl, t, none⟩ (lv gr H (k + 1) t)) B gl gr n H (k + 1) (C.set (offs H t + (arcsL (swp H) t k).length) (k : Int)) := by
  have hsl := swp_length H
  have hcn : (swp H).count (t : Int) = H.count (t : Int) := swp_cnt _ _ H (Nat.le_refl _)
  have hlt := arcsL_lt (swp H) t k (by omega) ht
  have ho := offs_le H (t + 1)
  have ho' : offs H (t + 1) = offs H t + H.count (t : Int) := rfl
  have hne := h.ne
  refine ⟨(h.g.put _ _).far _ (by simp [Value.ownBlock]; exact fun e => hne e.symm), ?_, ?_, h.ne⟩
  · have e : (List.range n).map (lv gr H (k + 1)) = ((List.range n).map (lv gr H k)).set t (lv gr H (k + 1) t) := by
      apply List.ext_getElem
      · simp
      · intro i h1 h2
        rw [List.getElem_set]
        simp only [List.getElem_map, List.getElem_range]
        by_cases hi : t = i
        · subst hi; simp
        · rw [if_neg hi]
          unfold lv
          congr 2
          show arcsL (swp H) i k ++ (if atI (swp H) (k : Int) = (i : Int) then [(k : Int)] else []) = _
          rw [if_neg (by rw [ht]; omega), List.append_nil]
    rw [e]
    have h2 := World.ownsRow.kept h.l (grownBy_set w ⟨gr, offs H t + (arcsL (swp H) t k).length, none⟩ (.int .i64 (k : Int))) (.inr (by simp [Value.ownBlock]; exact hne))
    exact (World.ownsRow.stored h2 t (lv gr H (k + 1) t)).1
  · intro v hv j x hx
    have hCl : C.length = H.length := h.g.len
    unfold arcsL at hx
    by_cases hvt : v = t
    · subst hvt
      rw [if_pos ht] at hx
      by_cases hj : j < (arcsL (swp H) v k).length
      · rw [List.getElem?_append_left hj] at hx
        rw [List.getElem?_set_ne (by omega)]
        exact h.c v hv j x hx
      · rw [List.getElem?_append_right (by omega)] at hx
        have : j = (arcsL (swp H) v k).length := by
          have := (List.getElem?_eq_some_iff.1 hx).1
          simp at this
          omega
        subst this
        simp at hx
        subst hx
        rw [List.getElem?_set_self (by omega)]
    · rw [if_neg (by rw [ht]; omega), List.append_nil] at hx
      have hj := (List.getElem?_eq_some_iff.1 hx).1
      have hle := arcsL_le (swp H) v k (by omega)
      have hcv : (swp H).count (v : Int) = H.count (v : Int) := swp_cnt _ _ H (Nat.le_refl _)
      rw [List.getElem?_set_ne]
      · exact h.c v hv j x hx
      · rcases Nat.lt_or_ge v t with hh | hh
        · have := offs_apart H hh; omega
        · have := offs_apart H (show t < v by omega); omega
theorem lv_zero (gr : Nat) (H : List Int) (v : Nat) : lv gr H 0 v = .slice (some ⟨gr, po H v, none⟩) 0 (H.count (v : Int)) := rfl
/-- the rows when v of them are laid, all of them empty -/
def lv2 (gr : Nat) (H : List Int) (n v : Nat) : List Value := (List.range n).map fun u => if u < v then lv gr H 0 u else .slice none 0 0
theorem lv2_nil (gr : Nat) (H : List Int) (n : Nat) : lv2 gr H n 0 = List.replicate n (.slice none 0 0) := by
  apply List.ext_getElem
  · simp [lv2]
  · intro i h1 h2; simp [lv2]
theorem lv2_all (gr : Nat) (H : List Int) (n : Nat) : lv2 gr H n n = (List.range n).map (lv gr H 0) := by
  apply List.ext_getElem
  · simp [lv2]
  · intro i h1 h2
    simp [lv2] at h1 ⊢
    intro h; omega
theorem lv2_step (gr : Nat) (H : List Int) (n v : Nat) (hv : v < n) : (lv2 gr H n v).set v (lv gr H 0 v) = lv2 gr H n (v + 1) := by
  apply List.ext_getElem
  · simp [lv2]
  · intro i h1 h2
    rw [List.getElem_set]
    simp only [lv2, List.getElem_map, List.getElem_range]
    by_cases h : v = i
    · subst h; simp
    · by_cases h3 : i < v
      · simp [h, h3, show i < v + 1 by omega]
      · simp [h, h3, show ¬ i < v + 1 by omega]
end Go.Proofs.Ytpcdbnlljdfogaa
