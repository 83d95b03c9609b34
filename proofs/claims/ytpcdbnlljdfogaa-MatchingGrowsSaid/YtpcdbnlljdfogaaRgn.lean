/- A region that draws its order: what reads is taken first under a condition on the world that is asked only until one operation, the barrier, has come up; behind it the cells may be written. -/
import Derived.OrdersHeld
import Derived.StillTail
import Derived.RegionTactic
import Derived.Lib.Hide
set_option linter.unusedSimpArgs false
set_option linter.unusedVariables false
namespace Go.Proofs.Ytpcdbnlljdfogaa
open Go.RowKit

section
variable {P : Program} {ops : Array Oper} {Q : Exit → Act → World → Prop} {md : Region.Mode} {S : World → Prop} {k : Nat}

/-- whatever order is drawn, S holds behind every operation as long as number k has not come up -/
def AnyS (P : Program) (md : Region.Mode) (ops : Array Oper) (Q : Exit → Act → World → Prop) (S : World → Prop) (k : Nat) : Nat → Array Bool → Act → World → Prop
  | 0, l, a, w => Region.ready md ops l = [] ∧ Q .normal a w
  | n + 1, l, a, w => (Region.ready md ops l = [] → Q .normal a w) ∧
      ∀ j ∈ Region.ready md ops l, wpOp P ops Q j (fun a' w' => ((l.setIfInBounds j true).getD k false = false → S w') ∧ AnyS P md ops Q S k n (l.setIfInBounds j true) a' w') a w
theorem anyS_any : ∀ (n : Nat) (l : Array Bool) (a : Act) (w : World), AnyS P md ops Q S k n l a w → wpAny P md ops Q n l a w
  | 0, _, _, _, h => h
  | n + 1, _, _, _, h => ⟨h.1, fun j hj => wpOp_mono (fun a' w' x => anyS_any n _ a' w' x.2) (h.2 j hj)⟩
theorem anyS_free : ∀ (n : Nat) (l : Array Bool) (a : Act) (w : World), l.getD k false = true → wpAny P md ops Q n l a w → AnyS P md ops Q S k n l a w
  | 0, _, _, _, _, h => h
  | n + 1, _, _, _, hk, h => ⟨h.1, fun j hj => wpOp_mono (fun a' w' x => ⟨fun e => absurd e (by rw [getD_set_true hk]; decide), anyS_free n _ a' w' (getD_set_true hk) x⟩) (h.2 j hj)⟩
/-- each of B waits for i, or for another one of B -/
def waitB (md : Region.Mode) (ops : Array Oper) (B : List Nat) (i : Nat) : Bool :=
  B.all fun b => match ops[b]? with
    | some o => o.after.any fun e => Region.binds md e && (e.on == i || B.contains e.on)
    | none => false
theorem waitB_not {B : List Nat} {i j : Nat} {l : Array Bool} (h : waitB md ops B i = true) (hi : l.getD i true = false) (hB : ∀ b ∈ B, l.getD b false = false) (hj : j ∈ Region.ready md ops l) : j ∉ B := by
  intro hjB
  obtain ⟨_, o, ho, hall⟩ := mem_ready.1 hj
  have h1 := List.all_eq_true.1 h j hjB
  rw [ho] at h1
  obtain ⟨e, he, hb⟩ := Array.any_eq_true'.1 h1
  rw [Bool.and_eq_true, Bool.or_eq_true, beq_iff_eq, List.contains_iff_mem] at hb
  have h2 := hall e he hb.1
  rcases hb.2 with h3 | h3
  · rw [h3] at h2
    rcases Nat.lt_or_ge i l.size with h' | h'
    · simp [h'] at hi h2; rw [hi] at h2; cases h2
    · simp [Array.getElem?_eq_none h'] at h2
  · rw [hB _ h3] at h2; cases h2
theorem anyS_first {i : Nat} {oi : Oper} {v : Value} {B : List Nat} (hi : ops[i]? = some oi) (hsel : ∀ (j : Nat) (o : Oper) cs b, ops[j]? = some o → o.op ≠ .select cs b)
    (hQ : ∀ c a w, Q (.panic c) (a.put oi.dst v) w → Q (.panic c) a w) (hkB : k ∈ B) (hiB : i ∉ B) (hw : waitB md ops B i = true) (n : Nat) : ∀ (l : Array Bool) (a : Act) (w : World),
    (∀ j oj, ops[j]? = some oj → j ≠ i → l.getD j true = false → (∀ e ∈ oj.after, Region.binds md e = true → e.on ≠ i) → oi.apart ops oj = true) →
    i ∈ Region.ready md ops l → YieldsIf P ops S oi v a → S w → (∀ b ∈ B, l.getD b false = false) → AnyS P md ops Q S k n (l.setIfInBounds i true) (a.put oi.dst v) w → AnyS P md ops Q S k (n + 1) l a w := by
  have hki : i ≠ k := fun e => hiB (e ▸ hkB)
  induction n with
  | zero =>
    intro l a w _ hr hy hS _ H
    refine ⟨fun h0 => (by rw [h0] at hr; cases hr), fun j hj => ?_⟩
    rcases Decidable.em (j = i) with e | e
    · rw [e]; exact hy.wpOp hi hS ⟨fun _ => hS, H⟩
    · have hno := ready_mono hj e
      rw [H.1] at hno
      cases hno
  | succ n ih =>
    intro l a w hfree hr hy hS hB H
    have hun := (mem_ready.1 hr).1
    refine ⟨fun h0 => (by rw [h0] at hr; cases hr), fun j hj => ?_⟩
    rcases Decidable.em (j = i) with e | e
    · rw [e]; exact hy.wpOp hi hS ⟨fun _ => hS, H⟩
    · have hjB := waitB_not hw hun hB hj
      obtain ⟨hju, oj, hoj, hall⟩ := mem_ready.1 hj
      have hnot : ∀ x ∈ oj.after, Region.binds md x = true → x.on ≠ i := fun x hx hb he => by
        have h2 := hall x hx hb
        rw [he] at h2
        rcases Nat.lt_or_ge i l.size with h' | h'
        · simp [h'] at hun h2; rw [hun] at h2; cases h2
        · simp [Array.getElem?_eq_none h'] at h2
      have step := wpOp_putIf hoj (hfree j oj hoj e hju hnot) (fun cs b => hsel i oi cs b hi) (fun cs b => hsel j oj cs b hoj) hQ hy (H.2 j (ready_mono hj e))
      have hB' : ∀ b ∈ B, (l.setIfInBounds j true).getD b false = false := fun b hb => by
        rw [getD_set_ne false (fun e' => hjB (by rw [e']; exact hb))]; exact hB b hb
      refine wpOp_mono (fun a' w' x => ?_) step
      have hs : S w' := x.2.1 (by
        rw [Array.setIfInBounds_comm _ _ (fun e' => e e'.symm), getD_set_ne false hki]
        exact hB' k hkB)
      refine ⟨fun _ => hs, ih (l.setIfInBounds j true) a' w' (fun t ot ht hti htu hto => ?_) (ready_mono hr (fun e' => e e'.symm)) x.1 hs hB' ?_⟩
      · refine hfree t ot ht hti ?_ hto
        rcases Decidable.em (j = t) with e' | e'
        · rw [← e']; exact hju
        · rw [getD_set_ne true e'] at htu; exact htu
      · rw [Array.setIfInBounds_comm _ _ e]
        exact x.2.2
/-- number i is taken first -/
theorem AnyS.take {i : Nat} {oi : Oper} {v : Value} {n : Nat} {l : Array Bool} {a : Act} {w : World} (B : List Nat) (hi : ops[i]? = some oi) (hs : Region.noSelect ops = true) (hf : Region.free md ops l i = true) (hr : (Region.ready md ops l).contains i = true)
    (hb : (B.contains k && !B.contains i && waitB md ops B i && B.all fun b => !l.getD b false) = true) (hQ : ∀ c a w, Q (.panic c) (a.put oi.dst v) w → Q (.panic c) a w) (hS : S w) (hy : YieldsIf P ops S oi v a)
    (h : AnyS P md ops Q S k n (l.setIfInBounds i true) (a.put oi.dst v) w) : AnyS P md ops Q S k (n + 1) l a w := by
  rw [Bool.and_eq_true, Bool.and_eq_true, Bool.and_eq_true] at hb
  obtain ⟨⟨⟨h1, h2⟩, h3⟩, h4⟩ := hb
  refine anyS_first (B := B) hi (Region.noSelect_spec hs) hQ (List.contains_iff_mem.1 h1) (fun e => ?_) h3 n l a w (Region.free_spec hi hf) (by simpa using hr) hy hS (fun b hb => ?_) h
  · rw [List.contains_iff_mem.2 e] at h2; cases h2
  · have := List.all_eq_true.1 h4 b hb
    simpa using this
theorem anyS_first0 {i : Nat} {oi : Oper} {v : Value} (hi : ops[i]? = some oi) (hsel : ∀ (j : Nat) (o : Oper) cs b, ops[j]? = some o → o.op ≠ .select cs b)
    (hQ : ∀ c a w, Q (.panic c) (a.put oi.dst v) w → Q (.panic c) a w) (hki : i ≠ k) (n : Nat) : ∀ (l : Array Bool) (a : Act) (w : World),
    (∀ j oj, ops[j]? = some oj → j ≠ i → l.getD j true = false → (∀ e ∈ oj.after, Region.binds md e = true → e.on ≠ i) → oi.apart ops oj = true) →
    i ∈ Region.ready md ops l → YieldsIf P ops (fun _ => True) oi v a → (l.getD k false = false → S w) → AnyS P md ops Q S k n (l.setIfInBounds i true) (a.put oi.dst v) w → AnyS P md ops Q S k (n + 1) l a w := by
  induction n with
  | zero =>
    intro l a w _ hr hy hS H
    refine ⟨fun h0 => (by rw [h0] at hr; cases hr), fun j hj => ?_⟩
    rcases Decidable.em (j = i) with e | e
    · rw [e]; exact hy.wpOp hi trivial ⟨fun x => hS (by rw [getD_set_ne false hki] at x; exact x), H⟩
    · have hno := ready_mono hj e
      rw [H.1] at hno
      cases hno
  | succ n ih =>
    intro l a w hfree hr hy hS H
    have hun := (mem_ready.1 hr).1
    refine ⟨fun h0 => (by rw [h0] at hr; cases hr), fun j hj => ?_⟩
    rcases Decidable.em (j = i) with e | e
    · rw [e]; exact hy.wpOp hi trivial ⟨fun x => hS (by rw [getD_set_ne false hki] at x; exact x), H⟩
    · obtain ⟨hju, oj, hoj, hall⟩ := mem_ready.1 hj
      have hnot : ∀ x ∈ oj.after, Region.binds md x = true → x.on ≠ i := fun x hx hb he => by
        have h2 := hall x hx hb
        rw [he] at h2
        rcases Nat.lt_or_ge i l.size with h' | h'
        · simp [h'] at hun h2; rw [hun] at h2; cases h2
        · simp [Array.getElem?_eq_none h'] at h2
      have step := wpOp_putIf hoj (hfree j oj hoj e hju hnot) (fun cs b => hsel i oi cs b hi) (fun cs b => hsel j oj cs b hoj) hQ hy (H.2 j (ready_mono hj e))
      refine wpOp_mono (fun a' w' x => ?_) step
      have hs : (l.setIfInBounds j true).getD k false = false → S w' := fun y => x.2.1 (by
        rw [Array.setIfInBounds_comm _ _ (fun e' => e e'.symm), getD_set_ne false hki]
        exact y)
      refine ⟨hs, ih (l.setIfInBounds j true) a' w' (fun t ot ht hti htu hto => ?_) (ready_mono hr (fun e' => e e'.symm)) x.1 hs ?_⟩
      · refine hfree t ot ht hti ?_ hto
        rcases Decidable.em (j = t) with e' | e'
        · rw [← e']; exact hju
        · rw [getD_set_ne true e'] at htu; exact htu
      · rw [Array.setIfInBounds_comm _ _ e]
        exact x.2.2
/-- number i, that yields in whatever world, is taken first -/
theorem AnyS.take0 {i : Nat} {oi : Oper} {v : Value} {n : Nat} {l : Array Bool} {a : Act} {w : World} (hi : ops[i]? = some oi) (hs : Region.noSelect ops = true) (hf : Region.free md ops l i = true) (hr : (Region.ready md ops l).contains i = true)
    (hki : (i == k) = false) (hQ : ∀ c a w, Q (.panic c) (a.put oi.dst v) w → Q (.panic c) a w) (hS : l.getD k false = false → S w) (hy : YieldsIf P ops (fun _ => True) oi v a)
    (h : AnyS P md ops Q S k n (l.setIfInBounds i true) (a.put oi.dst v) w) : AnyS P md ops Q S k (n + 1) l a w :=
  anyS_first0 hi (Region.noSelect_spec hs) hQ (by simpa using hki) n l a w (Region.free_spec hi hf) (by simpa using hr) hy hS h
/-- one alone may come up -/
theorem AnyS.step {j : Nat} {o : Oper} {n : Nat} {l : Array Bool} {a : Act} {w : World} (ho : ops[j]? = some o) (hr : Region.ready md ops l = [j])
    (h : ∀ K' : Act → World → Prop, Hid (∀ a w, ((l.setIfInBounds j true).getD k false = false → S w) → AnyS P md ops Q S k n (l.setIfInBounds j true) a w → K' a w) → if Region.wanted o (yielded ops a.tmps) = true then Oper.wp P o a w K' Q else K' (a.put o.dst undef) w) :
    AnyS P md ops Q S k (n + 1) l a w :=
  ⟨fun h0 => (by rw [hr] at h0; cases h0), fun i hi => by
    rw [hr] at hi
    have e : i = j := by simpa using hi
    subst e
    exact wpOp_step ho (fun K' hK => h K' (Lib.hid fun a w x y => hK a w ⟨x, y⟩))⟩
/-- two may come up -/
theorem AnyS.step2 {i j : Nat} {o o' : Oper} {n : Nat} {l : Array Bool} {a : Act} {w : World} (ho : ops[i]? = some o) (ho' : ops[j]? = some o') (hr : Region.ready md ops l = [i, j])
    (h : ∀ K' : Act → World → Prop, Hid (∀ a w, ((l.setIfInBounds i true).getD k false = false → S w) → AnyS P md ops Q S k n (l.setIfInBounds i true) a w → K' a w) → if Region.wanted o (yielded ops a.tmps) = true then Oper.wp P o a w K' Q else K' (a.put o.dst undef) w)
    (h' : ∀ K' : Act → World → Prop, Hid (∀ a w, ((l.setIfInBounds j true).getD k false = false → S w) → AnyS P md ops Q S k n (l.setIfInBounds j true) a w → K' a w) → if Region.wanted o' (yielded ops a.tmps) = true then Oper.wp P o' a w K' Q else K' (a.put o'.dst undef) w) :
    AnyS P md ops Q S k (n + 1) l a w :=
  ⟨fun h0 => (by rw [hr] at h0; cases h0), fun x hx => by
    rw [hr] at hx
    rcases List.mem_cons.1 hx with e | e
    · subst e
      exact wpOp_step ho (fun K' hK => h K' (Lib.hid fun a w x y => hK a w ⟨x, y⟩))
    · have e : x = j := by simpa using e
      subst e
      exact wpOp_step ho' (fun K' hK => h' K' (Lib.hid fun a w x y => hK a w ⟨x, y⟩))⟩
/-- behind the barrier: what is left comes up in its order -/
theorem AnyS.rest {n : Nat} {l : Array Bool} {a : Act} {w : World} (m : Nat) (hk : l.getD k false = true) (hn : n = (ops.toList.drop m).length) (hB : Region.seqB md ops n m l = true) (h : wpList P ops Q (ops.toList.drop m) a w) : AnyS P md ops Q S k n l a w := by
  subst hn
  refine anyS_free _ _ _ _ hk (wpAny_of_seq (ops.toList.drop m) m l a w (fun j => ?_) hB h)
  rw [List.getElem?_drop, Array.getElem?_toList]
theorem wp_region_s {id : Nat} {a : Act} {w : World} (S : World → Prop) (k : Nat) (hm : P.follows .mixedOrders = true) (h : AnyS P .any ops Q S k ops.size (Array.replicate ops.size false) a w.drew) : (Code.region id ops true).wp P Q a w :=
  wp_region_any hm (anyS_any _ _ _ _ h)
end
end Go.Proofs.Ytpcdbnlljdfogaa
