/- Plain facts: matchings and covers of a graph with capacities: no matching is larger than the weight of a cover. -/
set_option linter.unusedSimpArgs false
set_option linter.unusedVariables false
namespace Go.Proofs.Ytpcdbnlljdfogaa

/-- strictly rising numbers from 0 to n - 1 -/
def Rises (n : Nat) (L : List Int) : Prop := (∀ x ∈ L, 0 ≤ x ∧ x < (n : Int)) ∧ L.Pairwise (· < ·)
instance (n : Nat) (L : List Int) : Decidable (Rises n L) := by unfold Rises; infer_instance
/-- a number of a list, 0 outside -/
def atI (L : List Int) (i : Int) : Int := L.getD i.toNat 0
/-- edges that take their ends' capacities one behind the other -/
def takes : List Int → List Int → List (Int × Int) → Bool
  | _, _, [] => true
  | l, r, e :: es => if atI l e.1 = 0 ∨ atI r e.2 = 0 then false else takes (l.set e.1.toNat (atI l e.1 - 1)) (r.set e.2.toNat (atI r e.2 - 1)) es
def pairE (E : List (Int × Int)) (i : Int) : Int × Int := E.getD i.toNat (0, 0)
/-- are edges, by their numbers, a matching of a valid graph -/
def isM (L R : List Int) (E : List (Int × Int)) (es : List Int) : Bool := decide (Rises E.length es) && takes L R (es.map (pairE E))
def sumA (l : List Int) (A : List Int) : Int := (A.map (atI l)).sum
def outB (A B : List Int) (e : Int × Int) : Bool := !A.contains e.1 && !B.contains e.2
def cntO (A B : List Int) (es : List (Int × Int)) : Nat := (es.filter (outB A B)).length
/-- the weight of a cover -/
def weigh (L R : List Int) (E : List (Int × Int)) (A B : List Int) : Int := sumA L A + sumA R B + (cntO A B E : Int)
theorem atI_set {l : List Int} {i j : Int} {v : Int} (hi : 0 ≤ i) (hj : 0 ≤ j) (hl : i.toNat < l.length) : atI (l.set i.toNat v) j = if i = j then v else atI l j := by
  unfold atI
  rw [List.getD_eq_getElem?_getD, List.getElem?_set, List.getD_eq_getElem?_getD]
  by_cases h : i = j
  · subst h
    rw [if_pos rfl, if_pos rfl, if_pos hl]; rfl
  · rw [if_neg (by omega), if_neg h]
theorem sumA_set {l : List Int} {i : Int} (hi : 0 ≤ i) (hl : i.toNat < l.length) : ∀ (A : List Int), (∀ x ∈ A, 0 ≤ x) → A.Nodup → sumA (l.set i.toNat (atI l i - 1)) A = sumA l A - (if A.contains i then 1 else 0)
  | [], _, _ => by simp [sumA]
  | a :: A, h0, hn => by
    have ih := sumA_set hi hl A (fun x hx => h0 x (by simp [hx])) (List.nodup_cons.1 hn).2
    unfold sumA at ih ⊢
    simp only [List.map_cons, List.sum_cons, ih, atI_set hi (h0 a (by simp)) hl]
    by_cases h : i = a
    · subst h
      have hc : A.contains i = false := by
        have := (List.nodup_cons.1 hn).1
        simpa using this
      rw [if_pos rfl, hc]
      simp
      omega
    · have hc : (a :: A).contains i = A.contains i := by
        simp [List.contains_cons, h]
      rw [if_neg h, hc]
      omega
theorem sumA_nonneg {l : List Int} (h : ∀ x ∈ l, 0 ≤ x) : ∀ (A : List Int), 0 ≤ sumA l A
  | [] => by simp [sumA]
  | a :: A => by
    have ih := sumA_nonneg h A
    unfold sumA at ih ⊢
    simp only [List.map_cons, List.sum_cons]
    have : 0 ≤ atI l a := by
      unfold atI
      rw [List.getD_eq_getElem?_getD]
      cases hg : l[a.toNat]? with
      | none => simp
      | some v => exact h v (List.mem_of_getElem? hg)
    omega
theorem set_nonneg {l : List Int} {k : Nat} {v : Int} (h : ∀ x ∈ l, 0 ≤ x) (hv : 0 ≤ v) : ∀ x ∈ l.set k v, 0 ≤ x := by
  intro x hx
  rcases List.mem_or_eq_of_mem_set hx with hx | hx
  · exact h x hx
  · omega
theorem takes_le : ∀ (es : List (Int × Int)) (l r A B : List Int), (∀ e ∈ es, 0 ≤ e.1 ∧ e.1.toNat < l.length ∧ 0 ≤ e.2 ∧ e.2.toNat < r.length) → (∀ x ∈ l, 0 ≤ x) → (∀ x ∈ r, 0 ≤ x) → (∀ x ∈ A, 0 ≤ x) → A.Nodup → (∀ x ∈ B, 0 ≤ x) → B.Nodup →
    takes l r es = true → (es.length : Int) ≤ sumA l A + sumA r B + (cntO A B es : Int)
  | [], l, r, A, B, _, h1, h2, _, _, _, _, _ => by
    have := sumA_nonneg h1 A
    have := sumA_nonneg h2 B
    simp only [List.length_nil, cntO, List.filter_nil]
    omega
  | e :: es, l, r, A, B, hE, h1, h2, hA, nA, hB, nB, ht => by
    obtain ⟨e1, e2, e3, e4⟩ := hE e (by simp)
    rw [takes] at ht
    split at ht
    · exact absurd ht (by simp)
    · rename_i hz
      simp only [not_or] at hz
      have hl : 0 ≤ atI l e.1 := by
        unfold atI
        rw [List.getD_eq_getElem?_getD, List.getElem?_eq_getElem e2]
        exact h1 _ (List.getElem_mem e2)
      have hr : 0 ≤ atI r e.2 := by
        unfold atI
        rw [List.getD_eq_getElem?_getD, List.getElem?_eq_getElem e4]
        exact h2 _ (List.getElem_mem e4)
      have ih := takes_le es _ _ A B (fun x hx => by rw [List.length_set, List.length_set]; exact hE x (by simp [hx])) (set_nonneg h1 (by omega)) (set_nonneg h2 (by omega)) hA nA hB nB ht
      rw [sumA_set e1 e2 A hA nA, sumA_set e3 e4 B hB nB] at ih
      have hc : cntO A B (e :: es) = (if outB A B e then 1 else 0) + cntO A B es := by
        unfold cntO
        rw [List.filter_cons]
        split <;> simp <;> omega
      rw [hc]
      simp only [List.length_cons]
      unfold outB
      cases ha : A.contains e.1 <;> cases hb : B.contains e.2 <;> simp only [ha, hb] at ih <;> simp at ih ⊢ <;> omega
theorem rises_nodup {n : Nat} {L : List Int} (h : Rises n L) : L.Nodup := h.2.imp (fun hab => by omega)
/-- edges by rising numbers are edges of the graph, in their order -/
theorem rises_sub (E : List (Int × Int)) : ∀ (es : List Int), Rises E.length es → (es.map (pairE E)).Sublist E := by
  intro es h
  have key : ∀ (es : List Int) (k : Nat), (∀ x ∈ es, (k : Int) ≤ x ∧ x < (E.length : Int)) → es.Pairwise (· < ·) → (es.map (pairE E)).Sublist (E.drop k) := by
    intro es
    induction es with
    | nil => intro k _ _; exact List.nil_sublist _
    | cons a es ih =>
      intro k hk hp
      obtain ⟨h1, h2⟩ := hk a (by simp)
      have hp' := List.pairwise_cons.1 hp
      have := ih (a.toNat + 1) (fun x hx => ⟨by have := hp'.1 x hx; omega, (hk x (by simp [hx])).2⟩) hp'.2
      have ha : a.toNat < E.length := by omega
      have hd : E.drop a.toNat = E[a.toNat]'ha :: E.drop (a.toNat + 1) := List.drop_eq_getElem_cons ha
      have hpe : pairE E a = E[a.toNat]'ha := by unfold pairE; simp [ha]
      rw [List.map_cons, hpe]
      refine List.Sublist.trans (List.Sublist.cons_cons _ this) ?_
      rw [← hd]
      have : E.drop a.toNat = (E.drop k).drop (a.toNat - k) := by rw [List.drop_drop]; congr 1; omega
      rw [this]
      exact List.drop_sublist _ _
  have := key es 0 (fun x hx => by have := h.1 x hx; omega) h.2
  rwa [List.drop_zero] at this
/-- NO MATCHING IS LARGER THAN THE WEIGHT OF A COVER -/
theorem weak {L R : List Int} {E : List (Int × Int)} {es A B : List Int} (hE : ∀ e ∈ E, 0 ≤ e.1 ∧ e.1 < (L.length : Int) ∧ 0 ≤ e.2 ∧ e.2 < (R.length : Int)) (hL : ∀ x ∈ L, 0 ≤ x) (hR : ∀ x ∈ R, 0 ≤ x) (hm : isM L R E es = true) (hA : Rises L.length A) (hB : Rises R.length B) :
    (es.length : Int) ≤ weigh L R E A B := by
  unfold isM at hm
  rw [Bool.and_eq_true, decide_eq_true_eq] at hm
  obtain ⟨h1, h2⟩ := hm
  have hs := rises_sub E es h1
  have := takes_le (es.map (pairE E)) L R A B (fun e he => by obtain ⟨a, b, c, d⟩ := hE e (hs.subset he); omega) hL hR (fun x hx => (hA.1 x hx).1) (rises_nodup hA) (fun x hx => (hB.1 x hx).1) (rises_nodup hB) h2
  rw [List.length_map] at this
  have hc : cntO A B (es.map (pairE E)) ≤ cntO A B E := (hs.filter _).length_le
  unfold weigh
  omega
end Go.Proofs.Ytpcdbnlljdfogaa
