/- Plain facts of the reference's Repeats. -/
import Derived.Test.YtlleebgkglbelaaWto
import Derived.BigQuiet
import Derived.Deep.LoopGhost
set_option linter.unusedSimpArgs false
set_option linter.unusedVariables false
namespace Go.Proofs.Ytlleebgkglbelaa
open Go.RowKit

/-- append to a slice of the call's own that is not nil, whatever is appended -/
theorem wpList_append_all {P : Program} (w : World) {ops : Array Oper} {rest : List Oper} {o : Oper} {a : Act} {Q : Exit → Act → World → Prop} (hgd : o.guard = none) (s x : Operand) (t : TypeId)
    (ho : o.op = .call { callee := .builtin .append, args := #[s, x], argTypes := #[t, t] })
    (base : Nat) (e : TypeId) (i : TypeInfo) (z : Value) (size bytes : Nat) (ht : P.underlying t = some (.slice e)) (hi : P.info? e = some i) (hz : i.zero = some z)
    (hsize : i.size = size) (hby : i.bytes = bytes) (hzs : z.cells.size = size) (hsz : 0 < size)
    (g n cap : Nat) (xs : List Value) (hs : a.eval s = .slice (some ⟨g, 0, none⟩) n cap) (hown : w.ownsRow base e size (.slice (some ⟨g, 0, none⟩) n cap) n xs)
    (ao : Option Addr) (m c : Nat) (news : List Value) (hx : a.eval x = .slice ao m c) (hl : news.length = m * size) (hnone : ao = none → m = 0 ∧ c = 0) (hnews : ∀ ad, ao = some ad → ∀ j u, news[j]? = some u → w.cell? (ad.add j) = some u) (h1 : ∀ u ∈ news, u.oneCell' = true)
    (h63 : n + m ≤ maxLen) (hbytes : (n + m) * bytes ≤ 140737488355328) (hbase : base ≤ w.heap.size)
    (h : ∀ g' cap' w', w'.ownsRow base e size (.slice (some ⟨g', 0, none⟩) (n + m) cap') (n + m) (xs ++ news) → w.grownBy w' (some g) → wpList P ops Q rest (a.put o.dst (.slice (some ⟨g', 0, none⟩) (n + m) cap')) w') : wpList P ops Q (o :: rest) a w := by
  by_cases hm : 0 < m
  · obtain ⟨ad, rfl⟩ : ∃ ad, ao = some ad := by
      cases ao with
      | none => have := (hnone rfl).1; omega
      | some ad => exact ⟨ad, rfl⟩
    refine wpList_append_blk w hgd s x t ho base e i z size bytes ht hi hz hsize hby hzs hsz _ n xs hs hown ad m c news hx hl (hnews ad rfl) h1 h63 hbytes hbase hm ?_
    intro v' w' ho' hg' _
    rcases ho'.2 with ⟨_, h0⟩ | ⟨g', cap', cur, rfl, _⟩
    · omega
    · exact h g' cap' w' ho' hg'
  · obtain rfl : m = 0 := by omega
    have hcap : n ≤ cap := by
      rcases hown.2 with ⟨h', _⟩ | ⟨g', cap', cur, h', _, _, h2, _⟩
      · simp at h'
      · simp only [Value.slice.injEq, Option.some.injEq, Addr.mk.injEq, and_true, true_and] at h'
        obtain ⟨_, rfl⟩ := h'
        exact h2
    exact wpList_append_fits_any w hgd s x t ho base e i size ht hi hsize g n cap xs hs hown ao 0 c news hx hl hnone hnews h1 hcap (fun w' r1 r2 => h g cap w' r1 r2)

theorem sorted_same {l l' : List (List UInt8)} (h1 : l.Pairwise (fun a b => a < b)) (h2 : l'.Pairwise (fun a b => a < b)) (h : ∀ x, x ∈ l ↔ x ∈ l') : l = l' := by
  have n1 : l.Nodup := List.Pairwise.imp (S := fun a b => a ≠ b) (fun {a b} hab => by intro e; subst e; exact List.lt_irrefl _ hab) h1
  have n2 : l'.Nodup := List.Pairwise.imp (S := fun a b => a ≠ b) (fun {a b} hab => by intro e; subst e; exact List.lt_irrefl _ hab) h2
  refine List.Perm.eq_of_pairwise (le := fun a b => a < b) (fun a b _ _ q1 q2 => ?_) h1 h2 ((List.perm_ext_iff_of_nodup n1 n2).2 h)
  exact absurd (List.lt_trans q1 q2) (List.lt_irrefl _)
theorem emp_iff (s : ByteArray) : (s.toList == []) = true ↔ s = ⟨#[]⟩ := by
  rw [← ba_list]
  constructor
  · intro h
    have h2 : s.data.toList = [] := by simpa using h
    exact bs_inj (by rw [h2])
  · rintro rfl; rfl
theorem bar_get (R : List Rg) (k : Nat) : (R.map barS).getD k Rg.zero = barS (R.getD k Rg.zero) := by
  by_cases hk : k < R.length
  · simp [List.getD, hk]
  · rw [show (R.map barS).getD k Rg.zero = Rg.zero by simp [List.getD, List.getElem?_eq_none (show (R.map barS).length ≤ k by simpa using hk)], show R.getD k Rg.zero = Rg.zero by simp [List.getD, List.getElem?_eq_none (show R.length ≤ k by omega)]]
    unfold barS
    split <;> rfl
theorem grp_bar (R : List Rg) (s : ByteArray) : ∀ n, grpK (R.map barS) s n = if s = ⟨#[]⟩ then [] else grpK R s n
  | 0 => by simp [grpK]
  | n + 1 => by
    rw [grpK, grpK, grp_bar R s n, bar_get]
    by_cases he : ((R.getD n Rg.zero).c.toList == []) = true
    · have hb : barS (R.getD n Rg.zero) = Rg.zero := by unfold barS; rw [if_pos he]
      have hc := (emp_iff _).1 he
      rw [hb, hc]
      by_cases hs : s = ⟨#[]⟩
      · simp [hs, Rg.zero]
      · have q1 : ¬ (Rg.zero.k = true ∧ Rg.zero.c = s) := by simp [Rg.zero]
        have q2 : ¬ ((R.getD n Rg.zero).k = true ∧ (⟨#[]⟩ : ByteArray) = s) := fun h => hs h.2.symm
        simp only [if_neg q1, if_neg q2, if_neg hs]
    · have hb : barS (R.getD n Rg.zero) = R.getD n Rg.zero := by unfold barS; rw [if_neg he]
      have hc : (R.getD n Rg.zero).c ≠ ⟨#[]⟩ := fun h => he ((emp_iff _).2 h)
      rw [hb]
      by_cases hs : s = ⟨#[]⟩
      · subst hs
        rw [if_pos rfl, if_neg (fun h => hc h.2), if_pos rfl]
      · rw [if_neg hs, if_neg hs]
theorem keys_bar {R : List Rg} {n : Nat} {tl : List (List UInt8)} (h : keysR R n = [] :: tl) : keysR (R.map barS) n = tl := by
  have hs := keys_sorted R n
  rw [h] at hs
  refine sorted_same (keys_sorted _ _) (List.pairwise_cons.1 hs).2 fun x => ?_
  rw [keys_mem, grp_bar]
  have hm := keys_mem R n x
  rw [h] at hm
  by_cases hx : bs x = ⟨#[]⟩
  · have hx0 : x = [] := by have := congrArg (fun s => s.data.toList) hx; simpa [bs] using this
    rw [if_pos hx]
    subst hx0
    constructor
    · intro h; exact absurd rfl h
    · intro hmm
      exact absurd ((List.pairwise_cons.1 hs).1 [] hmm) (List.lt_irrefl _)
  · rw [if_neg hx, ← hm]
    constructor
    · intro hmm
      rcases List.mem_cons.1 hmm with rfl | hmm
      · exact absurd rfl hx
      · exact hmm
    · intro hmm; exact List.mem_cons_of_mem _ hmm
theorem out_tail {R : List Rg} {n : Nat} {tl : List (List UInt8)} (h : keysR R n = [] :: tl) : outK R n (keysR R n) = outK R n [[]] ++ outK (R.map barS) n (keysR (R.map barS) n) := by
  have hs := keys_sorted R n
  rw [h] at hs
  rw [keys_bar h, h]
  show outK R n ([[]] ++ tl) = _
  unfold outK
  rw [List.filterMap_append]
  have key : ∀ x ∈ tl, grpK (R.map barS) (bs x) n = grpK R (bs x) n := fun x hx => by
    have hne : bs x ≠ ⟨#[]⟩ := fun e => by
      have hx0 : x = [] := by have := congrArg (fun s => s.data.toList) e; simpa [bs] using this
      subst hx0
      exact absurd ((List.pairwise_cons.1 hs).1 [] hx) (List.lt_irrefl _)
    rw [grp_bar, if_neg hne]
  have hh : ∀ l : List (List UInt8), (∀ x ∈ l, grpK (R.map barS) (bs x) n = grpK R (bs x) n) → l.filterMap (fun s => if (grpK R (bs s) n).length > 1 then some (grpK R (bs s) n) else none) = l.filterMap (fun s => if (grpK (R.map barS) (bs s) n).length > 1 then some (grpK (R.map barS) (bs s) n) else none) := by
    intro l
    induction l with
    | nil => intro _; rfl
    | cons x t ih =>
      intro hx
      rw [List.filterMap_cons, List.filterMap_cons, hx x (List.mem_cons_self ..), ih (fun y hy => hx y (List.mem_cons_of_mem _ hy))]
  rw [hh tl key]
def lastT (T : List (List UInt8)) (j : Nat) : List UInt8 := if j = 0 then [] else T.getD (j - 1) []
theorem keys_ne {R : List Rg} {n : Nat} (h0 : 0 < (keysR R n).length) (h : (keysR R n)[0]'h0 ≠ []) : ∀ x ∈ keysR R n, x ≠ [] := by
  intro x hx e
  subst e
  obtain ⟨q, hq, he⟩ := List.mem_iff_getElem.1 hx
  rcases Nat.eq_zero_or_pos q with rfl | hq0
  · exact h he
  · have := keys_lt R n hq hq0
    rw [he] at this
    exact List.not_lt_nil _ this
theorem gt_iff (a b : ByteArray) : (Op.bytesLess a.toList b.toList || a.toList == b.toList) = !decide (b.toList < a.toList) := by
  rw [bytesLess_eq]
  by_cases h1 : a.toList < b.toList
  · rw [decide_eq_true h1, decide_eq_false (fun h => List.lt_irrefl _ (List.lt_trans h1 h))]; rfl
  · by_cases h2 : a.toList = b.toList
    · rw [h2]; simp
    · have h3 : b.toList < a.toList := by
        rcases Decidable.em (b.toList < a.toList) with h | h
        · exact h
        · exact absurd (List.le_antisymm (List.not_lt.1 h) (List.not_lt.1 h1)) h2
      rw [decide_eq_false h1, decide_eq_true h3]
      simpa using h2
theorem rdI_row {w : World} {base : Nat} {v : Value} {l : List Nat} (h : w.ownsRow base 3 1 v l.length (encI l)) : RdI w v l := by
  have hr := h
  rcases h.2 with ⟨rfl, h0⟩ | ⟨g, cap, cur, rfl, _, hh, h1, h2, _, _⟩
  · have : l = [] := List.eq_nil_of_length_eq_zero h0
    subst this
    exact ⟨none, 0, 0, rfl, fun h => absurd h (Nat.lt_irrefl 0), fun j hj => absurd hj (Nat.not_lt_zero _), Nat.le_refl _, Nat.zero_le _⟩
  · refine ⟨_, g, cap, rfl, fun _ => ⟨rfl, _, _, hh⟩, fun j hj => ?_, h1, h2⟩
    rw [hr.cellAt j (by omega)]
    simp [encI, hj]
end Go.Proofs.Ytlleebgkglbelaa
