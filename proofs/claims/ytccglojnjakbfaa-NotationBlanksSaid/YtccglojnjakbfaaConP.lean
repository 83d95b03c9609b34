/- Reading lines, plain: one item after the other; the canonical line is read back. -/
import Derived.Test.YtccglojnjakbfaaCha
import Derived.Test.YtccglojnjakbfaaPrt
set_option linter.unusedSimpArgs false
set_option linter.unusedVariables false
namespace Go.Proofs.Ytccglojnjakbfaa
open Go.RowKit

/-- what is read from a place within a chain on -/
def conP (L : List UInt8) (p : Nat) (acc : List It) : Int × List It × Nat :=
  if (chnP L (L.length + 1) p acc).1 = 0 then
    (if (chnP L (L.length + 1) p acc).2.2 = L.length ∨ isAt 32 L (chnP L (L.length + 1) p acc).2.2 = true then
       redP L (L.length + 1) (chnP L (L.length + 1) p acc).2.2 (chnP L (L.length + 1) p acc).2.1
     else (2, chnP L (L.length + 1) p acc |>.2))
  else chnP L (L.length + 1) p acc
theorem red_eq (L : List UInt8) (p : Nat) (acc : List It) (hp : p ≤ L.length) :
    redP L (L.length + 1) p acc = if p + runN blB L p = L.length then (0, acc, L.length) else conP L (p + runN blB L p) acc := by
  have hr := runN_le blB L p hp
  rw [redP]
  by_cases h0 : p + runN blB L p = L.length
  · rw [if_pos h0, if_pos h0, h0]
  · rw [if_neg h0, if_neg h0]
    unfold conP
    by_cases h1 : (chnP L (L.length + 1) (p + runN blB L p) acc).1 = 0
    · rw [if_pos h1, if_pos h1]
      have hc := chnP_at L (L.length + 1) (p + runN blB L p) acc hr (by omega)
      have := hc.2.2 h1
      split
      · exact redP_fuel L _ _ _ _ (by omega) (by omega) (by omega)
      · rfl
    · rw [if_neg h1, if_neg h1]
theorem con_eq (L : List UInt8) (p : Nat) (acc : List It) (hp : p ≤ L.length) :
    conP L p acc = if (itemP L p acc.length).1 = 0 then
      (if isAt 43 L (itemP L p acc.length).2.2 = true then conP L ((itemP L p acc.length).2.2 + 1) (acc ++ [⟨(itemP L p acc.length).2.1.c, (itemP L p acc.length).2.1.d, (itemP L p acc.length).2.1.r, (itemP L p acc.length).2.1.v, true⟩])
       else if (itemP L p acc.length).2.2 = L.length ∨ isAt 32 L (itemP L p acc.length).2.2 = true then redP L (L.length + 1) (itemP L p acc.length).2.2 (acc ++ [(itemP L p acc.length).2.1])
       else (2, acc ++ [(itemP L p acc.length).2.1], (itemP L p acc.length).2.2))
      else ((itemP L p acc.length).1, acc, (itemP L p acc.length).2.2) := by
  have hat := itemP_at L p acc.length hp
  by_cases h0 : (itemP L p acc.length).1 = 0
  · rw [if_pos h0]
    have hq := hat.2.2 h0
    by_cases h1 : isAt 43 L (itemP L p acc.length).2.2 = true
    · rw [if_pos h1]
      have hlt := isAt_lt h1
      have e : chnP L (L.length + 1) p acc = chnP L (L.length + 1) ((itemP L p acc.length).2.2 + 1) (acc ++ [⟨(itemP L p acc.length).2.1.c, (itemP L p acc.length).2.1.d, (itemP L p acc.length).2.1.r, (itemP L p acc.length).2.1.v, true⟩]) := by
        rw [chnP, if_pos h0, if_pos h1]
        exact chnP_fuel L _ _ _ _ (by omega) (by omega) (by omega)
      unfold conP
      rw [e]
    · rw [if_neg h1]
      have e : chnP L (L.length + 1) p acc = (0, acc ++ [(itemP L p acc.length).2.1], (itemP L p acc.length).2.2) := by
        rw [chnP, if_pos h0, if_neg h1]
      unfold conP
      rw [e, if_pos rfl]
  · rw [if_neg h0]
    have e : chnP L (L.length + 1) p acc = ((itemP L p acc.length).1, acc, (itemP L p acc.length).2.2) := by
      rw [chnP, if_neg h0]
    unfold conP
    rw [e, if_neg h0]
/-- what may stand behind an item's marks -/
def endB (R : List UInt8) : Prop := ∀ c, R.head? = some c → codeB c = false ∧ c ≠ 60 ∧ c ≠ 63 ∧ c ≠ 42
theorem endB_nil : endB [] := fun c h => by simp at h
theorem endB_blank (R : List UInt8) : endB (32 :: R) := fun c h => by
  simp only [List.head?_cons, Option.some.injEq] at h
  subst h; decide
theorem endB_plus (R : List UInt8) : endB (43 :: R) := fun c h => by
  simp only [List.head?_cons, Option.some.injEq] at h
  subst h; decide
theorem markR_stop {R : List UInt8} (h : endB R) (p : Nat) (x : It) : markR R p x = (0, x, p) := by
  cases R with
  | nil => rfl
  | cons c t =>
    obtain ⟨_, h1, h2, h3⟩ := h c rfl
    rw [markR, if_neg h1, if_neg h2, if_neg h3]
theorem markR_downs (R : List UInt8) : ∀ (n p : Nat) (x : It), 0 ≤ x.d → x.d + n ≤ 9 → markR (List.replicate n 60 ++ R) p x = markR R (p + n) ⟨x.c, x.d + n, x.r, x.v, x.j⟩
  | 0, p, x, _, _ => by simp
  | n + 1, p, x, h0, h9 => by
    rw [List.replicate_succ, List.cons_append, markR, if_pos rfl, if_neg (by omega), markR_downs R n (p + 1) _ (by simp; omega) (by simp; omega)]
    simp only [Nat.add_assoc, Nat.add_comm 1 n]
    congr 2
    push_cast
    omega
theorem markR_marks {R : List UInt8} (h : endB R) (x : It) (p : Nat) (h0 : 0 ≤ x.d) (h9 : x.d ≤ 9) : markR (mkL x ++ R) p ⟨x.c, 0, false, false, false⟩ = (0, ⟨x.c, x.d, x.r, x.v, false⟩, p + (mkL x).length) := by
  obtain ⟨c, d, r, v, j⟩ := x
  obtain ⟨n, rfl⟩ := Int.eq_ofNat_of_zero_le h0
  simp only at h9
  unfold mkL
  simp only [Int.toNat_natCast, List.append_assoc]
  rw [markR_downs _ n p _ (by simp) (by simp; omega)]
  simp only [Int.zero_add]
  cases r <;> cases v
  · simp only [Bool.false_eq_true, if_false, List.nil_append, List.append_nil, List.length_replicate]
    exact markR_stop h _ _
  · simp only [Bool.false_eq_true, if_false, if_true, List.nil_append, List.cons_append, List.length_append, List.length_replicate, List.length_cons, List.length_nil]
    rw [markR, if_neg (by decide), if_neg (by decide), if_pos rfl, if_neg (by simp)]
    exact markR_stop h _ _
  · simp only [Bool.false_eq_true, if_false, if_true, List.nil_append, List.append_nil, List.cons_append, List.length_append, List.length_replicate, List.length_cons, List.length_nil]
    rw [markR, if_neg (by decide), if_pos rfl, if_neg (by simp)]
    exact markR_stop h _ _
  · simp only [if_true, List.nil_append, List.cons_append, List.length_append, List.length_replicate, List.length_cons, List.length_nil]
    rw [markR, if_neg (by decide), if_pos rfl, if_neg (by simp), markR, if_neg (by decide), if_neg (by decide), if_pos rfl, if_neg (by simp)]
    exact markR_stop h _ _
theorem mkL_end {R : List UInt8} (h : endB R) (x : It) : ∀ c, (mkL x ++ R).head? = some c → codeB c = false := by
  intro c hc
  unfold mkL at hc
  cases hn : x.d.toNat with
  | succ n =>
    rw [hn, List.replicate_succ] at hc
    simp at hc
    subst hc; decide
  | zero =>
    rw [hn] at hc
    cases hr : x.r with
    | true =>
      rw [hr] at hc
      simp at hc
      subst hc; decide
    | false =>
      rw [hr] at hc
      cases hv : x.v with
      | true =>
        rw [hv] at hc
        simp at hc
        subst hc; decide
      | false =>
        rw [hv] at hc
        simp at hc
        exact (h c hc).1
theorem tw_all {p : UInt8 → Bool} {l m : List UInt8} (h : ∀ x ∈ l, p x = true) (hm : ∀ c, m.head? = some c → p c = false) : (l ++ m).takeWhile p = l := by
  induction l with
  | nil =>
    cases m with
    | nil => rfl
    | cons c t => rw [List.nil_append, List.takeWhile_cons_of_neg (by rw [hm c rfl]; simp)]
  | cons c t ih =>
    rw [List.cons_append, List.takeWhile_cons_of_pos (h c (by simp)), ih (fun x hx => h x (by simp [hx]))]
/-- an item that can be written -/
def okI (x : It) : Prop := codeS x.c = true ∧ 0 ≤ x.d ∧ x.d ≤ 9
theorem okI_code {x : It} (h : okI x) : ∀ c ∈ x.c.data.toList, codeB c = true := by
  have h1 := h.1
  unfold codeS at h1
  simp only [Bool.and_eq_true] at h1
  have h2 := h1.2
  unfold allB at h2
  rw [List.all_eq_true] at h2
  exact h2
theorem item_text {S R : List UInt8} {p n : Nat} {x : It} (hx : okI x) (hR : endB R) (hn : n ≠ 30) (hS : S.drop p = x.c.data.toList ++ (mkL x ++ R)) :
    itemP S p n = (0, ⟨x.c, x.d, x.r, x.v, false⟩, p + x.c.size + (mkL x).length) ∧ S.drop (p + x.c.size + (mkL x).length) = R := by
  have htw : (S.drop p).takeWhile codeB = x.c.data.toList := by rw [hS]; exact tw_all (okI_code hx) (mkL_end hR x)
  have hrun : runN codeB S p = x.c.size := by unfold runN; rw [htw, list_size]
  have hd1 : S.drop (p + x.c.size) = mkL x ++ R := by
    rw [← List.drop_drop, hS, ← list_size x.c, List.drop_left]
  have hd2 : S.drop (p + x.c.size + (mkL x).length) = R := by
    rw [← List.drop_drop, hd1, List.drop_left]
  have hcs := code_size hx.1
  refine ⟨?_, hd2⟩
  unfold itemP
  rw [htw, hrun, bs_list, if_neg (by omega), if_neg hn, if_neg (by rw [hx.1]; simp), hd1]
  exact markR_marks hR x _ hx.2.1 hx.2.2
theorem isAt_drop {S R : List UInt8} {p : Nat} {c : UInt8} (h : S.drop p = R) : isAt c S p = (R.head? == some c) := by
  unfold isAt
  have : S[p]? = R.head? := by rw [← h, List.head?_drop]
  rw [this]
theorem drop_len {S R : List UInt8} {p : Nat} (hp : p ≤ S.length) (h : S.drop p = R) : S.length = p + R.length := by
  rw [← h, List.length_drop]; omega
theorem le_of_drop {S R : List UInt8} {p : Nat} (h : S.drop p = R) (hR : R ≠ []) : p < S.length := by
  rcases Nat.lt_or_ge p S.length with h1 | h1
  · exact h1
  · rw [List.drop_eq_nil_of_le h1] at h
    exact absurd h.symm hR
theorem okI_ne {x : It} (h : okI x) : x.c.data.toList ≠ [] := by
  have := code_size h.1
  intro e
  have := list_size x.c
  rw [e] at this
  simp at this
  omega
/-- a joined item -/
theorem con_joined {S R : List UInt8} {p : Nat} {acc : List It} {x : It} (hx : okI x) (hj : x.j = true) (hn : acc.length ≠ 30) (hS : S.drop p = x.c.data.toList ++ (mkL x ++ (43 :: R))) :
    conP S p acc = conP S (p + x.c.size + (mkL x).length + 1) (acc ++ [x]) ∧ S.drop (p + x.c.size + (mkL x).length + 1) = R := by
  obtain ⟨h1, h2⟩ := item_text hx (endB_plus R) hn hS
  have hp : p ≤ S.length := Nat.le_of_lt (le_of_drop hS (by simp [okI_ne hx]))
  refine ⟨?_, by rw [← List.drop_drop, h2]; rfl⟩
  rw [con_eq S p acc hp, h1, if_pos rfl, if_pos (by rw [isAt_drop h2]; rfl)]
  obtain ⟨c, d, r, v, j⟩ := x
  simp only at hj
  subst hj
  rfl
/-- an item that ends a chain -/
theorem con_last {S R : List UInt8} {p n : Nat} {acc : List It} {x : It} (hx : okI x) (hj : x.j = false) (hn : acc.length ≠ 30) (hR : R.head? ≠ some 32) (h1 : R = [] ∨ 1 ≤ n) (hS : S.drop p = x.c.data.toList ++ (mkL x ++ (List.replicate n 32 ++ R))) :
    conP S p acc = (if R = [] then (0, acc ++ [x], S.length) else conP S (p + x.c.size + (mkL x).length + n) (acc ++ [x])) ∧ S.drop (p + x.c.size + (mkL x).length + n) = R := by
  have hE : endB (List.replicate n 32 ++ R) := by
    cases n with
    | zero =>
      rcases h1 with h1 | h1
      · rw [h1]; exact endB_nil
      · omega
    | succ n => rw [List.replicate_succ, List.cons_append]; exact endB_blank _
  obtain ⟨e1, e2⟩ := item_text hx hE hn hS
  have hp : p ≤ S.length := Nat.le_of_lt (le_of_drop hS (by simp [okI_ne hx]))
  have hq : p + x.c.size + (mkL x).length ≤ S.length := by
    have := itemP_at S p acc.length hp
    rw [e1] at this
    exact this.2.1
  have hd : S.drop (p + x.c.size + (mkL x).length + n) = R := by
    rw [← List.drop_drop, e2]
    rw [List.drop_append_of_le_length (by simp)]
    simp
  refine ⟨?_, hd⟩
  have hxj : (⟨x.c, x.d, x.r, x.v, false⟩ : It) = x := by
    obtain ⟨c, d, r, v, j⟩ := x
    simp only at hj
    rw [hj]
  rw [con_eq S p acc hp, e1, if_pos rfl, if_neg (by
    rw [isAt_drop e2]
    cases n with
    | zero =>
      rcases h1 with h1 | h1
      · rw [h1]; simp
      · omega
    | succ n => simp [List.replicate_succ])]
  have hor : p + x.c.size + (mkL x).length = S.length ∨ isAt 32 S (p + x.c.size + (mkL x).length) = true := by
    cases n with
    | zero =>
      rcases h1 with h1 | h1
      · left
        rw [h1] at e2
        have := drop_len hq e2
        simpa using this.symm
      · omega
    | succ n => right; rw [isAt_drop e2]; simp [List.replicate_succ]
  simp only
  rw [if_pos hor, hxj, red_eq S _ _ hq]
  have hrun : runN blB S (p + x.c.size + (mkL x).length) = n := by
    unfold runN
    rw [e2, tw_all (p := blB) (l := List.replicate n 32) (m := R) (fun y hy => by rw [List.eq_of_mem_replicate hy]; rfl) (fun c hc => by
      unfold blB
      rw [beq_eq_false_iff_ne]
      intro e
      exact hR (by rw [hc, e]))]
    simp
  rw [hrun]
  have hlen := drop_len hq e2
  rw [List.length_append, List.length_replicate] at hlen
  by_cases hr : R = []
  · rw [if_pos hr, if_pos (by rw [hlen, hr]; simp)]
  · rw [if_neg hr, if_neg (by
      have : 0 < R.length := List.length_pos_iff.2 hr
      omega)]
end Go.Proofs.Ytccglojnjakbfaa
