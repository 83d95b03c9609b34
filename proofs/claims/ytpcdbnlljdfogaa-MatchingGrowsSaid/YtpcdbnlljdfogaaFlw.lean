/- Plain facts on the search: what is noted is reached by a path with room, and nothing else can be reached. -/
import Derived.Test.YtpcdbnlljdfogaaLev
import Derived.Test.YtpcdbnlljdfogaaPsw
set_option linter.unusedSimpArgs false
set_option linter.unusedVariables false
namespace Go.Proofs.Ytpcdbnlljdfogaa
open Go.RowKit

structure PInv (n : Nat) (H R : List Int) (s : Int) (st : List Int × List Int) : Prop where
  len : st.1.length = n
  qr : ∀ x ∈ st.2, 0 ≤ x ∧ x < (n : Int)
  mem : ∀ x : Int, 0 ≤ x → x < (n : Int) → (atI st.1 x ≠ -1 ↔ x ∈ st.2)
  nd : st.2.Nodup
  h0 : st.2[0]? = some s
  s2 : atI st.1 s = -2
  par : ∀ (j : Nat) (v : Int), 0 < j → st.2[j]? = some v → ∃ (i : Nat) (u : Int), i < j ∧ st.2[i]? = some u ∧ 0 ≤ atI st.1 v ∧ atI st.1 v < (H.length : Int) ∧ atI H (atI st.1 v) = v ∧ atI R (atI st.1 v) > 0 ∧ atI H (mate (atI st.1 v).toNat : Int) = u
theorem atI_set_same {L : List Int} {k : Nat} (h : k < L.length) (x : Int) : atI (L.set k x) (k : Int) = x := by
  unfold atI
  simp [List.getD_eq_getElem?_getD, h]
theorem atI_set_ne {L : List Int} {k : Nat} {y : Int} (h : y.toNat ≠ k) (x : Int) : atI (L.set k x) y = atI L y := by
  unfold atI
  rw [List.getD_eq_getElem?_getD, List.getD_eq_getElem?_getD, List.getElem?_set_ne (by omega)]
theorem pinv_start {n : Nat} {H R : List Int} {s : Int} (h0 : 0 ≤ s) (h1 : s < (n : Int)) : PInv n H R s (start n s) := by
  unfold start
  have hk : s.toNat < (List.replicate n (-1 : Int)).length := by simp; omega
  have hs : atI ((List.replicate n (-1 : Int)).set s.toNat (-2)) s = -2 := by
    have := atI_set_same hk (-2)
    rwa [Int.toNat_of_nonneg h0] at this
  refine ⟨by simp, ?_, ?_, by simp, rfl, hs, ?_⟩
  · intro x hx
    simp at hx
    subst hx
    exact ⟨h0, h1⟩
  · intro x hx0 hx1
    by_cases hxs : x = s
    · subst hxs
      simp only [hs]
      simp
    · simp only
      rw [atI_set_ne (by omega)]
      unfold atI
      rw [List.getD_eq_getElem?_getD, List.getElem?_replicate, if_pos (by omega)]
      simp [hxs]
  · intro j v hj hv
    simp only at hv
    rw [List.getElem?_eq_none (by simp; omega)] at hv
    cases hv
/-- what one arc does -/
theorem pinv_arc {n : Nat} {H R : List Int} {s : Int} {st : List Int × List Int} (h : PInv n H R s st) {i : Nat} {u a : Int} (hi : st.2[i]? = some u) (ha : 0 ≤ a ∧ a < (H.length : Int)) (hH : ∀ x ∈ H, 0 ≤ x ∧ x < (n : Int)) (ht : atI H (mate a.toNat : Int) = u) :
    PInv n H R s (arcS H R st a) ∧ (∃ ext, (arcS H R st a).2 = st.2 ++ ext) ∧ (∀ x : Int, 0 ≤ x → x < (n : Int) → atI st.1 x ≠ -1 → atI (arcS H R st a).1 x ≠ -1) ∧ (atI R a > 0 → atI (arcS H R st a).1 (atI H a) ≠ -1) := by
  have hal : a.toNat < H.length := by omega
  have hv := hH _ (List.getElem_mem hal)
  rw [← atI_eq hal] at hv
  unfold arcS
  split
  · rename_i hc
    obtain ⟨hr, hm1⟩ := hc
    obtain ⟨v, hvv⟩ : ∃ v, v = atI H a := ⟨_, rfl⟩
    rw [← hvv] at hv hm1 ⊢
    have hk : v.toNat < st.1.length := by rw [h.len]; omega
    have hnm : v ∉ st.2 := fun hm => ((h.mem v hv.1 hv.2).2 hm) hm1
    have hnew : atI (st.1.set v.toNat a) v = a := by
      have := atI_set_same hk a
      rwa [Int.toNat_of_nonneg hv.1] at this
    have hold : ∀ y : Int, 0 ≤ y → y ≠ v → atI (st.1.set v.toNat a) y = atI st.1 y := fun y hy hyv => atI_set_ne (by omega) _
    have hsv : s ≠ v := fun e => by rw [← e] at hm1; rw [h.s2] at hm1; exact absurd hm1 (by decide)
    have hs0 : 0 ≤ s := (h.qr s (List.mem_of_getElem? h.h0)).1
    refine ⟨⟨by simpa using h.len, ?_, ?_, ?_, ?_, ?_, ?_⟩, ⟨[v], rfl⟩, ?_, ?_⟩
    · intro x hx
      simp only [List.mem_append, List.mem_singleton] at hx
      rcases hx with hx | rfl
      · exact h.qr x hx
      · exact hv
    · intro x hx0 hx1
      simp only [List.mem_append, List.mem_singleton]
      by_cases hxv : x = v
      · subst hxv
        rw [hnew]
        exact ⟨fun _ => .inr rfl, fun _ => by omega⟩
      · rw [hold x hx0 hxv, h.mem x hx0 hx1]
        exact ⟨.inl, fun hh => hh.resolve_right hxv⟩
    · simp only
      rw [List.nodup_append]
      exact ⟨h.nd, by simp, fun x hx y hy => by simp at hy; subst hy; exact fun e => hnm (e ▸ hx)⟩
    · simp only
      have hl : 0 < st.2.length := (List.getElem?_eq_some_iff.1 h.h0).1
      rw [List.getElem?_append_left hl]
      exact h.h0
    · simp only
      rw [hold s hs0 hsv]
      exact h.s2
    · intro j y hj hy
      simp only at hy ⊢
      by_cases hjl : j < st.2.length
      · rw [List.getElem?_append_left hjl] at hy
        have hym := List.mem_of_getElem? hy
        have hyv : y ≠ v := fun e => hnm (e ▸ hym)
        obtain ⟨i', u', p1, p2, p3⟩ := h.par j y hj hy
        rw [hold y (h.qr y hym).1 hyv]
        exact ⟨i', u', p1, by rw [List.getElem?_append_left (by omega)]; exact p2, p3⟩
      · have hjj : j = st.2.length := by
          have := (List.getElem?_eq_some_iff.1 hy).1
          simp at this
          omega
        subst hjj
        rw [List.getElem?_append_right (Nat.le_refl _)] at hy
        simp at hy
        subst hy
        rw [hnew]
        have hil := (List.getElem?_eq_some_iff.1 hi).1
        exact ⟨i, u, hil, by rw [List.getElem?_append_left hil]; exact hi, ha.1, ha.2, hvv.symm, hr, ht⟩
    · intro x hx0 hx1 hx
      simp only
      by_cases hxv : x = v
      · subst hxv; rw [hnew]; omega
      · rw [hold x hx0 hxv]; exact hx
    · intro _
      simp only
      rw [hnew]
      omega
  · rename_i hc
    refine ⟨h, ⟨[], by simp⟩, fun _ _ _ hx => hx, fun hr hm => hc ⟨hr, hm⟩⟩
/-- all arcs of a vertex -/
theorem pinv_fold {n : Nat} {H R : List Int} {s : Int} (hH : ∀ x ∈ H, 0 ≤ x ∧ x < (n : Int)) {i : Nat} {u : Int} : ∀ (L : List Int) (st : List Int × List Int), PInv n H R s st → st.2[i]? = some u → (∀ a ∈ L, 0 ≤ a ∧ a < (H.length : Int) ∧ atI H (mate a.toNat : Int) = u) →
    PInv n H R s (L.foldl (arcS H R) st) ∧ (∃ ext, (L.foldl (arcS H R) st).2 = st.2 ++ ext) ∧ (∀ x : Int, 0 ≤ x → x < (n : Int) → atI st.1 x ≠ -1 → atI (L.foldl (arcS H R) st).1 x ≠ -1) ∧ (∀ a ∈ L, atI R a > 0 → atI (L.foldl (arcS H R) st).1 (atI H a) ≠ -1)
  | [], st, h, _, _ => ⟨h, ⟨[], by simp⟩, fun _ _ _ hx => hx, fun a ha => absurd ha (by simp)⟩
  | a :: L, st, h, hi, hL => by
    obtain ⟨a0, a1, a2⟩ := hL a (by simp)
    obtain ⟨p1, ⟨e1, p2⟩, p3, p4⟩ := pinv_arc h hi ⟨a0, a1⟩ hH a2
    have hi' : (arcS H R st a).2[i]? = some u := by
      rw [p2, List.getElem?_append_left (List.getElem?_eq_some_iff.1 hi).1]
      exact hi
    obtain ⟨q1, ⟨e2, q2⟩, q3, q4⟩ := pinv_fold hH L (arcS H R st a) p1 hi' (fun b hb => hL b (by simp [hb]))
    have hal : a.toNat < H.length := by omega
    have hv := hH _ (List.getElem_mem hal)
    rw [← atI_eq hal] at hv
    refine ⟨q1, ⟨e1 ++ e2, by rw [List.foldl_cons, q2, p2, List.append_assoc]⟩, fun x hx0 hx1 hx => q3 x hx0 hx1 (p3 x hx0 hx1 hx), fun b hb hr => ?_⟩
    rw [List.mem_cons] at hb
    rcases hb with rfl | hb
    · exact q3 _ hv.1 hv.2 (p4 hr)
    · exact q4 b hb hr
structure ArcsOk (n : Nat) (H : List Int) (A : List (List Int)) : Prop where
  len : A.length = n
  h : ∀ x ∈ H, 0 ≤ x ∧ x < (n : Int)
  a : ∀ (u : Nat), u < n → ∀ a ∈ A.getD u [], 0 ≤ a ∧ a < (H.length : Int) ∧ atI H (mate a.toNat : Int) = (u : Int)
theorem nodup_le : ∀ (n : Nat) (q : List Int), q.Nodup → (∀ x ∈ q, 0 ≤ x ∧ x < (n : Int)) → q.length ≤ n
  | 0, [], _, _ => Nat.le_refl _
  | 0, x :: q, _, h => by have := h x (by simp); omega
  | n + 1, q, hd, h => by
    have h1 := nodup_le n (q.filter (fun x => x != (n : Int))) (hd.filter _) (fun x hx => by
      rw [List.mem_filter] at hx
      have := h x hx.1
      have h2 : x ≠ (n : Int) := by simpa using hx.2
      omega)
    have h2 : q.length ≤ (q.filter (fun x => x != (n : Int))).length + 1 := by
      have h3 : q.count (n : Int) ≤ 1 := List.nodup_iff_count.1 hd _
      have h4 := List.length_eq_countP_add_countP (fun x => x != (n : Int)) (l := q)
      rw [List.countP_eq_length_filter] at h4
      have h5 : List.countP (fun a => ¬ (a != (n : Int)) = true) q = q.count (n : Int) := by
        unfold List.count
        congr 1
        funext x
        by_cases hx : x = (n : Int) <;> simp [hx]
      rw [h5] at h4
      omega
    omega
theorem bfs_ok {n : Nat} {H R : List Int} {A : List (List Int)} {s : Int} (ok : ArcsOk n H A) : ∀ (f i : Nat) (st : List Int × List Int), PInv n H R s st → i ≤ st.2.length → n + 1 ≤ f + i → (∀ (j : Nat) (u : Int), j < i → st.2[j]? = some u → ∀ a ∈ A.getD u.toNat [], atI R a > 0 → atI st.1 (atI H a) ≠ -1) →
    ∃ q, PInv n H R s (bfs H R A f i st, q) ∧ ∀ (j : Nat) (u : Int), q[j]? = some u → ∀ a ∈ A.getD u.toNat [], atI R a > 0 → atI (bfs H R A f i st) (atI H a) ≠ -1
  | 0, i, st, h, hi, hf, _ => by
    have := nodup_le n st.2 h.nd h.qr
    omega
  | f + 1, i, st, h, hi, hf, hc => by
    unfold bfs
    split
    · rename_i hlt
      have hu : st.2[i]? = some (st.2[i]'hlt) := List.getElem?_eq_getElem hlt
      have hur := h.qr _ (List.getElem_mem hlt)
      have hd : st.2.getD i 0 = st.2[i]'hlt := by rw [List.getD_eq_getElem?_getD, hu]; rfl
      rw [hd]
      obtain ⟨uN, huN⟩ : ∃ uN : Nat, st.2[i]'hlt = (uN : Int) := ⟨(st.2[i]'hlt).toNat, by omega⟩
      rw [huN] at hu hur ⊢
      rw [Int.toNat_natCast]
      obtain ⟨p1, ⟨ext, p2⟩, p3, p4⟩ := pinv_fold ok.h (A.getD uN []) st h hu (ok.a uN (by omega))
      refine bfs_ok ok f (i + 1) _ p1 (by rw [p2, List.length_append]; omega) (by omega) ?_
      intro j u hj hju a ha hr
      rw [p2] at hju
      have hjl : j < st.2.length := by omega
      rw [List.getElem?_append_left hjl] at hju
      by_cases hji : j < i
      · have hx := hc j u hji hju a ha hr
        have hum := h.qr u (List.mem_of_getElem? hju)
        have haa := ok.a u.toNat (by omega) a ha
        have hal : a.toNat < H.length := by omega
        have hv := ok.h _ (List.getElem_mem hal)
        rw [← atI_eq hal] at hv
        exact p3 _ hv.1 hv.2 hx
      · have : j = i := by omega
        subst this
        rw [hu] at hju
        cases hju
        rw [Int.toNat_natCast] at ha
        exact p4 a ha hr
    · rename_i hlt
      exact ⟨st.2, h, fun j u hju a ha hr => hc j u (by have := (List.getElem?_eq_some_iff.1 hju).1; omega) hju a ha hr⟩
/-- what a search notes -/
theorem srch_ok {n : Nat} {H R : List Int} {A : List (List Int)} {s : Int} (ok : ArcsOk n H A) (h0 : 0 ≤ s) (h1 : s < (n : Int)) :
    ∃ q, PInv n H R s (srch H R A s, q) ∧ ∀ (j : Nat) (u : Int), q[j]? = some u → ∀ a ∈ A.getD u.toNat [], atI R a > 0 → atI (srch H R A s) (atI H a) ≠ -1 := by
  unfold srch
  rw [ok.len]
  exact bfs_ok ok (n + 1) 0 _ (pinv_start h0 h1) (Nat.zero_le _) (by omega) (fun j u hj => absurd hj (Nat.not_lt_zero j))
end Go.Proofs.Ytpcdbnlljdfogaa
/- Plain facts on flows: what a push changes. -/
namespace Go.Proofs.Ytpcdbnlljdfogaa
open Go.RowKit

def sumN (f : Nat → Int) : Nat → Int
  | 0 => 0
  | n + 1 => sumN f n + f n
theorem sumN_congr {f g : Nat → Int} : ∀ (n : Nat), (∀ k, k < n → f k = g k) → sumN f n = sumN g n
  | 0, _ => rfl
  | n + 1, h => by
    unfold sumN
    rw [sumN_congr n (fun k hk => h k (by omega)), h n (by omega)]
theorem sumN_upd {f g : Nat → Int} {k : Nat} {d : Int} : ∀ (n : Nat), k < n → (∀ j, j < n → j ≠ k → g j = f j) → g k = f k + d → sumN g n = sumN f n + d
  | 0, h, _, _ => absurd h (Nat.not_lt_zero k)
  | n + 1, hk, h, hd => by
    unfold sumN
    by_cases hkn : k = n
    · subst hkn
      rw [sumN_congr k (fun j hj => h j (by omega) (by omega)), hd]
      omega
    · rw [sumN_upd n (by omega) (fun j hj hjk => h j (by omega) hjk) hd, h n (by omega) (fun e => hkn e.symm)]
      omega
theorem sumN_add {f g : Nat → Int} : ∀ (n : Nat), sumN (fun k => f k + g k) n = sumN f n + sumN g n
  | 0 => rfl
  | n + 1 => by unfold sumN; rw [sumN_add n]; omega
theorem sumN_sub {f g : Nat → Int} : ∀ (n : Nat), sumN (fun k => f k - g k) n = sumN f n - sumN g n
  | 0 => rfl
  | n + 1 => by unfold sumN; rw [sumN_sub n]; omega
theorem sumN_zero {f : Nat → Int} : ∀ (n : Nat), (∀ k, k < n → f k = 0) → sumN f n = 0
  | 0, _ => rfl
  | n + 1, h => by unfold sumN; rw [sumN_zero n (fun k hk => h k (by omega)), h n (by omega)]; rfl
theorem sumN_le {f g : Nat → Int} : ∀ (n : Nat), (∀ k, k < n → f k ≤ g k) → sumN f n ≤ sumN g n
  | 0, _ => Int.le_refl _
  | n + 1, h => by
    unfold sumN
    have := sumN_le n (fun k hk => h k (by omega))
    have := h n (by omega)
    omega
theorem sumN_comm {f : Nat → Nat → Int} (m : Nat) : ∀ (n : Nat), sumN (fun i => sumN (fun j => f i j) m) n = sumN (fun j => sumN (fun i => f i j) n) m
  | 0 => (sumN_zero m (fun _ _ => rfl)).symm
  | n + 1 => by
    show sumN (fun i => sumN (fun j => f i j) m) n + sumN (fun j => f n j) m = sumN (fun j => sumN (fun i => f i j) n + f n j) m
    rw [sumN_comm m n, sumN_add]
/-- one term alone -/
theorem sumN_one {f : Nat → Int} {k : Nat} : ∀ (n : Nat), k < n → (∀ j, j < n → j ≠ k → f j = 0) → sumN f n = f k := by
  intro n hk h
  have := sumN_upd (f := fun _ => 0) (g := f) (d := f k) n hk h (by simp)
  rw [this, sumN_zero n (fun _ _ => rfl)]
  omega
/-- what flows into a vertex, less what flows out of it -/
def exT (H R : List Int) (v : Int) (k : Nat) : Int := (if atI H ((2 * k : Nat) : Int) = v then atI R ((2 * k + 1 : Nat) : Int) else 0) - (if atI H ((2 * k + 1 : Nat) : Int) = v then atI R ((2 * k + 1 : Nat) : Int) else 0)
def exA (H R : List Int) (v : Int) : Int := sumN (exT H R v) (H.length / 2)
structure RInv (m : Nat) (c : Nat → Int) (R : List Int) : Prop where
  len : R.length = 2 * m
  c : ∀ k, k < m → 0 ≤ atI R ((2 * k : Nat) : Int) ∧ 0 ≤ atI R ((2 * k + 1 : Nat) : Int) ∧ atI R ((2 * k : Nat) : Int) + atI R ((2 * k + 1 : Nat) : Int) = c k
theorem upd_at {R : List Int} {a : Nat} (ha : a < R.length) (hm : mate a < R.length) (b : Nat) : atI (upd R a) (b : Int) = if b = a then atI R (a : Int) - 1 else if b = mate a then atI R (mate a : Int) + 1 else atI R (b : Int) := by
  unfold upd
  have hma := mate_ne a
  by_cases hb : b = a
  · subst hb
    rw [if_pos rfl, atI_set_ne (by rw [Int.toNat_natCast]; exact fun e => hma e.symm), atI_set_same ha]
  · rw [if_neg hb]
    by_cases hb2 : b = mate a
    · subst hb2
      rw [if_pos rfl, atI_set_same (by rw [List.length_set]; exact hm)]
    · rw [if_neg hb2, atI_set_ne (by rw [Int.toNat_natCast]; exact hb2), atI_set_ne (by rw [Int.toNat_natCast]; exact hb)]
theorem par_cases (a : Nat) : (∃ k, a = 2 * k ∧ mate a = 2 * k + 1) ∨ (∃ k, a = 2 * k + 1 ∧ mate a = 2 * k) := by
  rcases Nat.mod_two_eq_zero_or_one a with h | h
  · exact .inl ⟨a / 2, by omega, by rw [show a = 2 * (a / 2) by omega, mate_even]; omega⟩
  · exact .inr ⟨a / 2, by omega, by rw [show a = 2 * (a / 2) + 1 by omega, mate_odd]; omega⟩
theorem ex_upd {H R : List Int} {m : Nat} (hH : H.length = 2 * m) (hR : R.length = 2 * m) {a : Nat} (ha : a < 2 * m) (v : Int) :
    exA H (upd R a) v = exA H R v + (if atI H (a : Int) = v then 1 else 0) - (if atI H (mate a : Int) = v then 1 else 0) := by
  have hmm : mate a < 2 * m := mate_lt ha (by omega)
  unfold exA
  rw [hH, show 2 * m / 2 = m by omega]
  rcases par_cases a with ⟨k, rfl, hm⟩ | ⟨k, rfl, hm⟩
  · have hU := fun b => upd_at (R := R) (a := 2 * k) (by omega) (by omega) b
    rw [hm] at hU
    have h := sumN_upd (f := exT H R v) (g := exT H (upd R (2 * k)) v) (k := k) (d := (if atI H ((2 * k : Nat) : Int) = v then 1 else 0) - (if atI H ((2 * k + 1 : Nat) : Int) = v then 1 else 0)) m (by omega) ?_ ?_
    · rw [h, hm]; omega
    · intro j hj hjk
      have hUj : atI (upd R (2 * k)) ((2 * j + 1 : Nat) : Int) = atI R ((2 * j + 1 : Nat) : Int) := by rw [hU, if_neg (by omega), if_neg (by omega)]
      unfold exT
      rw [hUj]
    · have hUk : atI (upd R (2 * k)) ((2 * k + 1 : Nat) : Int) = atI R ((2 * k + 1 : Nat) : Int) + 1 := by rw [hU, if_neg (by omega), if_pos rfl]
      unfold exT
      rw [hUk]
      split <;> split <;> omega
  · have hU := fun b => upd_at (R := R) (a := 2 * k + 1) (by omega) (by omega) b
    rw [hm] at hU
    have h := sumN_upd (f := exT H R v) (g := exT H (upd R (2 * k + 1)) v) (k := k) (d := (if atI H ((2 * k + 1 : Nat) : Int) = v then 1 else 0) - (if atI H ((2 * k : Nat) : Int) = v then 1 else 0)) m (by omega) ?_ ?_
    · rw [h, hm]; omega
    · intro j hj hjk
      have hUj : atI (upd R (2 * k + 1)) ((2 * j + 1 : Nat) : Int) = atI R ((2 * j + 1 : Nat) : Int) := by rw [hU, if_neg (by omega), if_neg (by omega)]
      unfold exT
      rw [hUj]
    · have hUk : atI (upd R (2 * k + 1)) ((2 * k + 1 : Nat) : Int) = atI R ((2 * k + 1 : Nat) : Int) - 1 := by rw [hU, if_pos rfl]
      unfold exT
      rw [hUk]
      split <;> split <;> omega
theorem rinv_upd {R : List Int} {m : Nat} {c : Nat → Int} (h : RInv m c R) {a : Nat} (ha : a < 2 * m) (h1 : 1 ≤ atI R (a : Int)) : RInv m c (upd R a) := by
  have hmm : mate a < 2 * m := mate_lt ha (by omega)
  have hl := h.len
  refine ⟨by rw [upd_len]; exact h.len, fun k hk => ?_⟩
  have hc := h.c k hk
  have hU := fun b => upd_at (R := R) (a := a) (by omega) (by omega) b
  rw [hU, hU]
  rcases par_cases a with ⟨j, rfl, hm⟩ | ⟨j, rfl, hm⟩
  · rw [hm]
    by_cases hjk : k = j
    · subst hjk
      rw [if_pos rfl, if_neg (by omega), if_pos rfl]
      omega
    · rw [if_neg (by omega), if_neg (by omega), if_neg (by omega), if_neg (by omega)]
      exact hc
  · rw [hm]
    by_cases hjk : k = j
    · subst hjk
      rw [if_neg (by omega), if_pos rfl, if_pos rfl]
      omega
    · rw [if_neg (by omega), if_neg (by omega), if_neg (by omega), if_neg (by omega)]
      exact hc
theorem rinv_ge {R : List Int} {m : Nat} {c : Nat → Int} (h : RInv m c R) {a : Nat} (ha : a < 2 * m) : 0 ≤ atI R (a : Int) := by
  rcases par_cases a with ⟨j, rfl, _⟩ | ⟨j, rfl, _⟩
  · exact (h.c j (by omega)).1
  · exact (h.c j (by omega)).2.1
theorem rinv_le {R : List Int} {m : Nat} {c : Nat → Int} (h : RInv m c R) (hc : ∀ k, k < m → c k ≤ 1000) {a : Nat} (ha : a < 2 * m) : atI R (a : Int) ≤ 1000 := by
  rcases par_cases a with ⟨j, rfl, _⟩ | ⟨j, rfl, _⟩
  · have := h.c j (by omega); have := hc j (by omega); omega
  · have := h.c j (by omega); have := hc j (by omega); omega
/-- the walk back from a vertex of the queue reaches the start, and moves one unit -/
theorem pushO_ok {n m : Nat} {H R : List Int} {s : Int} {b q : List Int} {c : Nat → Int} (hH : H.length = 2 * m) (h : PInv n H R s (b, q)) (hc : ∀ k, k < m → c k ≤ 1000) :
    ∀ (j : Nat) (v : Int) (R1 : List Int), q[j]? = some v → RInv m c R1 → (∀ (i : Nat) (u : Int), 0 < i → i ≤ j → q[i]? = some u → atI R (atI b u) ≤ atI R1 (atI b u)) →
      ∃ R', (∀ f, j ≤ f → pushO H b s f v R1 = some R') ∧ RInv m c R' ∧ ∀ x, exA H R' x = exA H R1 x + (if v = x then 1 else 0) - (if s = x then 1 else 0) := by
  intro j
  induction j using Nat.strongRecOn with
  | _ j ih =>
    intro v R1 hv hR1 hge
    by_cases hj : j = 0
    · subst hj
      have hs := h.h0
      simp only at hs
      rw [hs] at hv
      cases hv
      refine ⟨R1, fun f _ => by cases f <;> simp [pushO], hR1, fun x => by omega⟩
    · obtain ⟨i, u, hi, hu, a0, a1, a2, a3, a4⟩ := h.par j v (by omega) hv
      simp only at hu a0 a1 a2 a3 a4
      obtain ⟨a, haa⟩ : ∃ a : Nat, atI b v = (a : Int) := ⟨(atI b v).toNat, by omega⟩
      have hge1 := hge j v (by omega) (Nat.le_refl _) hv
      rw [haa] at a0 a1 a2 a3 a4 hge1
      rw [Int.toNat_natCast] at a4
      have haL : a < 2 * m := by omega
      have hml : mate a < 2 * m := mate_lt haL (by omega)
      have hR2 := rinv_upd hR1 haL (by omega)
      have hvs : v ≠ s := fun e => by
        have h1 := h.s2
        simp only at h1
        rw [← e, haa] at h1
        omega
      obtain ⟨R', p1, p2, p3⟩ := ih i hi u (upd R1 a) hu hR2 (fun i' u' hi0 hii hu' => by
        have hx := hge i' u' hi0 (by omega) hu'
        obtain ⟨_, _, _, _, b0, b1, b2, _, _⟩ := h.par i' u' hi0 hu'
        simp only at b0 b1 b2
        obtain ⟨a', haa'⟩ : ∃ a' : Nat, atI b u' = (a' : Int) := ⟨(atI b u').toNat, by omega⟩
        rw [haa'] at b0 b1 b2 hx ⊢
        have hne : a' ≠ a := fun e => by
          subst e
          rw [a2] at b2
          subst b2
          have hnd := h.nd
          have := (List.getElem?_inj (List.getElem?_eq_some_iff.1 hv).1 hnd).1 (hv.trans hu'.symm)
          omega
        rw [upd_at (by rw [hR1.len]; exact haL) (by rw [hR1.len]; exact hml), if_neg hne]
        split
        · rename_i he2
          subst he2
          omega
        · exact hx)
      refine ⟨R', fun f hf => ?_, p2, fun x => ?_⟩
      · cases f with
        | zero => omega
        | succ f =>
          unfold pushO
          rw [if_neg hvs, haa, Int.toNat_natCast, if_pos ⟨a0, a1, by omega, by have := rinv_le hR1 hc hml; omega⟩, a4]
          exact p1 f (by omega)
      · rw [p3 x, ex_upd hH hR1.len haL x, a2, a4]
        omega
end Go.Proofs.Ytpcdbnlljdfogaa
