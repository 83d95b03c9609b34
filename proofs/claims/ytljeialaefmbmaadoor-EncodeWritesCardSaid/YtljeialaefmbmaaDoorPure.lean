/- Plain facts of encodings: what a value is, wherever it stands. -/
import Derived.Test.YtljeialaefmbmaaDoorMeasB
set_option linter.unusedSimpArgs false
set_option linter.unusedVariables false
namespace Go.Proofs.YtljeialaefmbmaaDoor
open Go.RowKit

/-- measure, with fuel enough -/
def measG (s : ByteArray) (a : Nat) (o d : Int) : Int × Int := measF s (s.size + 1) a o d
theorem headS_out {s : ByteArray} {a : Nat} (h : s.size ≤ a) : headS s a = hdNo := by unfold headS; rw [if_pos h]
theorem measF_fuel (s : ByteArray) : ∀ (f f' a : Nat) (o d : Int), s.size < f + a → s.size < f' + a → measF s f a o d = measF s f' a o d := by
  intro f
  induction f with
  | zero =>
    intro f' a o d h h'
    cases f' with
    | zero => rfl
    | succ f' => rw [measF, measF, headS_out (by omega), if_pos (show hdNo.kind = 0 from rfl)]
  | succ f ih =>
    intro f' a o d h h'
    cases f' with
    | zero => rw [measF, measF, headS_out (by omega), if_pos (show hdNo.kind = 0 from rfl)]
    | succ f' =>
      rw [measF, measF]
      by_cases h0 : (headS s a).kind = 0
      · rw [if_pos h0, if_pos h0]
      · rw [if_neg h0, if_neg h0]
        have := (headS_kind s a).2.2 h0
        rw [ih f' _ _ _ (by omega) (by omega)]
theorem measG_eq (s : ByteArray) (a : Nat) (o d : Int) : measG s a o d =
    if (headS s a).kind = 0 then (0, -1)
    else if stepO (headS s a).kind o < 0 ∨ 32 < stepO (headS s a).kind o then (0, -1)
    else if stepO (headS s a).kind o = 0 then (((headS s a).fin : Int), stepD (headS s a).kind o d)
    else measG s (headS s a).fin (stepO (headS s a).kind o) (stepD (headS s a).kind o d) := by
  unfold measG
  rw [measF]
  by_cases h0 : (headS s a).kind = 0
  · rw [if_pos h0, if_pos h0]
  · rw [if_neg h0, if_neg h0]
    have := (headS_kind s a).2.2 h0
    rw [measF_fuel s s.size (s.size + 1) _ _ _ (by omega) (by omega)]
theorem measS_G (s : ByteArray) (a : Nat) : measS s a = measG s a 0 0 := rfl
/-- by the kind of the head -/
theorem measG_no {s : ByteArray} {a : Nat} {o d : Int} (h : (headS s a).kind = 0) : measG s a o d = (0, -1) := by rw [measG_eq, if_pos h]
theorem measG_open {s : ByteArray} {a : Nat} {o d : Int} (h : (headS s a).kind = 3) (ho : 0 ≤ o) : measG s a o d = if 32 < o + 1 then (0, -1) else measG s (headS s a).fin (o + 1) (max d (o + 1)) := by
  rw [measG_eq, h, if_neg (by omega), show stepO 3 o = o + 1 from rfl, show stepD 3 o d = max d (o + 1) from rfl]
  by_cases h1 : 32 < o + 1
  · rw [if_pos (Or.inr h1), if_pos h1]
  · rw [if_neg (by omega), if_neg (by omega), if_neg h1]
theorem measG_close {s : ByteArray} {a : Nat} {o d : Int} (h : (headS s a).kind = 4) (ho : o ≤ 33) : measG s a o d = if o < 1 then (0, -1) else if o = 1 then (((headS s a).fin : Int), d) else measG s (headS s a).fin (o - 1) d := by
  rw [measG_eq, h, if_neg (by omega), show stepO 4 o = o - 1 from rfl, show stepD 4 o d = d from rfl]
  by_cases h1 : o < 1
  · rw [if_pos (by omega), if_pos h1]
  · rw [if_neg (by omega), if_neg h1]
    by_cases h2 : o = 1
    · rw [if_pos (by omega), if_pos h2]
    · rw [if_neg (by omega), if_neg h2]
theorem measG_atom {s : ByteArray} {a : Nat} {o d : Int} (h : (headS s a).kind = 1 ∨ (headS s a).kind = 2) (ho : 0 ≤ o) (ho2 : o ≤ 32) : measG s a o d = if o = 0 then (((headS s a).fin : Int), d) else measG s (headS s a).fin o d := by
  have e1 : stepO (headS s a).kind o = o := by unfold stepO; rw [if_neg (by omega), if_neg (by omega)]
  have e2 : stepD (headS s a).kind o d = d := by unfold stepD; rw [if_neg (by omega)]
  rw [measG_eq, e1, e2, if_neg (by omega), if_neg (by omega)]
theorem kind_cases (s : ByteArray) (a : Nat) : (headS s a).kind = 0 ∨ (headS s a).kind = 3 ∨ (headS s a).kind = 4 ∨ ((headS s a).kind = 1 ∨ (headS s a).kind = 2) := by
  have := headS_kind s a
  omega
theorem kind_fin {s : ByteArray} {a : Nat} (h : (headS s a).kind ≠ 0) : a < (headS s a).fin ∧ (headS s a).fin ≤ s.size ∧ a < s.size := (headS_kind s a).2.2 h

/-- either nothing, or a place behind and a depth that is not less -/
theorem measG_ok (s : ByteArray) : ∀ (n a : Nat) (o d : Int), s.size - a ≤ n → 0 ≤ o → o ≤ 32 → 0 ≤ d → d ≤ 32 →
    (measG s a o d = (0, -1)) ∨ ((a : Int) < (measG s a o d).1 ∧ (measG s a o d).1 ≤ s.size ∧ d ≤ (measG s a o d).2 ∧ (measG s a o d).2 ≤ 32) := by
  intro n
  induction n with
  | zero =>
    intro a o d hn _ _ _ _
    left
    exact measG_no (by rw [headS_out (by omega)]; rfl)
  | succ n ih =>
    intro a o d hn h1 h2 h3 h4
    rcases kind_cases s a with h | h | h | h
    · exact Or.inl (measG_no h)
    · have hf := kind_fin (show (headS s a).kind ≠ 0 by omega)
      rw [measG_open h h1]
      split
      · exact Or.inl rfl
      · have := ih (headS s a).fin (o + 1) (max d (o + 1)) (by omega) (by omega) (by omega) (by omega) (by omega)
        rcases this with e | e
        · exact Or.inl e
        · exact Or.inr (by omega)
    · have hf := kind_fin (show (headS s a).kind ≠ 0 by omega)
      rw [measG_close h (by omega)]
      split
      · exact Or.inl rfl
      · split
        · right
          exact ⟨by simp only; omega, by simp only; omega, by simp only; omega, by simp only; omega⟩
        · have := ih (headS s a).fin (o - 1) d (by omega) (by omega) (by omega) (by omega) (by omega)
          rcases this with e | e
          · exact Or.inl e
          · exact Or.inr (by omega)
    · have hf := kind_fin (show (headS s a).kind ≠ 0 by omega)
      rw [measG_atom h h1 h2]
      split
      · right
        exact ⟨by simp only; omega, by simp only; omega, by simp only; omega, by simp only; omega⟩
      · have := ih (headS s a).fin o d (by omega) (by omega) (by omega) (by omega) (by omega)
        rcases this with e | e
        · exact Or.inl e
        · exact Or.inr (by omega)
/-- what is measured within more lists -/
theorem measG_frame (s : ByteArray) (b c : Int) (hb : 1 ≤ b) : ∀ (n a : Nat) (o d : Int), s.size - a ≤ n → 1 ≤ o → 0 ≤ d → d + b ≤ 32 → o + b ≤ 32 →
    measG s a (o + b) (max (d + b) c) = if (measG s a o d).2 < 0 ∨ 32 < (measG s a o d).2 + b then (0, -1) else measG s (measG s a o d).1.toNat b (max ((measG s a o d).2 + b) c) := by
  intro n
  induction n with
  | zero =>
    intro a o d hn _ _ _ _
    have h : (headS s a).kind = 0 := by rw [headS_out (by omega)]; rfl
    rw [measG_no h, measG_no h, if_pos (by left; simp)]
  | succ n ih =>
    intro a o d hn h1 h2 h3 h4
    rcases kind_cases s a with h | h | h | h
    · rw [measG_no h, measG_no h, if_pos (by left; simp)]
    · have hf := kind_fin (show (headS s a).kind ≠ 0 by omega)
      rw [measG_open h (by omega), measG_open (o := o) h (by omega), if_neg (show ¬ 32 < o + 1 by omega)]
      by_cases h5 : 32 < o + b + 1
      · have := measG_ok s _ (headS s a).fin (o + 1) (max d (o + 1)) (Nat.le_refl _) (by omega) (by omega) (by omega) (by omega)
        rw [if_pos h5, if_pos]
        rcases this with e | e
        · left; rw [e]; simp
        · right; omega
      · rw [if_neg h5]
        have := ih (headS s a).fin (o + 1) (max d (o + 1)) (by omega) (by omega) (by omega) (by omega) (by omega)
        rw [← this]
        congr 1 <;> omega
    · have hf := kind_fin (show (headS s a).kind ≠ 0 by omega)
      rw [measG_close h (by omega), measG_close (o := o) h (by omega), if_neg (show ¬ o + b < 1 by omega), if_neg (show ¬ o + b = 1 by omega), if_neg (show ¬ o < 1 by omega)]
      by_cases h5 : o = 1
      · rw [if_pos h5]
        show _ = if (d < 0 ∨ 32 < d + b) then (0, -1) else measG s (((headS s a).fin : Int)).toNat b (max (d + b) c)
        rw [if_neg (by omega), Int.toNat_natCast]
        congr 1
        omega
      · rw [if_neg h5]
        have := ih (headS s a).fin (o - 1) d (by omega) (by omega) (by omega) (by omega) (by omega)
        rw [← this]
        congr 1
        omega
    · have hf := kind_fin (show (headS s a).kind ≠ 0 by omega)
      rw [measG_atom h (by omega) (by omega), measG_atom (o := o) h (by omega) (by omega), if_neg (show ¬ o + b = 0 by omega), if_neg (show ¬ o = 0 by omega)]
      exact ih (headS s a).fin o d (by omega) (by omega) (by omega) (by omega) (by omega)
theorem measS_ok (s : ByteArray) (a : Nat) : measS s a = (0, -1) ∨ ((a : Int) < (measS s a).1 ∧ (measS s a).1 ≤ s.size ∧ 0 ≤ (measS s a).2 ∧ (measS s a).2 ≤ 32) := measG_ok s _ a 0 0 (Nat.le_refl _) (by omega) (by omega) (by omega) (by omega)
/-- a value within lists -/
theorem measG_val (s : ByteArray) (a : Nat) (b c : Int) (hb : 1 ≤ b) (hb2 : b ≤ 32) (hc : b ≤ c) (hk : (headS s a).kind ≠ 4) :
    measG s a b c = if (measS s a).2 < 0 ∨ 32 < (measS s a).2 + b then (0, -1) else measG s (measS s a).1.toNat b (max ((measS s a).2 + b) c) := by
  rw [measS_G]
  rcases kind_cases s a with h | h | h | h
  · rw [measG_no h, measG_no h, if_pos (by left; simp)]
  · have hf := kind_fin (show (headS s a).kind ≠ 0 by omega)
    rw [measG_open h (by omega), measG_open (o := 0) h (by omega), if_neg (show ¬ (32 : Int) < 0 + 1 by omega)]
    by_cases h5 : 32 < b + 1
    · have := measG_ok s _ (headS s a).fin (0 + 1) (max 0 (0 + 1)) (Nat.le_refl _) (by omega) (by omega) (by omega) (by omega)
      rw [if_pos h5, if_pos]
      rcases this with e | e
      · left; rw [e]; simp
      · right; omega
    · rw [if_neg h5, ← measG_frame s b c hb _ (headS s a).fin (0 + 1) (max 0 (0 + 1)) (Nat.le_refl _) (by omega) (by omega) (by omega) (by omega)]
      congr 1 <;> omega
  · exact absurd h hk
  · rw [measG_atom h (by omega) (by omega), measG_atom (o := 0) h (by omega) (by omega), if_neg (show ¬ b = 0 by omega), if_pos (show (0 : Int) = 0 from rfl)]
    show _ = if ((0 : Int) < 0 ∨ 32 < 0 + b) then (0, -1) else measG s (((headS s a).fin : Int)).toNat b (max (0 + b) c)
    rw [if_neg (by omega), Int.toNat_natCast]
    congr 1
    omega
/-- a list -/
theorem measS_list {s : ByteArray} {a : Nat} (h : (headS s a).kind = 3) : measS s a = measG s (headS s a).fin 1 1 := by
  rw [measS_G, measG_open h (by omega), if_neg (by omega)]
  rfl

/-- two texts have the same bytes from two places on -/
def Agr (s : ByteArray) (a : Nat) (t : ByteArray) (b n : Nat) : Prop := a + n ≤ s.size ∧ b + n ≤ t.size ∧ ∀ k, k < n → at8 s (a + k) = at8 t (b + k)
theorem Agr.drop {s t : ByteArray} {a b n : Nat} (h : Agr s a t b n) {j : Nat} (hj : j ≤ n) : Agr s (a + j) t (b + j) (n - j) := by
  obtain ⟨h1, h2, h3⟩ := h
  refine ⟨by omega, by omega, fun k hk => ?_⟩
  have := h3 (j + k) (by omega)
  rw [← Nat.add_assoc, ← Nat.add_assoc] at this
  exact this
theorem Agr.symm {s t : ByteArray} {a b n : Nat} (h : Agr s a t b n) : Agr t b s a n := ⟨h.2.1, h.1, fun k hk => (h.2.2 k hk).symm⟩
theorem Agr.le {s t : ByteArray} {a b n m : Nat} (h : Agr s a t b n) (hm : m ≤ n) : Agr s a t b m := ⟨by have := h.1; omega, by have := h.2.1; omega, fun k hk => h.2.2 k (by omega)⟩
theorem at8_extract {s : ByteArray} {i j k : Nat} (hj : j ≤ s.size) (hk : k < j - i) : at8 (s.extract i j) k = at8 s (i + k) := by
  have h1 : k < (s.extract i j).size := by simp; omega
  rw [at8_eq h1, at8_eq (show i + k < s.size by omega)]
  rw [ByteArray.getElem_extract]
theorem ext_at8 {x y : ByteArray} (h : x.size = y.size) (h' : ∀ k, k < x.size → at8 x k = at8 y k) : x = y := by
  apply ByteArray.ext
  apply Array.ext
  · exact h
  · intro i h1 h2
    have := h' i h1
    rw [at8_eq (show i < x.size from h1), at8_eq (show i < y.size from h2)] at this
    exact UInt8.toNat_inj.1 this
theorem extract_agr {s t : ByteArray} {a b n : Nat} (h : Agr s a t b n) : s.extract a (a + n) = t.extract b (b + n) := by
  obtain ⟨h1, h2, h3⟩ := h
  apply ext_at8
  · simp; omega
  · intro k hk
    have hk : k < n := by simp at hk; omega
    rw [at8_extract h1 (by omega), at8_extract h2 (by omega)]
    exact h3 k hk
theorem agr_extract {s : ByteArray} {i j : Nat} (hi : i ≤ j) (hj : j ≤ s.size) : Agr (s.extract i j) 0 s i (j - i) :=
  ⟨by simp; omega, by omega, fun k hk => by rw [Nat.zero_add]; exact at8_extract hj hk⟩
theorem digN_s (m : Nat) (s : ByteArray) (a : Nat) : digN (m + 1) s a = if a < s.size ∧ 48 ≤ at8 s a ∧ at8 s a ≤ 57 then digN m s (a + 1) + 1 else 0 := by
  rw [digN]
  by_cases h : a < s.size
  · rw [dif_pos h, at8_eq h]
    unfold isDig
    simp [h]
  · rw [dif_neg h, if_neg (fun h' => h h'.1)]
theorem digN_agr {s t : ByteArray} : ∀ (m n a b : Nat), Agr s a t b n → digN m s a < n → digN m t b = digN m s a := by
  intro m
  induction m with
  | zero => intros; rfl
  | succ m ih =>
    intro n a b h hd
    have h0 := h.2.2 0 (by omega)
    have h1 := h.1
    have h2 := h.2.1
    rw [Nat.add_zero, Nat.add_zero] at h0
    rw [digN_s] at hd
    rw [digN_s, digN_s, ← h0]
    by_cases hc : 48 ≤ at8 s a ∧ at8 s a ≤ 57
    · rw [if_pos ⟨by omega, hc⟩] at hd
      rw [if_pos ⟨by omega, hc⟩, if_pos ⟨by omega, hc⟩, ih (n - 1) _ _ (h.drop (by omega)) (by omega)]
    · rw [if_neg (fun h => hc h.2), if_neg (fun h => hc h.2)]
theorem numN_agr {s t : ByteArray} {n a b : Nat} (h : Agr s a t b n) : ∀ k, k ≤ n → numN t b k = numN s a k := by
  intro k
  induction k with
  | zero => intro _; rfl
  | succ k ih =>
    intro hk
    have h1 := h.1
    have h2 := h.2.1
    have e := h.2.2 k (by omega)
    rw [at8_eq (show a + k < s.size by omega), at8_eq (show b + k < t.size by omega)] at e
    rw [numN_step s a k (by omega), numN_step t b k (by omega), ih (by omega), e]
theorem rnumS_agr {s t : ByteArray} {n a b : Nat} {mark : UInt8} (h : Agr s a t b n) (h0 : (rnumS s a mark).2 ≠ 0) (hf : (rnumS s a mark).2 ≤ a + n) : rnumS t b mark = ((rnumS s a mark).1, (rnumS s a mark).2 - a + b) := by
  have h1 := h.1
  have h2 := h.2.1
  unfold rnumS at h0 hf ⊢
  by_cases hc : digN 19 s a ≠ 0 ∧ a + digN 19 s a < s.size ∧ at8 s (a + digN 19 s a) = mark.toNat ∧ ¬ (at8 s a = 48 ∧ 1 < digN 19 s a)
  · rw [if_pos hc] at h0 hf ⊢
    simp only at hf
    have e := digN_agr 19 n a b h (by omega)
    have e1 := h.2.2 (digN 19 s a) (by omega)
    have e2 := h.2.2 0 (by omega)
    rw [Nat.add_zero, Nat.add_zero] at e2
    rw [e, ← e1, ← e2, if_pos ⟨hc.1, by omega, hc.2.2⟩, numN_agr h _ (by omega)]
    congr 1
    simp only
    omega
  · rw [if_neg hc] at h0
    exact absurd rfl h0
def Hd.at (h : Hd) (a b : Nat) : Hd := ⟨h.kind, h.n, h.text, h.fin - a + b⟩
theorem rintS_agr {s t : ByteArray} {n a b : Nat} (h : Agr s a t b n) (h0 : (rintS s a).kind ≠ 0) (hf : (rintS s a).fin ≤ a + n) (ha : a < (rintS s a).fin) : rintS t b = (rintS s a).at a b := by
  have h1 := h.1
  have h2 := h.2.1
  have e0 := h.2.2 0 (by omega)
  rw [Nat.add_zero, Nat.add_zero] at e0
  unfold rintS at h0 hf ha ⊢
  by_cases hc : a < s.size ∧ at8 s a = 45
  · rw [if_pos hc] at h0 hf ha ⊢
    rw [if_pos ⟨by omega, by omega⟩]
    by_cases hd : (rnumS s (a + 1) 59).2 = 0 ∨ 9223372036854775808 < (rnumS s (a + 1) 59).1 ∨ (rnumS s (a + 1) 59).1 = 0
    · rw [if_pos hd] at h0; exact absurd rfl h0
    · rw [if_neg hd] at h0 hf ha ⊢
      have bd := rnumS_bd s (a + 1) 59 (by omega)
      have e := rnumS_agr (mark := 59) (h.drop (show 1 ≤ n by omega)) (by omega) (by simp only at hf; omega)
      have hz : (rnumS s (a + 1) 59).2 - (a + 1) + (b + 1) = (rnumS s (a + 1) 59).2 - a + b := by
        have := bd.2.2.2 (by omega)
        omega
      rw [e, hz]
      simp only
      rw [if_neg (by omega)]
      rfl
  · rw [if_neg hc] at h0 hf ha ⊢
    rw [if_neg (fun h => hc ⟨by omega, by omega⟩)]
    by_cases hd : (rnumS s a 59).2 = 0 ∨ 9223372036854775807 < (rnumS s a 59).1
    · rw [if_pos hd] at h0; exact absurd rfl h0
    · rw [if_neg hd] at h0 hf ha ⊢
      have e := rnumS_agr (mark := 59) h (by omega) (by simp only at hf; omega)
      have bd := rnumS_bd s a 59 (by omega)
      have := bd.2.2.2 (by omega)
      rw [e]
      simp only
      rw [if_neg (by omega)]
      rfl
theorem rtextS_agr {s t : ByteArray} {n a b : Nat} (h : Agr s a t b n) (h0 : (rtextS s a).kind ≠ 0) (hf : (rtextS s a).fin ≤ a + n) : rtextS t b = (rtextS s a).at a b := by
  have h1 := h.1
  have h2 := h.2.1
  unfold rtextS at h0 hf ⊢
  by_cases hd : (rnumS s a 58).2 = 0 ∨ (s.size : Int) - (rnumS s a 58).2 < (rnumS s a 58).1
  · rw [if_pos hd] at h0; exact absurd rfl h0
  · rw [if_neg hd] at h0 hf ⊢
    have bd := rnumS_bd s a 58 (by omega)
    have := bd.2.2.2 (by omega)
    simp only at hf
    have e := rnumS_agr (mark := 58) h (by omega) (by omega)
    rw [e]
    simp only
    rw [if_neg (by omega)]
    have hx := extract_agr ((h.drop (j := (rnumS s a 58).2 - a) (by omega)).le (m := (rnumS s a 58).1.toNat) (by omega))
    rw [show a + ((rnumS s a 58).2 - a) = (rnumS s a 58).2 by omega, show b + ((rnumS s a 58).2 - a) = (rnumS s a 58).2 - a + b by omega] at hx
    rw [← hx]
    unfold Hd.at
    simp only
    congr 1
    omega
theorem headS_agr {s t : ByteArray} {n a b : Nat} (h : Agr s a t b n) (h0 : (headS s a).kind ≠ 0) (hf : (headS s a).fin ≤ a + n) : headS t b = (headS s a).at a b := by
  have hk := kind_fin h0
  have h1 := h.1
  have h2 := h.2.1
  have e0 := h.2.2 0 (by omega)
  rw [Nat.add_zero, Nat.add_zero] at e0
  unfold headS at h0 hf hk ⊢
  rw [if_neg (show ¬ s.size ≤ a by omega)] at h0 hf hk ⊢
  rw [if_neg (show ¬ t.size ≤ b by omega), ← e0]
  split
  · rename_i hc
    rw [if_pos hc] at h0 hf hk
    have : a + 1 < (rintS s (a + 1)).fin := by
      have b1 := rnumS_bd s (a + 1) 59 (by omega)
      unfold rintS at h0 ⊢
      split
      · rename_i h5
        rw [if_pos h5] at h0
        split
        · rename_i h6; rw [if_pos h6] at h0; exact absurd rfl h0
        · rename_i h6
          have b2 := rnumS_bd s (a + 1 + 1) 59 (by omega)
          have := b2.2.2.2 (by omega)
          simp only
          omega
      · rename_i h5
        rw [if_neg h5] at h0
        split
        · rename_i h6; rw [if_pos h6] at h0; exact absurd rfl h0
        · rename_i h6
          have := b1.2.2.2 (by omega)
          simp only
          omega
    rw [rintS_agr (h.drop (j := 1) (by omega)) h0 (by omega) this]
    unfold Hd.at
    congr 1
    omega
  · rename_i hc
    rw [if_neg hc] at h0 hf hk
    split
    · rename_i hc2
      unfold Hd.at
      congr 1
      simp only
      omega
    · rename_i hc2
      rw [if_neg hc2] at h0 hf hk
      split
      · rename_i hc3
        unfold Hd.at
        congr 1
        simp only
        omega
      · rename_i hc3
        rw [if_neg hc3] at h0 hf hk
        exact rtextS_agr h h0 hf
/-- a value is the same wherever its bytes stand -/
theorem measG_agr {s t : ByteArray} : ∀ (n a b : Nat) (o d : Int), Agr s a t b n → 0 ≤ o → o ≤ 32 → 0 ≤ d → d ≤ 32 → 0 ≤ (measG s a o d).2 → (measG s a o d).1 ≤ ((a + n : Nat) : Int) → measG t b o d = ((measG s a o d).1 - a + b, (measG s a o d).2) := by
  intro n
  induction n using Nat.strongRecOn with
  | _ n ih =>
    intro a b o d h h1 h2 h3 h4 h5 h6
    rcases kind_cases s a with hk | hk | hk | hk
    · rw [measG_no hk] at h5; simp at h5
    all_goals
      have hf := kind_fin (show (headS s a).kind ≠ 0 by omega)
    · rw [measG_open hk h1] at h5 h6 ⊢
      by_cases h7 : 32 < o + 1
      · rw [if_pos h7] at h5; simp at h5
      · rw [if_neg h7] at h5 h6 ⊢
        have hm := measG_ok s _ (headS s a).fin (o + 1) (max d (o + 1)) (Nat.le_refl _) (by omega) (by omega) (by omega) (by omega)
        have hm : ((headS s a).fin : Int) < (measG s (headS s a).fin (o + 1) (max d (o + 1))).1 := by
          rcases hm with e | e
          · rw [e] at h5; simp at h5
          · exact e.1
        have he := headS_agr h (by omega) (by omega)
        have hkt : (headS t b).kind = 3 := by rw [he]; exact hk
        rw [measG_open hkt h1, if_neg h7, he]
        have ha := h.drop (j := (headS s a).fin - a) (by omega)
        rw [show a + ((headS s a).fin - a) = (headS s a).fin by omega, show b + ((headS s a).fin - a) = (headS s a).fin - a + b by omega] at ha
        have := ih (n - ((headS s a).fin - a)) (by omega) _ _ _ _ ha (by omega) (by omega) (by omega) (by omega) h5 (by omega)
        unfold Hd.at
        simp only
        rw [this]
        congr 1
        omega
    · rw [measG_close hk (by omega)] at h5 h6 ⊢
      by_cases h7 : o < 1
      · rw [if_pos h7] at h5; simp at h5
      · rw [if_neg h7] at h5 h6 ⊢
        by_cases h8 : o = 1
        · rw [if_pos h8] at h5 h6 ⊢
          have he := headS_agr h (by omega) (by simp only at h6; omega)
          have hkt : (headS t b).kind = 4 := by rw [he]; exact hk
          rw [measG_close hkt (by omega), if_neg h7, if_pos h8, he]
          unfold Hd.at
          simp only
          congr 1
          omega
        · rw [if_neg h8] at h5 h6 ⊢
          have hm := measG_ok s _ (headS s a).fin (o - 1) d (Nat.le_refl _) (by omega) (by omega) (by omega) (by omega)
          have hm : ((headS s a).fin : Int) < (measG s (headS s a).fin (o - 1) d).1 := by
            rcases hm with e | e
            · rw [e] at h5; simp at h5
            · exact e.1
          have he := headS_agr h (by omega) (by omega)
          have hkt : (headS t b).kind = 4 := by rw [he]; exact hk
          rw [measG_close hkt (by omega), if_neg h7, if_neg h8, he]
          have ha := h.drop (j := (headS s a).fin - a) (by omega)
          rw [show a + ((headS s a).fin - a) = (headS s a).fin by omega, show b + ((headS s a).fin - a) = (headS s a).fin - a + b by omega] at ha
          have := ih (n - ((headS s a).fin - a)) (by omega) _ _ _ _ ha (by omega) (by omega) (by omega) (by omega) h5 (by omega)
          unfold Hd.at
          simp only
          rw [this]
          congr 1
          omega
    · rw [measG_atom hk h1 h2] at h5 h6 ⊢
      by_cases h8 : o = 0
      · rw [if_pos h8] at h5 h6 ⊢
        have he := headS_agr h (by omega) (by simp only at h6; omega)
        have hkt : (headS t b).kind = 1 ∨ (headS t b).kind = 2 := by rw [he]; exact hk
        rw [measG_atom hkt h1 h2, if_pos h8, he]
        unfold Hd.at
        simp only
        congr 1
        omega
      · rw [if_neg h8] at h5 h6 ⊢
        have hm := measG_ok s _ (headS s a).fin o d (Nat.le_refl _) (by omega) (by omega) (by omega) (by omega)
        have hm : ((headS s a).fin : Int) < (measG s (headS s a).fin o d).1 := by
          rcases hm with e | e
          · rw [e] at h5; simp at h5
          · exact e.1
        have he := headS_agr h (by omega) (by omega)
        have hkt : (headS t b).kind = 1 ∨ (headS t b).kind = 2 := by rw [he]; exact hk
        rw [measG_atom hkt h1 h2, if_neg h8, he]
        have ha := h.drop (j := (headS s a).fin - a) (by omega)
        rw [show a + ((headS s a).fin - a) = (headS s a).fin by omega, show b + ((headS s a).fin - a) = (headS s a).fin - a + b by omega] at ha
        have := ih (n - ((headS s a).fin - a)) (by omega) _ _ _ _ ha (by omega) (by omega) (by omega) (by omega) h5 (by omega)
        unfold Hd.at
        simp only
        rw [this]
        congr 1
        omega
theorem measS_agr {s t : ByteArray} {n a b : Nat} (h : Agr s a t b n) (h5 : 0 ≤ (measS s a).2) (h6 : (measS s a).1 ≤ ((a + n : Nat) : Int)) : measS t b = ((measS s a).1 - a + b, (measS s a).2) :=
  measG_agr n a b 0 0 h (by omega) (by omega) (by omega) (by omega) h5 h6
end Go.Proofs.YtljeialaefmbmaaDoor
