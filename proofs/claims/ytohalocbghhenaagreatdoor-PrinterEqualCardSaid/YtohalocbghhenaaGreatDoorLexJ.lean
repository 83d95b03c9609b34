/- Tokens that are joined are read again; what a list of tokens is like; a comment ahead of a source. -/
import Derived.Test.YtohalocbghhenaaGreatDoorLexQ
import Derived.Lib.Join
set_option linter.unusedSimpArgs false
set_option linter.unusedVariables false
namespace Go.Proofs.YtohalocbghhenaaGreatDoor
open Go.RowKit

def jnT : List Tk → List UInt8
  | [] => []
  | [t] => spellT t
  | t :: u :: r => spellT t ++ 32 :: jnT (u :: r)
theorem jnT_cons (t : Tk) (r : List Tk) : jnT (t :: r) = spellT t ++ (if r = [] then [] else 32 :: jnT r) := by
  cases r with
  | nil => simp [jnT]
  | cons u r => simp [jnT]
theorem jnT_tail : ∀ (r : List Tk), Lib.joinTail [32] (r.map spellT) = if r = [] then [] else 32 :: jnT r
  | [] => rfl
  | t :: r => by
    have ih := jnT_tail r
    rw [if_neg (by simp), jnT_cons, ← ih]
    simp [Lib.joinTail]
theorem jnT_join (ts : List Tk) : Lib.join (ts.map spellT) [32] = jnT ts := by
  cases ts with
  | nil => rfl
  | cons t r => rw [List.map_cons, Lib.join_cons, jnT_tail, jnT_cons]
def okJ : List Tk → Bool
  | [] => true
  | t :: r => (validT t && (t.k != 5 || r.isEmpty)) && okJ r
def real (ts : List Tk) : List Tk := ts.filter fun t => t.k != 5
def joinS (ts : List Tk) : List UInt8 × Int := if okJ ts then (if 65536 < (jnT (real ts)).length then ([], 6) else (jnT (real ts), 0)) else ([], 1)
def zeroA (t : Tk) : Tk := { t with a := 0 }
def endT : Tk := ⟨5, bs [], 0, 0⟩

theorem firstL_skip (l : List UInt8) (p m : Nat) (h : skN false l = m + skN false (l.drop m)) : firstL l p = firstL (l.drop m) (p + m) := by
  unfold firstL
  rw [List.drop_drop, h]
  simp only [Nat.add_assoc]
theorem lexR_skip (f : Nat) (l : List UInt8) (p m : Nat) (h : skN false l = m + skN false (l.drop m)) : lexR f l p = lexR f (l.drop m) (p + m) := by
  cases f with
  | zero => rfl
  | succ f =>
    unfold lexR
    rw [firstL_skip l p m h]
    by_cases h1 : (firstL (l.drop m) (p + m)).2.2.1 = 0
    · obtain ⟨e1, _⟩ := firstL_len _ _ h1
      rw [List.drop_drop, show m + ((firstL (l.drop m) (p + m)).2.1 - (p + m)) = (firstL (l.drop m) (p + m)).2.1 - p by omega]
    · rw [if_neg h1, if_neg h1]
theorem skN_none {c : UInt8} {l : List UInt8} (h1 : kB c ≠ 1) (h2 : kB c ≠ 2) : skN false (c :: l) = 0 := by
  unfold skN
  rw [if_neg h2, if_neg h1]
theorem first_spell (t : Tk) (hv : validT t = true) (h5 : t.k ≠ 5) (r : List UInt8) (hr : Stops r) (p : Nat) : firstL (spellT t ++ r) p = ({ t with a := (p : Int) }, p + (spellT t).length, 0, 0) := by
  obtain ⟨e, c, l, hc, k1, k2⟩ := readL_spell t hv h5 r hr
  have hs : skN false (spellT t ++ r) = 0 := by rw [hc]; exact skN_none k1 k2
  unfold firstL
  rw [hs, List.drop_zero, e]
  rfl
theorem stops_blank (l : List UInt8) : Stops (32 :: l) := by
  intro c hc
  have : c = 32 := by simpa using hc.symm
  rw [this]; decide
theorem stops_nil : Stops [] := by
  intro c hc
  simp at hc
theorem skN_blank (l : List UInt8) : skN false (32 :: l) = skN false l + 1 := by
  rw [skN, if_neg (by decide), if_pos (by decide)]
/-- JOINED TOKENS ARE READ AGAIN -/
theorem lexR_join : ∀ (ts : List Tk) (f p : Nat), (∀ t ∈ ts, validT t = true ∧ t.k ≠ 5) → (jnT ts).length < f → (lexR f (jnT ts) p).2 = (0, 0) ∧ (lexR f (jnT ts) p).1.map zeroA = ts.map zeroA ++ [endT]
  | _, 0, _, _, h => by omega
  | [], f + 1, p, _, _ => by
    have e : firstL [] p = (⟨5, bs [], 0, (p : Int)⟩, p, 0, 0) := rfl
    show (lexR (f + 1) [] p).2 = (0, 0) ∧ (lexR (f + 1) [] p).1.map zeroA = _
    unfold lexR
    rw [e]
    exact ⟨rfl, rfl⟩
  | t :: r, f + 1, p, hv, h => by
    obtain ⟨h1, h2⟩ := hv t (by simp)
    rw [jnT_cons] at h ⊢
    have hst : Stops (if r = [] then [] else 32 :: jnT r) := by
      split
      · exact stops_nil
      · exact stops_blank _
    have hf := first_spell t h1 h2 _ hst p
    obtain ⟨_, c, l, hc, _⟩ := readL_spell t h1 h2 _ hst
    have hl1 : 1 ≤ (spellT t).length := by rw [hc]; simp
    rw [List.length_append] at h
    unfold lexR
    rw [hf]
    simp only [if_true]
    rw [if_neg h2, Nat.add_sub_cancel_left, List.drop_left]
    have hr : (lexR f (if r = [] then [] else 32 :: jnT r) (p + (spellT t).length)).2 = (0, 0) ∧ (lexR f (if r = [] then [] else 32 :: jnT r) (p + (spellT t).length)).1.map zeroA = r.map zeroA ++ [endT] := by
      by_cases hn : r = []
      · subst hn
        rw [if_pos rfl] at h ⊢
        exact lexR_join [] f _ (by simp) (by simp [jnT]; omega)
      · rw [if_neg hn] at h ⊢
        rw [List.length_cons] at h
        have hs := lexR_skip f (32 :: jnT r) (p + (spellT t).length) 1 (by rw [skN_blank, List.drop_succ_cons, List.drop_zero]; omega)
        rw [List.drop_succ_cons, List.drop_zero] at hs
        rw [hs]
        exact lexR_join r f _ (fun u hu => hv u (by simp [hu])) (by omega)
    refine ⟨hr.1, ?_⟩
    simp only [List.map_cons, hr.2, List.cons_append]
    rfl
theorem dd_len : ∀ (k u : Nat), u < 10 ^ (k + 1) → (Lib.decDigits u).length ≤ k + 1
  | 0, u, h => by rw [dd_small (by simpa using h)]; simp
  | k + 1, u, h => by
    by_cases hu : u < 10
    · rw [dd_small hu]; simp
    · rw [dd_big hu, List.length_append, List.length_singleton]
      have := dd_len k (u / 10) (by rw [Nat.pow_succ] at h; omega)
      omega
theorem decN_len (n : Nat) (h : n ≤ 1000000000) : (decN n).length ≤ 11 := by
  have h1 := dd_len 6 (n / 1000) (by omega)
  have h2 := (fraN_facts (n % 1000) (Nat.mod_lt _ (by decide))).2.1
  unfold decN
  rw [List.length_append]
  split
  · simp; omega
  · simp; omega
theorem spell_len (t : Tk) (hv : validT t = true) : (spellT t).length ≤ 42 := by
  obtain ⟨k, s, n, a⟩ := t
  unfold validT at hv
  simp only at hv
  unfold spellT
  simp only
  by_cases h2 : k = 2
  · rw [if_pos h2] at hv ⊢
    simp only [Bool.and_eq_true, decide_eq_true_eq] at hv
    have := decN_len n.toNat (by omega)
    omega
  · rw [if_neg h2, Bool.and_eq_true] at hv
    obtain ⟨_, hv⟩ := hv
    unfold vText at hv
    rw [if_neg h2]
    by_cases h1 : k = 1
    · rw [if_pos h1, Bool.and_eq_true, decide_eq_true_eq] at hv
      rw [if_neg (by omega)]
      omega
    · rw [if_neg h1] at hv
      by_cases h3 : k = 3
      · rw [if_pos h3] at hv ⊢
        have := (titE_zero (by simpa using hv)).2.2.2.2
        simp at this ⊢
        omega
      · rw [if_neg h3] at hv ⊢
        by_cases h4 : k = 4
        · rw [if_pos h4] at hv
          unfold sigB at hv
          simp only [Bool.and_eq_true, beq_iff_eq] at hv
          omega
        · rw [if_neg h4] at hv
          split at hv
          · have : s.data.toList = [] := by simpa using hv
            rw [this]; simp
          · exact absurd hv (by decide)
/-- a token takes in a source at least an eleventh of what its spelling takes -/
theorem readL_spell_len (l : List UInt8) (h : (readL l).2.2 = 0) (h5 : (readL l).1.k ≠ 5) : (spellT (readL l).1).length ≤ 11 * (readL l).2.1 := by
  have hv := readL_valid l h
  obtain ⟨_, hl, _⟩ := readL_len l h
  have hl := hl h5
  by_cases h2 : (readL l).1.k = 2
  · have e : spellT (readL l).1 = decN (readL l).1.n.toNat := by unfold spellT; rw [if_pos h2]
    rw [e]
    unfold validT at hv
    rw [if_pos h2] at hv
    simp only [Bool.and_eq_true, decide_eq_true_eq] at hv
    have := decN_len (readL l).1.n.toNat (by omega)
    omega
  · cases l with
    | nil => exact absurd rfl h5
    | cons c t =>
      rw [readL_cons] at h h2 ⊢
      split at h
      · rename_i h1
        rw [if_pos h1] at h2 ⊢
        unfold runR at h h2 ⊢
        split at h
        · rename_i h3
          rw [if_pos h3] at h2 ⊢
          split at h
          · exact absurd h (by simp [tokE])
          · rename_i h4
            rw [if_neg h4]
            simp [spellT, bs_data]
            omega
        · rename_i h3
          rw [if_neg h3] at h2
          split at h
          · rename_i h4
            rw [if_pos h4] at h2
            exact absurd rfl h2
          · rename_i h4
            exact absurd h h4
      · rename_i h1
        rw [if_neg h1] at h2 ⊢
        split at h
        · rename_i h3
          rw [if_pos h3]
          unfold strR at h ⊢
          split at h
          · exact absurd h (by simp [tokE])
          · rename_i h4
            rw [if_neg h4]
            split at h
            · rename_i h6
              rw [if_pos h6]
              simp [spellT, bs_data]
              omega
            · rename_i h6
              exact absurd h h6
        · rename_i h3
          rw [if_neg h3]
          split at h
          · rename_i h4
            rw [if_pos h4]
            simp [spellT, bs_data]
          · exact absurd h (by simp [tokE])
/-- offsets grow -/
def Inc : Int → List Tk → Prop
  | _, [] => True
  | p, t :: r => p ≤ t.a ∧ Inc (t.a + 1) r
theorem Inc.low {p q : Int} (h : q ≤ p) : ∀ {l : List Tk}, Inc p l → Inc q l
  | [], _ => trivial
  | _ :: _, hi => ⟨Int.le_trans h hi.1, hi.2⟩
theorem jnT_len : ∀ (ts : List Tk), (jnT ts).length ≤ (ts.map fun t => (spellT t).length + 1).sum
  | [] => by simp [jnT]
  | t :: r => by
    have := jnT_len r
    rw [jnT_cons, List.length_append]
    simp only [List.map_cons, List.sum_cons]
    split
    · simp; omega
    · simp only [List.length_cons]; omega
/-- WHAT A LIST OF TOKENS IS LIKE -/
theorem lexR_like : ∀ (f : Nat) (l : List UInt8) (p : Nat), l.length < f → (lexR f l p).2.1 = 0 → ∃ ts e, (lexR f l p).1 = ts ++ [e] ∧ (∀ t ∈ ts, validT t = true ∧ t.k ≠ 5) ∧ e = ⟨5, bs [], 0, ((p + l.length : Nat) : Int)⟩ ∧ Inc (p : Int) (lexR f l p).1 ∧ (lexR f l p).2 = (0, 0) ∧ ((ts.map fun t => (spellT t).length + 1).sum ≤ 12 * l.length) ∧ ts.length ≤ l.length ∧ (∀ t ∈ ts, t.a ≤ ((p + l.length : Nat) : Int))
  | 0, _, _, h, _ => by omega
  | f + 1, l, p, h, hc => by
    have hsk := skN_le false l
    unfold lexR at hc ⊢
    by_cases h1 : (firstL l p).2.2.1 = 0
    · rw [if_pos h1] at hc ⊢
      obtain ⟨e1, e2, e3, e4, e5⟩ := firstL_len l p h1
      have hr : (readL (l.drop (skN false l))).2.2 = 0 := by
        unfold firstL at h1
        split at h1
        · assumption
        · exact h1
      have hfi : firstL l p = ({ (readL (l.drop (skN false l))).1 with a := ((p + skN false l : Nat) : Int) }, p + skN false l + (readL (l.drop (skN false l))).2.1, 0, 0) := by
        unfold firstL
        rw [if_pos hr]
      have hk : (firstL l p).1.k = (readL (l.drop (skN false l))).1.k := by rw [hfi]
      have ha : (firstL l p).1.a = ((p + skN false l : Nat) : Int) := by rw [hfi]
      by_cases h2 : (firstL l p).1.k = 5
      · rw [if_pos h2]
        refine ⟨[], _, rfl, by simp, ?_, ⟨by rw [ha]; omega, trivial⟩, rfl, by simp, by simp, by simp⟩
        obtain ⟨e6, e7⟩ := e4 h2
        rw [hk] at h2
        have hn := (readL_len _ hr).2.2 h2
        rw [hfi] at e7 ⊢
        simp only at e7
        rw [e7, hn]
        rfl
      · rw [if_neg h2] at hc ⊢
        have h3 := e3 h2
        have hd : (l.drop ((firstL l p).2.1 - p)).length = l.length - ((firstL l p).2.1 - p) := List.length_drop
        obtain ⟨ts, e, q1, q2, q3, q4, q5, q6, q7, q8⟩ := lexR_like f (l.drop ((firstL l p).2.1 - p)) (firstL l p).2.1 (by omega) hc
        have hlen : (firstL l p).2.1 = p + skN false l + (readL (l.drop (skN false l))).2.1 := by rw [hfi]
        rw [hk] at h2
        have hv := readL_valid _ hr
        have hsl := readL_spell_len _ hr h2
        have hr1 := (readL_len _ hr).2.1 h2
        have hsp : spellT (firstL l p).1 = spellT (readL (l.drop (skN false l))).1 := by rw [hfi]; rfl
        have hvd : validT (firstL l p).1 = validT (readL (l.drop (skN false l))).1 := by rw [hfi]; rfl
        refine ⟨(firstL l p).1 :: ts, e, by rw [q1]; rfl, ?_, ?_, ⟨by rw [ha]; omega, ?_⟩, q5, ?_, ?_, ?_⟩
        · intro t ht
          rcases List.mem_cons.1 ht with rfl | ht
          · exact ⟨by rw [hvd]; exact hv, by rw [hk]; exact h2⟩
          · exact q2 t ht
        · rw [q3, hd]
          congr 2
          omega
        · exact q4.low (by rw [ha]; omega)
        · simp only [List.map_cons, List.sum_cons]
          rw [hsp]
          rw [hd] at q6
          omega
        · rw [hd] at q7
          simp only [List.length_cons]; omega
        · intro t ht
          rcases List.mem_cons.1 ht with rfl | ht
          · rw [ha]; omega
          · have := q8 t ht
            rw [hd] at this
            omega
    · rw [if_neg h1] at hc
      exact absurd hc h1
theorem lexR_fault : ∀ (f : Nat) (l : List UInt8) (p : Nat), l.length < f → (lexR f l p).2.1 ≠ 0 → ∃ k : Nat, k ≤ l.length ∧ (lexR f l p).2.2 = ((p + k : Nat) : Int)
  | 0, _, _, h, _ => by omega
  | f + 1, l, p, h, hc => by
    unfold lexR at hc ⊢
    by_cases h1 : (firstL l p).2.2.1 = 0
    · rw [if_pos h1] at hc ⊢
      obtain ⟨e1, e2, e3, e4, e5⟩ := firstL_len l p h1
      by_cases h2 : (firstL l p).1.k = 5
      · rw [if_pos h2] at hc
        exact absurd rfl hc
      · rw [if_neg h2] at hc ⊢
        have h3 := e3 h2
        have hd : (l.drop ((firstL l p).2.1 - p)).length = l.length - ((firstL l p).2.1 - p) := List.length_drop
        obtain ⟨k, hk, he⟩ := lexR_fault f (l.drop ((firstL l p).2.1 - p)) (firstL l p).2.1 (by omega) hc
        exact ⟨(firstL l p).2.1 - p + k, by omega, by rw [he]; congr 1; omega⟩
    · rw [if_neg h1] at hc ⊢
      obtain ⟨_, _, k, hk, he⟩ := firstL_no l p h1
      exact ⟨k, hk, he⟩
theorem okJ_of : ∀ (ts : List Tk) (e : Tk), (∀ t ∈ ts, validT t = true ∧ t.k ≠ 5) → e.k = 5 → validT e = true → okJ (ts ++ [e]) = true ∧ real (ts ++ [e]) = ts
  | [], e, _, h5, hv => by
    simp [okJ, real, hv, h5]
  | t :: r, e, h, h5, hv => by
    obtain ⟨i1, i2⟩ := okJ_of r e (fun u hu => h u (by simp [hu])) h5 hv
    obtain ⟨h1, h2⟩ := h t (by simp)
    refine ⟨?_, ?_⟩
    · simp only [List.cons_append, okJ]
      rw [h1, i1]
      simp [h2]
    · unfold real at i2 ⊢
      rw [List.cons_append, List.filter_cons_of_pos (by simpa using h2), i2]
/-- THE TOKENS OF A SOURCE, JOINED, ARE THE SAME TOKENS AGAIN -/
theorem lexS_again (s : ByteArray) (hs : s.size ≤ 2000) (h : (lexS s).2.1 = 0) : (joinS (lexS s).1).2 = 0 ∧ (lexS (bs (joinS (lexS s).1).1)).2 = (0, 0) ∧ (lexS (bs (joinS (lexS s).1).1)).1.map zeroA = (lexS s).1.map zeroA ∧ (joinS (lexS s).1).1.length ≤ 24000 := by
  have hsz := list_size s
  unfold lexS at h
  rw [if_neg (by omega)] at h
  have hR : (lexR (s.size + 1) s.data.toList 0).2.1 = 0 := by
    split at h
    · assumption
    · rename_i h1
      exact absurd h h1
  have e1 : lexS s = lexR (s.size + 1) s.data.toList 0 := by
    unfold lexS
    rw [if_neg (by omega), if_pos hR]
  obtain ⟨ts, e, q1, q2, q3, q4, q5, q6, q7, q8⟩ := lexR_like (s.size + 1) s.data.toList 0 (by omega) hR
  rw [e1, q1]
  obtain ⟨o1, o2⟩ := okJ_of ts e q2 (by rw [q3]) (by rw [q3]; simp [validT, vText, bs_data])
  have hl := jnT_len ts
  have hl2 : (jnT ts).length ≤ 24000 := by omega
  have hj : joinS (ts ++ [e]) = (jnT ts, 0) := by
    unfold joinS
    rw [o1, o2, if_pos rfl, if_neg (by omega)]
  rw [hj]
  obtain ⟨r1, r2⟩ := lexR_join ts ((jnT ts).length + 1) 0 q2 (by omega)
  have e2 : lexS (bs (jnT ts)) = lexR ((jnT ts).length + 1) (jnT ts) 0 := by
    unfold lexS
    rw [bs_size, bs_data, if_neg (by omega), if_pos (by rw [r1])]
  show (0 : Int) = 0 ∧ (lexS (bs (jnT ts))).2 = (0, 0) ∧ (lexS (bs (jnT ts))).1.map zeroA = (ts ++ [e]).map zeroA ∧ (jnT ts).length ≤ 24000
  rw [e2]
  refine ⟨rfl, r1, ?_, hl2⟩
  rw [r2, List.map_append, q3]
  rfl
/-- THE SPELLING OF A POSSIBLE TOKEN HAS THIS TOKEN AND THE END -/
theorem lexS_spell (t : Tk) (hv : validT t = true) (h5 : t.k ≠ 5) : lexS (bs (spellT t)) = ([zeroA t, ⟨5, bs [], 0, ((spellT t).length : Nat)⟩], 0, 0) := by
  have hl := spell_len t hv
  have hf := first_spell t hv h5 [] stops_nil 0
  rw [List.append_nil] at hf
  obtain ⟨_, c, l, hc, _⟩ := readL_spell t hv h5 [] stops_nil
  have hl1 : 1 ≤ (spellT t).length := by rw [hc]; simp
  have hR : lexR ((spellT t).length + 1) (spellT t) 0 = ([zeroA t, ⟨5, bs [], 0, ((spellT t).length : Nat)⟩], 0, 0) := by
    obtain ⟨n, hn⟩ : ∃ n, (spellT t).length = n + 1 := ⟨(spellT t).length - 1, by omega⟩
    rw [hn]
    unfold lexR
    rw [hf]
    simp only [if_true]
    rw [if_neg h5, Nat.zero_add, Nat.sub_zero, List.drop_length]
    unfold lexR
    have e : firstL [] (spellT t).length = (⟨5, bs [], 0, ((spellT t).length : Int)⟩, (spellT t).length, 0, 0) := rfl
    rw [e, hn]
    rfl
  unfold lexS
  rw [bs_size, bs_data, if_neg (by omega), hR]
  rfl
theorem firstL_shift (l : List UInt8) (p d : Nat) : ((firstL l p).2.2.1 = 0 → firstL l (p + d) = ({ (firstL l p).1 with a := (firstL l p).1.a + d }, (firstL l p).2.1 + d, 0, 0)) ∧ ((firstL l p).2.2.1 ≠ 0 → firstL l (p + d) = (noTk, 0, (firstL l p).2.2.1, (firstL l p).2.2.2 + d)) := by
  unfold firstL
  by_cases h : (readL (l.drop (skN false l))).2.2 = 0
  · rw [if_pos h, if_pos h]
    refine ⟨fun _ => ?_, fun h => absurd rfl h⟩
    simp only
    congr 1
    · congr 1; omega
    · congr 1; omega
  · rw [if_neg h, if_neg h]
    refine ⟨fun h2 => absurd h2 h, fun _ => ?_⟩
    simp only
    congr 3
    omega
theorem lexR_shift : ∀ (f : Nat) (l : List UInt8) (p d : Nat), (lexR f l (p + d)).1.map zeroA = (lexR f l p).1.map zeroA ∧ (lexR f l (p + d)).2.1 = (lexR f l p).2.1 ∧ ((lexR f l p).2.1 ≠ 0 → (lexR f l (p + d)).2.2 = (lexR f l p).2.2 + d)
  | 0, _, _, _ => ⟨rfl, rfl, fun h => absurd rfl h⟩
  | f + 1, l, p, d => by
    obtain ⟨s1, s2⟩ := firstL_shift l p d
    unfold lexR
    by_cases h1 : (firstL l p).2.2.1 = 0
    · rw [s1 h1, if_pos h1]
      simp only [if_true]
      by_cases h2 : (firstL l p).1.k = 5
      · rw [if_pos h2, if_pos h2]
        exact ⟨rfl, rfl, fun h => absurd rfl h⟩
      · rw [if_neg h2, if_neg h2, show (firstL l p).2.1 + d - (p + d) = (firstL l p).2.1 - p by omega]
        obtain ⟨i1, i2, i3⟩ := lexR_shift f (l.drop ((firstL l p).2.1 - p)) (firstL l p).2.1 d
        refine ⟨?_, i2, i3⟩
        simp only [List.map_cons, i1]
        rfl
    · rw [s2 h1, if_neg h1]
      simp only
      rw [if_neg h1]
      exact ⟨rfl, rfl, fun _ => rfl⟩
theorem skN_comment : ∀ (c r : List UInt8), (∀ x ∈ c, x ≠ 10) → skN true (c ++ 10 :: r) = c.length + 1 + skN false r
  | [], r, _ => by
    show skN true (10 :: r) = _
    rw [skN]
    simp
    omega
  | x :: c, r, h => by
    have hx := h x (by simp)
    have := skN_comment c r (fun y hy => h y (by simp [hy]))
    rw [List.cons_append, skN, show (x != 10) = true by simpa using hx, this]
    simp
    omega
theorem skN_bl {c : UInt8} (h : kB c = 1) (l : List UInt8) : skN false (c :: l) = skN false l + 1 := by
  rw [skN, if_neg (by omega), if_pos h]
def headL (c : List UInt8) : List UInt8 := 35 :: (c ++ [10, 32, 9, 13, 10])
theorem skN_head (c r : List UInt8) (h : ∀ x ∈ c, x ≠ 10) : skN false (headL c ++ r) = (headL c).length + skN false ((headL c ++ r).drop (headL c).length) := by
  rw [List.drop_left]
  have e : headL c ++ r = 35 :: (c ++ 10 :: ([32, 9, 13, 10] ++ r)) := by simp [headL]
  rw [e, skN, if_pos (by decide), skN_comment c _ h]
  show c.length + 1 + skN false (32 :: 9 :: 13 :: 10 :: r) + 1 = _
  rw [skN_bl (by decide), skN_bl (by decide), skN_bl (by decide), skN_bl (by decide)]
  simp [headL]
  omega
theorem lexS_small (s : ByteArray) (h : s.size ≤ 65536) : lexS s = if (lexR (s.size + 1) s.data.toList 0).2.1 = 0 then lexR (s.size + 1) s.data.toList 0 else ([], (lexR (s.size + 1) s.data.toList 0).2) := by
  unfold lexS
  rw [if_neg (by omega)]
/-- A COMMENT AHEAD OF A SOURCE -/
theorem lexS_head (s h : ByteArray) (c : List UInt8) (hc : ∀ x ∈ c, x ≠ 10) (hh : h.data.toList = headL c) (hs : h.size + s.size ≤ 65536) :
    (lexS (h ++ s)).1.map zeroA = (lexS s).1.map zeroA ∧ (lexS (h ++ s)).2.1 = (lexS s).2.1 ∧ ((lexS s).2.1 ≠ 0 → (lexS (h ++ s)).2.2 = (lexS s).2.2 + (h.size : Int)) := by
  have hz : (h ++ s).size = h.size + s.size := by simp
  have hl : (h ++ s).data.toList = headL c ++ s.data.toList := by rw [← hh]; simp
  have hhl : (headL c).length = h.size := by rw [← hh, list_size]
  have hsz := list_size s
  have e1 : lexR ((h ++ s).size + 1) (h ++ s).data.toList 0 = lexR ((h ++ s).size + 1) s.data.toList (0 + h.size) := by
    rw [hl, lexR_skip _ _ 0 _ (skN_head c _ hc), List.drop_left, hhl]
  rw [lexR_fuel ((h ++ s).size + 1) (s.size + 1) s.data.toList _ (by omega) (by omega)] at e1
  obtain ⟨i1, i2, i3⟩ := lexR_shift (s.size + 1) s.data.toList 0 h.size
  rw [← e1] at i1 i2 i3
  rw [lexS_small (h ++ s) (by omega), lexS_small s (by omega), i2]
  by_cases h0 : (lexR (s.size + 1) s.data.toList 0).2.1 = 0
  · rw [if_pos h0, if_pos h0]
    exact ⟨i1, i2, fun h => absurd h0 h⟩
  · rw [if_neg h0, if_neg h0]
    exact ⟨rfl, i2, i3⟩
end Go.Proofs.YtohalocbghhenaaGreatDoor
