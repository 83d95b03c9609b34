/- Plain facts: how the lines of a canonical source look. -/
import Derived.Test.YtohalocbghhenaaGreatDoorLenP
import Derived.Test.YtohalocbghhenaaGreatDoorLawReads
set_option linter.unusedSimpArgs false
set_option linter.unusedVariables false
namespace Go.Proofs.YtohalocbghhenaaGreatDoor
open Go.RowKit

theorem kB_plain {c : UInt8} (h : 4 ≤ kB c) : c ≠ 32 ∧ c ≠ 34 ∧ c ≠ 10 := by
  refine ⟨?_, ?_, ?_⟩ <;> (rintro rfl; revert h; decide)
/-- a token's spelling: plain bytes, or a string -/
theorem spell_kind {t : Tk} (hv : validT t = true) (h5 : t.k ≠ 5) : (spellT t ≠ [] ∧ ∀ c ∈ spellT t, 4 ≤ kB c) ∨ (∃ s, spellT t = 34 :: (s ++ [34]) ∧ ∀ c ∈ s, c ≠ 34 ∧ c ≠ 10) := by
  unfold validT at hv
  unfold spellT
  by_cases h2 : t.k = 2
  · rw [if_pos h2]
    obtain ⟨r1, r2, _⟩ := decN_run t.n.toNat
    refine Or.inl ⟨r2, fun c hc => ?_⟩
    have := r1 c hc
    unfold runB at this
    rw [Bool.and_eq_true, decide_eq_true_eq] at this
    exact this.1
  · rw [if_neg h2] at hv ⊢
    rw [Bool.and_eq_true] at hv
    have hx := hv.2
    unfold vText at hx
    by_cases h1 : t.k = 1
    · rw [if_pos h1, Bool.and_eq_true] at hx
      have hw := hx.1
      unfold wordB at hw
      rw [Bool.and_eq_true, List.any_eq_true, List.all_eq_true] at hw
      rw [if_neg (by omega)]
      refine Or.inl ⟨fun e => ?_, fun c hc => ?_⟩
      · obtain ⟨⟨c, hc, _⟩, _⟩ := hw
        rw [e] at hc
        simp at hc
      · have := hw.2 c hc
        unfold wrdB at this
        rw [Bool.and_eq_true, decide_eq_true_eq] at this
        exact this.1
    · rw [if_neg h1] at hx
      by_cases h3 : t.k = 3
      · rw [if_pos h3] at hx ⊢
        refine Or.inr ⟨_, rfl, fun c hc => ?_⟩
        have he : titE t.t.data.toList = 0 := by simpa using hx
        unfold titE at he
        split at he
        · exact absurd he (by decide)
        · split at he
          · rename_i ha
            have := List.all_eq_true.1 ha c hc
            unfold titB at this
            simp only [Bool.and_eq_true, decide_eq_true_eq, bne_iff_ne, ne_eq] at this
            refine ⟨this.2, ?_⟩
            rintro rfl
            exact absurd this.1.1 (by decide)
          · exact absurd he (by decide)
      · rw [if_neg h3] at hx ⊢
        by_cases h4 : t.k = 4
        · rw [if_pos h4] at hx
          unfold sigB at hx
          rw [Bool.and_eq_true] at hx
          obtain ⟨hl, h8⟩ := hx
          have hl : t.t.data.toList.length = 1 := by simpa using hl
          generalize t.t.data.toList = l at *
          match l, hl, h8 with
          | [c], _, h8 =>
            have h8 : kB c = 8 := by simpa using h8
            exact Or.inl ⟨by simp, fun d hd => by simp at hd; rw [hd, h8]; decide⟩
        · rw [if_neg h4, if_neg h5] at hx
          exact absurd hx (by decide)
/-- a text as it may stand behind its indentation: single blanks alone, but in strings -/
def okT : Bool → Bool → List UInt8 → Prop
  | _, _, [] => True
  | i, f, c :: r => ((i != (c == 34)) = false → c = 32 → f = false ∧ r ≠ [] ∧ r.head? ≠ some 32) ∧ okT (i != (c == 34)) false r
theorem okT_plain : ∀ (s : List UInt8) (f : Bool) (r : List UInt8), (∀ c ∈ s, 4 ≤ kB c) → okT false (f && s.isEmpty) r → okT false f (s ++ r)
  | [], f, r, _, h => by simpa using h
  | c :: s, f, r, hs, h => by
    obtain ⟨h1, h2, _⟩ := kB_plain (hs c (by simp))
    have e : (false != (c == 34)) = false := by simp [h2]
    refine ⟨fun _ hc => absurd hc h1, ?_⟩
    rw [e]
    exact okT_plain s false r (fun d hd => hs d (by simp [hd])) (by simpa using h)
theorem okT_in : ∀ (s r : List UInt8), (∀ c ∈ s, c ≠ 34 ∧ c ≠ 10) → okT false false r → okT true false (s ++ 34 :: r)
  | [], r, _, h => by
    refine ⟨fun _ hc => absurd hc (by decide), ?_⟩
    exact h
  | c :: s, r, hs, h => by
    have h2 := (hs c (by simp)).1
    have e : (true != (c == 34)) = true := by simp [h2]
    refine ⟨fun hi => absurd (e.symm.trans hi) (by decide), ?_⟩
    rw [e]
    exact okT_in s r (fun d hd => hs d (by simp [hd])) h
theorem okT_spell {t : Tk} (hv : validT t = true) (h5 : t.k ≠ 5) (f : Bool) (r : List UInt8) (h : okT false false r) : okT false f (spellT t ++ r) := by
  rcases spell_kind hv h5 with ⟨h1, h2⟩ | ⟨s, hs, h2⟩
  · refine okT_plain _ f r h2 ?_
    have : (spellT t).isEmpty = false := by cases h' : spellT t with | nil => exact absurd h' h1 | cons _ _ => rfl
    rw [this, Bool.and_false]
    exact h
  · rw [hs]
    refine ⟨fun hi => absurd hi (by decide), ?_⟩
    have := okT_in s r h2 h
    simpa using this
theorem spell_head {t : Tk} (hv : validT t = true) (h5 : t.k ≠ 5) (r : List UInt8) : spellT t ++ r ≠ [] ∧ (spellT t ++ r).head? ≠ some 32 := by
  rcases spell_kind hv h5 with ⟨h1, h2⟩ | ⟨s, hs, _⟩
  · cases h' : spellT t with
    | nil => exact absurd h' h1
    | cons c u =>
      refine ⟨by simp, ?_⟩
      have := (kB_plain (h2 c (by rw [h']; simp))).1
      simpa using this
  · rw [hs]
    exact ⟨by simp, by simp⟩
theorem okT_blank (r : List UInt8) (h1 : r ≠ []) (h2 : r.head? ≠ some 32) (h : okT false false r) : okT false false (32 :: r) := ⟨fun _ _ => ⟨rfl, h1, h2⟩, h⟩
theorem okT_ats : ∀ (xs : List Tk) (q : Tk) (r : List UInt8), (∀ t ∈ xs, validT t = true ∧ t.k ≠ 5) → okT false false r → okT false false (atsL q xs ++ r)
  | [], _, _, _, h => h
  | t :: xs, q, r, hv, h => by
    obtain ⟨h1, h2⟩ := hv t (by simp)
    have ih := okT_ats xs t r (fun u hu => hv u (by simp [hu])) h
    have hs := okT_spell h1 h2 false _ ih
    simp only [atsL, List.append_assoc]
    split
    · exact hs
    · obtain ⟨g1, g2⟩ := spell_head h1 h2 (atsL t xs ++ r)
      exact okT_blank _ g1 g2 hs
theorem okT_at0 (xs : List Tk) (r : List UInt8) (hv : ∀ t ∈ xs, validT t = true ∧ t.k ≠ 5) (h : okT false false r) : okT false false (at0L xs ++ r) := by
  cases xs with
  | nil => exact h
  | cons t xs =>
    obtain ⟨h1, h2⟩ := hv t (by simp)
    have hs := okT_spell h1 h2 false _ (okT_ats xs t r (fun u hu => hv u (by simp [hu])) h)
    obtain ⟨g1, g2⟩ := spell_head h1 h2 (atsL t xs ++ r)
    simp only [at0L, List.append_assoc, List.cons_append]
    exact okT_blank _ g1 g2 hs
/-- a line as the printer writes it -/
structure GoodL (l : List UInt8) (z : UInt8) : Prop where
  ok : okT false true l
  nl : ∀ c ∈ l, c ≠ 10
  last : l.getLast? = some z
theorem ats_nl : ∀ (xs : List Tk) (q : Tk), (∀ t ∈ xs, validT t = true ∧ t.k ≠ 5) → ∀ c ∈ atsL q xs, c ≠ 10
  | [], _, _, c, h => by simp [atsL] at h
  | t :: xs, q, hv, c, h => by
    obtain ⟨h1, h2⟩ := hv t (by simp)
    simp only [atsL, List.mem_append] at h
    rcases h with h | h | h
    · split at h
      · simp at h
      · simp at h; rw [h]; decide
    · rcases spell_kind h1 h2 with ⟨_, k2⟩ | ⟨s, hs, k2⟩
      · exact (kB_plain (k2 c h)).2.2
      · rw [hs] at h
        simp only [List.mem_cons, List.mem_append, List.not_mem_nil, or_false] at h
        rcases h with rfl | h | rfl
        · decide
        · exact (k2 c h).2
        · decide
    · exact ats_nl xs t (fun u hu => hv u (by simp [hu])) c h
theorem at0_nl (xs : List Tk) (hv : ∀ t ∈ xs, validT t = true ∧ t.k ≠ 5) : ∀ c ∈ at0L xs, c ≠ 10 := by
  cases xs with
  | nil => intro c h; simp [at0L] at h
  | cons t xs =>
    intro c h
    have := ats_nl (t :: xs) ⟨4, bs [40], 0, 0⟩ hv
    simp only [at0L, List.mem_cons, List.mem_append] at h
    rcases h with rfl | h | h
    · decide
    · exact this c (by simp only [atsL, List.mem_append]; exact Or.inr (Or.inl h))
    · exact this c (by simp only [atsL, List.mem_append]; exact Or.inr (Or.inr h))
theorem head_good {wd : ByteArray} {xs : List Tk} {bl : Bool} (h1 : validT ⟨1, wd, 0, 0⟩ = true) (hv : ∀ t ∈ xs, validT t = true ∧ t.k ≠ 5) : GoodL (headS wd xs bl) (if bl then 123 else 59) := by
  have hsp : spellT ⟨1, wd, 0, 0⟩ = wd.data.toList := by simp [spellT]
  have hend : okT false false (if bl then ([32, 123] : List UInt8) else [59]) := by
    cases bl with
    | false => exact ⟨fun _ h => absurd h (by decide), trivial⟩
    | true => exact ⟨fun _ _ => ⟨rfl, by simp, by decide⟩, fun _ h => absurd h (by decide), trivial⟩
  refine ⟨?_, ?_, ?_⟩
  · have := okT_spell h1 (by show (1 : Int) ≠ 5; decide) true _ (okT_at0 xs _ hv hend)
    rw [hsp] at this
    exact this
  · intro c hc
    unfold headS at hc
    rw [List.mem_append, List.mem_append] at hc
    rcases hc with hc | hc | hc
    · rcases spell_kind h1 (by show (1 : Int) ≠ 5; decide) with ⟨_, k2⟩ | ⟨s, hs, k2⟩
      · rw [hsp] at k2
        exact (kB_plain (k2 c hc)).2.2
      · rw [hsp] at hs
        rw [hs] at hc
        simp only [List.mem_cons, List.mem_append, List.not_mem_nil, or_false] at hc
        rcases hc with rfl | h | rfl
        · decide
        · exact (k2 c h).2
        · decide
    · exact at0_nl xs hv c hc
    · cases bl <;> simp at hc
      · rw [hc]; decide
      · rcases hc with rfl | rfl <;> decide
  · unfold headS
    rw [← List.append_assoc]
    cases bl <;> simp [List.getLast?_append]
/-- lines, one behind the other, within so many open blocks -/
def Chain : Nat → List (Nat × List UInt8) → Prop
  | o, [] => o = 0
  | o, (d, l) :: R => (o = d + 1 ∧ GoodL l 125 ∧ Chain d R) ∨ (o = d ∧ GoodL l 123 ∧ Chain (d + 1) R) ∨ (o = d ∧ GoodL l 59 ∧ Chain d R)
theorem chain_lines : ∀ (c : Cls) (d : Nat) (R : List (Nat × List UInt8)), formed c = true → Chain d R → Chain d (linesC c d ++ R)
  | .nil, _, _, _, h => h
  | .cons wd xs bl k a r, d, R, hf, h => by
    simp only [formed, Bool.and_eq_true] at hf
    obtain ⟨⟨⟨⟨f1, f2⟩, f3⟩, f4⟩, f5⟩ := hf
    have hv : ∀ t ∈ xs, validT t = true ∧ t.k ≠ 5 := fun t ht => by
      have := List.all_eq_true.1 f2 t ht
      rw [Bool.and_eq_true] at this
      refine ⟨this.1, fun e => ?_⟩
      have h2 := this.2
      simp [atmB, e] at h2
    have hr := chain_lines r d R f5 h
    have hg := head_good (bl := bl) f1 hv
    cases bl with
    | false =>
      simp only [Bool.false_eq_true, if_false] at hg
      simp only [linesC, Bool.false_eq_true, if_false, List.nil_append, List.cons_append]
      exact Or.inr (Or.inr ⟨rfl, hg, hr⟩)
    | true =>
      simp only [if_true] at hg
      simp only [linesC, if_true, List.cons_append, List.append_assoc, List.nil_append]
      refine Or.inr (Or.inl ⟨rfl, hg, ?_⟩)
      refine chain_lines k (d + 1) _ f4 (Or.inl ⟨rfl, ?_, hr⟩)
      exact ⟨⟨fun _ h => absurd h (by decide), trivial⟩, fun c hc => by simp at hc; rw [hc]; decide, rfl⟩
/-- are we within a string -/
def insN (l : List UInt8) : Bool := l.foldl (fun i c => i != (c == 34)) false
theorem insN_snoc (l : List UInt8) (c : UInt8) : insN (l ++ [c]) = (insN l != (c == 34)) := by
  unfold insN; rw [List.foldl_append]; rfl
theorem okT_at : ∀ (l p : List UInt8) (f : Bool), okT (insN p) f l → ∀ (k : Nat) (h : k < l.length), insN (p ++ l.take (k + 1)) = false → l[k]'h = 32 → (k = 0 → f = false) ∧ ∃ h2 : k + 1 < l.length, l[k + 1]'h2 ≠ 32
  | [], _, _, _, k, h, _, _ => by simp at h
  | c :: r, p, f, ho, 0, _, hi, hc => by
    simp only [List.take_succ_cons, List.take_zero] at hi
    rw [insN_snoc] at hi
    obtain ⟨h1, h2, h3⟩ := ho.1 hi (by simpa using hc)
    refine ⟨fun _ => h1, ?_⟩
    cases r with
    | nil => exact absurd rfl h2
    | cons e r => exact ⟨by simp, by simpa using h3⟩
  | c :: r, p, f, ho, k + 1, h, hi, hc => by
    have ho2 : okT (insN (p ++ [c])) false r := by rw [insN_snoc]; exact ho.2
    have hi2 : insN ((p ++ [c]) ++ r.take (k + 1)) = false := by
      rw [List.append_assoc]
      exact hi
    obtain ⟨_, h2, h3⟩ := okT_at r (p ++ [c]) false ho2 k (by simpa using h) hi2 (by simpa using hc)
    exact ⟨fun h => by omega, by simpa using h2, by simpa using h3⟩
theorem good_at {l : List UInt8} {z : UInt8} (hg : GoodL l z) (k : Nat) (h : k < l.length) (hi : insN (l.take (k + 1)) = false) (hc : l[k]'h = 32) : k ≠ 0 ∧ ∃ h2 : k + 1 < l.length, l[k + 1]'h2 ≠ 32 := by
  obtain ⟨h1, h2⟩ := okT_at l [] true hg.ok k h hi hc
  exact ⟨fun e => absurd (h1 e) (by decide), h2⟩
theorem insN_take {l : List UInt8} {k : Nat} (h : k < l.length) : insN (l.take (k + 1)) = (insN (l.take k) != (l[k]'h == 34)) := by
  rw [List.take_succ_eq_append_getElem h, insN_snoc]
theorem good_pos {l : List UInt8} {z : UInt8} (hg : GoodL l z) : 0 < l.length := by
  cases l with
  | nil => have := hg.last; simp at this
  | cons c r => simp
theorem good_last {l : List UInt8} {z : UInt8} (hg : GoodL l z) : l[l.length - 1]'(by have := good_pos hg; omega) = z := by
  have := hg.last
  rw [List.getLast?_eq_getElem?] at this
  rw [List.getElem?_eq_getElem (by have := good_pos hg; omega)] at this
  exact Option.some.inj this
end Go.Proofs.YtohalocbghhenaaGreatDoor
/- The law of the lines of a canonical source: for every slice of entries. -/
namespace Go.Proofs.YtohalocbghhenaaGreatDoor
open Go.RowKit

def flatL (Q : List (Nat × List UInt8)) : List UInt8 := Q.flatMap fun x => indS x.1 ++ (x.2 ++ [10])
theorem flatL_cons (d : Nat) (l : List UInt8) (Q : List (Nat × List UInt8)) : flatL ((d, l) :: Q) = (indS d ++ l) ++ 10 :: flatL Q := by
  simp [flatL]
theorem indS_len (d : Nat) : (indS d).length = 2 * d := by simp [indS]
theorem bs_get (L : List UInt8) (k : Nat) (h : k < (bs L).size) : (bs L)[k]'h = L[k]'(by rw [bs_size] at h; exact h) := rfl
/-- where the loop over the bytes stands -/
def At (T : List UInt8) (o f j : Nat) (Q : List (Nat × List UInt8)) : Prop := f ≤ T.length ∧ T.drop f = flatL Q ∧ Chain o Q ∧ (match Q with | [] => j = 0 | (d, l) :: _ => j ≤ 2 * d + l.length)
theorem at_nil {T : List UInt8} {o f j : Nat} (h : At T o f j []) : j = 0 ∧ f = T.length ∧ o = 0 := by
  obtain ⟨h1, h2, h3, h4⟩ := h
  refine ⟨h4, ?_, h3⟩
  have := congrArg List.length h2
  simp [flatL] at this
  omega
theorem at_len {T : List UInt8} {o f j d : Nat} {l : List UInt8} {Q : List (Nat × List UInt8)} (h : At T o f j ((d, l) :: Q)) : f + 2 * d + l.length + 1 ≤ T.length ∧ j ≤ 2 * d + l.length := by
  obtain ⟨h1, h2, h3, h4⟩ := h
  have := congrArg List.length h2
  rw [flatL_cons] at this
  simp [indS_len] at this
  exact ⟨by omega, h4⟩
theorem at_byte {T : List UInt8} {o f j d : Nat} {l : List UInt8} {Q : List (Nat × List UInt8)} (h : At T o f j ((d, l) :: Q)) (hi : f + j < T.length) :
    (j < 2 * d + l.length → T[f + j]'hi ≠ 10 ∧ At T o f (j + 1) ((d, l) :: Q)) ∧ (j = 2 * d + l.length → T[f + j]'hi = 10) := by
  have hh := h
  obtain ⟨h1, h2, h3, h4⟩ := h
  have hg : T[f + j]'hi = (flatL ((d, l) :: Q))[j]'(by rw [← h2]; simp; omega) := by
    simp only [← h2]
    simp
  rw [hg]
  have hln : (indS d ++ l).length = 2 * d + l.length := by rw [List.length_append, indS_len]
  have hnl : ∀ c ∈ indS d ++ l, c ≠ 10 := by
    intro c hc
    rw [List.mem_append] at hc
    rcases hc with hc | hc
    · unfold indS at hc
      rw [List.eq_of_mem_replicate hc]
      decide
    · rcases h3 with ⟨_, hg, _⟩ | ⟨_, hg, _⟩ | ⟨_, hg, _⟩ <;> exact hg.nl c hc
  constructor
  · intro hj
    refine ⟨?_, h1, h2, h3, by show j + 1 ≤ _; omega⟩
    have : (flatL ((d, l) :: Q))[j]'(by rw [← h2]; simp; omega) = (indS d ++ l)[j]'(by omega) := by
      simp only [flatL_cons]
      exact List.getElem_append_left (by omega)
    rw [this]
    exact hnl _ (List.getElem_mem _)
  · intro hj
    subst hj
    have : (flatL ((d, l) :: Q))[2 * d + l.length]'(by rw [← h2]; simp; omega) = 10 := by
      simp only [flatL_cons]
      rw [List.getElem_append_right (by omega)]
      simp [hln]
    exact this
theorem at_next {T : List UInt8} {o f d : Nat} {l : List UInt8} {Q : List (Nat × List UInt8)} (h : At T o f (2 * d + l.length) ((d, l) :: Q)) :
    (o = d + 1 ∧ GoodL l 125 ∧ At T d (f + (2 * d + l.length) + 1) 0 Q) ∨ (o = d ∧ GoodL l 123 ∧ At T (d + 1) (f + (2 * d + l.length) + 1) 0 Q) ∨ (o = d ∧ GoodL l 59 ∧ At T d (f + (2 * d + l.length) + 1) 0 Q) := by
  have hlen := at_len h
  obtain ⟨h1, h2, h3, h4⟩ := h
  have hd : T.drop (f + (2 * d + l.length) + 1) = flatL Q := by
    have e : f + (2 * d + l.length) + 1 = (2 * d + l.length + 1) + f := by omega
    rw [e, Nat.add_comm, ← List.drop_drop, h2, flatL_cons]
    have hln : (indS d ++ l).length = 2 * d + l.length := by rw [List.length_append, indS_len]
    rw [List.drop_append]
    simp [hln]
  have mk : ∀ o', Chain o' Q → At T o' (f + (2 * d + l.length) + 1) 0 Q := fun o' hc => ⟨by omega, hd, hc, by cases Q with | nil => rfl | cons x Q => exact Nat.zero_le _⟩
  rcases h3 with ⟨e, hg, hc⟩ | ⟨e, hg, hc⟩ | ⟨e, hg, hc⟩
  · exact Or.inl ⟨e, hg, mk _ hc⟩
  · exact Or.inr (Or.inl ⟨e, hg, mk _ hc⟩)
  · exact Or.inr (Or.inr ⟨e, hg, mk _ hc⟩)
theorem at_line {T : List UInt8} {o f d : Nat} {l : List UInt8} {Q : List (Nat × List UInt8)} (h : At T o f (2 * d + l.length) ((d, l) :: Q)) : (bs T).extract f (f + (2 * d + l.length)) = bs (indS d ++ l) := by
  obtain ⟨h1, h2, h3, h4⟩ := h
  have hln : (indS d ++ l).length = 2 * d + l.length := by rw [List.length_append, indS_len]
  apply bs_inj
  rw [bs_data]
  have : ((bs T).extract f (f + (2 * d + l.length))).data.toList = (T.drop f).take (2 * d + l.length) := by
    simp [bs, List.extract_eq_take_drop]
  rw [this, h2, flatL_cons, List.take_append, List.take_of_length_le (by omega)]
  simp [hln]
theorem line_rest (d : Nat) (l : List UInt8) : (bs (indS d ++ l)).extract (2 * d) (bs (indS d ++ l)).size = bs l := by
  apply bs_inj
  rw [bs_data, bs_size]
  have : ((bs (indS d ++ l)).extract (2 * d) (indS d ++ l).length).data.toList = (indS d ++ l).drop (2 * d) := by
    have e : ((bs (indS d ++ l)).extract (2 * d) (indS d ++ l).length).data.toList = ((indS d ++ l).drop (2 * d)).take ((indS d ++ l).length - 2 * d) := by
      simp [bs, List.extract_eq_take_drop]
    rw [e, List.take_of_length_le (by rw [List.length_drop]; exact Nat.le_refl _)]
  rw [this, List.drop_append]
  simp [indS_len]
set_option maxHeartbeats 4000000 in
set_option maxRecDepth 100000 in
theorem shape_walk {c : Cls} {a : Option Addr} {b o cap : Nat} {w : World} (hA : SlC w AllB a b o c.len cap c) (hT : Tabs w) :
    Calls Tryz.prog 9 #[.slice a c.len cap] w fun e w' => e = .returned (.bool true) ∧ Below w.heap.size w w' := by
  have HW := Lib.hid (awake_any w hT)
  have HT := Lib.hid hT
  have HSL := Lib.hid (fun W (hB : Below w.heap.size w W) => SlC.low (w' := W) hA.here (fun x hx => hx.2) hB)
  have HSM := Lib.hid (fun W (hB : Below w.heap.size w W) => small_any (c := c) (m := 300) (by omega) (by omega) (HSL.out W hB))
  cases hr : decide (0 ≤ roomS c 300) with
  | false =>
    rw [hr] at HSM
    generalize c.len = y at *
    clear hA hT HSL hr
    go_enter Tryz.func9, Tryz.ntmps9
    go_wp2_with fail
    refine HW.out.mono ?_
    rintro e w1 ⟨rfl, hb1⟩
    have HB1 := Lib.hid hb1
    clear hb1 HW
    go_wp2_with fail
    refine (HSM.out _ HB1.out).mono ?_
    rintro e w2 ⟨rfl, rfl⟩
    go_wp2_with fail
    go_ret
    exact ⟨rfl, HB1.out⟩
  | true =>
    obtain ⟨r1, r2, r3⟩ := room_print (Int.le_refl _) (of_decide_eq_true hr)
    rw [hr] at HSM
    have HPR := Lib.hid (fun W (hB : Below w.heap.size w W) => prt_any c (by omega) r2 r3 W a b o cap _ (HSL.out W hB) (hT.below hB))
    by_cases hz : (prtS c).2 = 0
    · have hck : checkS c = 0 ∧ (linS c 0).length ≤ 65536 ∧ (prtS c).1 = linS c 0 := by
        unfold prtS at hz ⊢
        split at hz
        · rename_i h
          split at hz
          · rename_i h2; rw [if_pos h, if_pos h2]; exact ⟨h, h2, rfl⟩
          · exact absurd hz (by decide)
        · rename_i h; exact absurd hz h
      obtain ⟨hc0, hll, hpe⟩ := hck
      have hAT : At (linS c 0) 0 0 0 (linesC c 0) := by
        have hch := chain_lines c 0 [] (check_ok hc0).1 rfl
        rw [List.append_nil] at hch
        exact ⟨Nat.zero_le _, by rw [List.drop_zero, lin_lines]; rfl, hch, by cases linesC c 0 with | nil => rfl | cons x Q => exact Nat.zero_le _⟩
      have HAT := Lib.hid hAT
      rw [hz, hpe] at HPR
      have hsz := bs_size (linS c 0)
      generalize linS c 0 = T at *
      generalize hQ : linesC c 0 = Q0 at *
      clear hA hT HSL hr r1 r2 r3 hz hc0 hpe hAT hQ
      generalize c.len = y at *
      have hsz2 : (bs T).size ≤ 65536 := by omega
      go_enter Tryz.func9, Tryz.ntmps9
      go_wp2_with fail
      refine HW.out.mono ?_
      rintro e w1 ⟨rfl, hb1⟩
      have HB1 := Lib.hid hb1
      clear hb1 HW
      go_wp2_with fail
      refine (HSM.out _ HB1.out).mono ?_
      rintro e w2 ⟨rfl, rfl⟩
      go_wp2_with fail
      refine (HPR.out _ HB1.out).mono ?_
      rintro e w2 ⟨rfl, hb2⟩
      have HB2 := Lib.hid (HB1.out.trans (Below.mono hb2 HB1.out.size))
      clear hb2 HB1 HSM HPR
      go_wp2_with fail
      go_loopw [5, 6, 7] (fun s5 s6 s7 wr => ∃ (q f j : Nat) (Q : List (Nat × List UInt8)), s5 = .int .i64 (q : Int) ∧ s6 = .int .i64 (f : Int) ∧ s7 = .int .i64 ((f + j : Nat) : Int) ∧ Hid (At T q f j Q) ∧ f + j ≤ T.length ∧ q ≤ 65536 ∧ wr = w2) (fun _ _ s7 _ => (T.length - (intOf s7)).toNat)
      case atStart => exact ⟨0, 0, 0, Q0, rfl, rfl, rfl, HAT, Nat.zero_le _, Nat.zero_le _, rfl⟩
      case round =>
        obtain ⟨q, f, j, Q, rfl, rfl, rfl, HQ, hfj, hq, hwr⟩ := hrel
        replace hwr := hwr.symm
        subst hwr
        by_cases hlt : f + j < T.length
        · have hl : ((f + j : Nat) : Int) < ((bs T).size : Int) := by omega
          have hl2 : f + j < (bs T).size := by omega
          obtain ⟨d, l, Q', rfl⟩ : ∃ d l Q', Q = (d, l) :: Q' := by
            cases Q with
            | nil => obtain ⟨h1, h2, _⟩ := at_nil HQ.out; omega
            | cons x Q' => exact ⟨x.1, x.2, Q', rfl⟩
          have hby := at_byte HQ.out hlt
          have hle := at_len HQ.out
          have hgt := bs_get T (f + j) hl2
          by_cases hj : j < 2 * d + l.length
          · obtain ⟨hne, HN⟩ := hby.1 hj
            have HNX := Lib.hid HN
            clear hby HN
            have hne2 : (((bs T)[f + j]'hl2).toNat : Int) ≠ 10 := by
              rw [hgt]
              intro e
              exact hne (UInt8.toNat_inj.1 (by show _ = (10 : UInt8).toNat; have : ((10 : UInt8).toNat) = 10 := rfl; omega))
            have hne3 : ((((bs T)[f + j]'hl2).toNat : Int) != 10) = true := by simpa using hne2
            clear hgt hne
            generalize hix : f + j = ix at *
            go_wp2_with fail
            go_roundw
            case rel => exact ⟨q, f, j + 1, (d, l) :: Q', rfl, rfl, by rw [show f + (j + 1) = ix + 1 by omega]; go_num, HNX, by omega, hq, by first | rfl | trivial⟩
            case measure => simp [intOf]; omega
          · obtain rfl : j = 2 * d + l.length := by omega
            have hel := hby.2 rfl
            have hext := at_line HQ.out
            have hnx := at_next HQ.out
            have hrest := line_rest d l
            have hlp : 0 < l.length := by rcases hnx with ⟨_, hg, _⟩ | ⟨_, hg, _⟩ | ⟨_, hg, _⟩ <;> exact good_pos hg
            have hls : (bs (indS d ++ l)).size = 2 * d + l.length := by rw [bs_size, List.length_append, indS_len]
            have hrs : (bs l).size = l.length := bs_size l
            have hd65 : d ≤ 65536 := by omega
            have HIN := Lib.hid (fun k (h : k < (bs (indS d ++ l)).size) (h2 : k < 2 * d) => show (((bs (indS d ++ l))[k]'h).toNat : Int) = 32 by
              rw [bs_get, List.getElem_append_left (by rw [indS_len]; exact h2)]
              have e : (indS d)[k]'(by rw [indS_len]; exact h2) = 32 := List.eq_of_mem_replicate (List.getElem_mem _)
              rw [e]; rfl)
            have hel2 : (((bs T)[f + (2 * d + l.length)]'hl2).toNat : Int) = 10 := by rw [hgt, hel]; rfl
            obtain ⟨m, hm⟩ : ∃ m, 2 * d + l.length = m + 1 := ⟨2 * d + l.length - 1, by omega⟩
            obtain ⟨u, hu⟩ : ∃ u, l.length = u + 1 := ⟨l.length - 1, by omega⟩
            have HLAST := Lib.hid (fun z (hg : GoodL l z) (h : m < (bs (indS d ++ l)).size) => show (bs (indS d ++ l))[m]'h = z by
              rw [bs_get, List.getElem_append_right (by rw [indS_len]; omega)]
              have := good_last hg
              simp only [indS_len]
              have e : m - 2 * d = l.length - 1 := by omega
              simp only [e]
              exact this)
            have HLASR := Lib.hid (fun z (hg : GoodL l z) (h : u < (bs l).size) => show (bs l)[u]'h = z by
              rw [bs_get]
              have := good_last hg
              have e : u = l.length - 1 := by omega
              subst e
              exact this)
            have HGET := Lib.hid (fun k (h : k < (bs l).size) (h2 : k < l.length) => show (bs l)[k]'h = l[k]'h2 from bs_get l k h)
            have hne : bs (indS d ++ l) ≠ ⟨#[]⟩ := fun e => by
              have := congrArg ByteArray.size e
              rw [hls] at this
              have e0 : (⟨#[]⟩ : ByteArray).size = 0 := rfl
              omega
            have hemp : ((bs (indS d ++ l)).toList == (⟨#[]⟩ : ByteArray).toList) = false := by rw [str_beq]; simpa using hne
            have hemp2 : (bs (indS d ++ l)).toList.isEmpty = false := by
              cases h : (bs (indS d ++ l)).toList with
              | nil =>
                rw [h] at hemp
                have e0 : (⟨#[]⟩ : ByteArray).toList = [] := by simp
                rw [e0] at hemp
                exact absurd hemp (by decide)
              | cons _ _ => rfl
            generalize bs (indS d ++ l) = Ln at *
            generalize hRs : bs l = Rs at *
            obtain ⟨e2, he2⟩ : ∃ e2, 2 * d = e2 := ⟨_, rfl⟩
            have he3 : 2 * (d : Int) = (e2 : Int) := by omega
            have hTl : T.length ≤ 65536 := by omega
            obtain ⟨nL, hnL⟩ : ∃ nL, Ln.size = nL := ⟨_, rfl⟩
            obtain ⟨nR, hnR⟩ : ∃ nR, Rs.size = nR := ⟨_, rfl⟩
            rw [hnL] at hrest
            have hn1 : m < nL := by omega
            have hn2 : nL ≤ m + 1 := by omega
            have hn3 : e2 < nL := by omega
            have hr1 : u < nR := by omega
            have hr2 : nR ≤ u + 1 := by omega
            have hr3 : l.length ≤ nR := by omega
            have hr4 : nR ≤ l.length := by omega
            have hmL : m < Ln.size := by omega
            have huR : u < Rs.size := by omega
            have hm1 : (nL : Int) - 1 = (m : Int) := by omega
            have hu1 : (nR : Int) - 1 = (u : Int) := by omega
            have hnT : nL ≤ 65536 := by omega
            have hnR6 : nR ≤ 65536 := by omega
            have hw1 : IntKind.i64.wrap (m : Int) = (m : Int) := IntWalk.i64_in _ (by omega)
            have hw2 : IntKind.i64.wrap (u : Int) = (u : Int) := IntWalk.i64_in _ (by omega)
            have hL0 : ¬ ((nL : Int) ≤ (e2 : Int)) := by omega
            have hd0 : ¬ ((d : Int) < 0) := by omega
            have hdd : ((d + 1 : Nat) : Int) - 1 = (d : Int) := by omega
            have hddb : (d : Int) + 1 - 1 = (d : Int) := by omega
            generalize hix : f + (2 * d + l.length) = ix at *
            rw [he2] at hrest HIN
            have hf1 : ix ≤ T.length := by omega
            have hff : (f : Int) ≤ (ix : Int) := by omega
            have hfn : f ≤ ix := by omega
            have heR : e2 ≤ nL := by omega
            have heRi : (e2 : Int) ≤ (nL : Int) := by omega
            have hixT : ix ≤ (bs T).size := by omega
            have he65 : e2 ≤ 200000 := by omega
            clear hby hgt hrs HQ hls hm hu he2 hix hle
            rcases hnx with ⟨rfl, hg, HX⟩ | ⟨rfl, hg, HX⟩ | ⟨rfl, hg, HX⟩
            all_goals
              have HNX := Lib.hid HX
              have HGA := Lib.hid (fun k (h : k < l.length) => good_at hg k h)
              have hlv := HLAST.out _ hg hmL
              have hrv := HLASR.out _ hg huR
              have hlz := congrArg (fun c : UInt8 => (c.toNat : Int)) hlv
              have hrz := congrArg (fun c : UInt8 => (c.toNat : Int)) hrv
              simp only [show (((125 : UInt8).toNat : Nat) : Int) = 125 from rfl, show (((123 : UInt8).toNat : Nat) : Int) = 123 from rfl, show (((59 : UInt8).toNat : Nat) : Int) = 59 from rfl] at hlz hrz
              clear HLAST HLASR HX hg hlv hrv
              go_wp2_with fail
              go_loopw [9] (fun s9 wr => ∃ k : Nat, k ≤ e2 ∧ s9 = .int .i64 (k : Int) ∧ wr = w2) (fun s9 _ => (e2 - (intOf s9)).toNat)
              case atStart => exact ⟨0, Nat.zero_le _, rfl, rfl⟩
              case round =>
                obtain ⟨k, hk, rfl, hwr⟩ := hrel
                replace hwr := hwr.symm
                subst hwr
                by_cases hke : k < e2
                · have hkz : (k : Int) < (e2 : Int) := by omega
                  have hkL : k < Ln.size := by omega
                  have hin := HIN.out k hkL hke
                  have hkb : (((Ln[k]'hkL).toNat : Int) != 32) = false := by rw [hin]; rfl
                  go_wp2_with fail
                  go_roundw
                  case rel => exact ⟨k + 1, by omega, by go_num, by first | rfl | trivial⟩
                  case measure => simp [intOf]; omega
                · have hkz : ¬ (k : Int) < (e2 : Int) := by omega
                  obtain rfl : k = e2 := by omega
                  clear HIN hlz hmL
                  go_wp2_with fail
                  go_loopw [11, 12] (fun s11 s12 wr => ∃ k : Nat, k ≤ nR ∧ s12 = .int .i64 (k : Int) ∧ s11 = .bool (insN (l.take k)) ∧ wr = w2) (fun _ s12 _ => (nR - (intOf s12)).toNat)
                  case atStart => exact ⟨0, Nat.zero_le _, rfl, rfl, rfl⟩
                  case round =>
                    obtain ⟨k, hk, rfl, rfl, hwr⟩ := hrel
                    replace hwr := hwr.symm
                    subst hwr
                    by_cases hkr : k < nR
                    · have hkz : (k : Int) < (nR : Int) := by omega
                      have hkR : k < Rs.size := by omega
                      have hkl : k < l.length := by omega
                      have hgk := HGET.out k hkR hkl
                      have hst := insN_take hkl
                      have hga := HGA.out k hkl
                      generalize insN (l.take k) = i0 at *
                      generalize hi1 : insN (l.take (k + 1)) = i1 at *
                      have hcv := congrArg (fun c : UInt8 => (c.toNat : Int)) hgk
                      try simp only at hcv
                      by_cases hc34 : l[k]'hkl = 34
                      · have hv : (((Rs[k]'hkR).toNat : Nat) : Int) = 34 := by rw [hgk, hc34]; rfl
                        have hi1v : i1 = !i0 := by rw [hst, hc34]; cases i0 <;> rfl
                        clear hgk hcv hst hga
                        have HI1 := Lib.hid hi1
                        clear hi1
                        subst hi1v
                        cases i0 with
                        | true =>
                          go_wp2_with fail
                          go_roundw
                          case rel => exact ⟨k + 1, by omega, by go_num, by rw [HI1.out]; rfl, by first | rfl | trivial⟩
                          case measure => simp [intOf]; omega
                        | false =>
                          go_wp2_with fail
                          go_roundw
                          case rel => exact ⟨k + 1, by omega, by go_num, by rw [HI1.out]; rfl, by first | rfl | trivial⟩
                          case measure => simp [intOf]; omega
                      · have hn34 : ¬ (((Rs[k]'hkR).toNat : Nat) : Int) = 34 := by
                          rw [hgk]
                          intro e
                          exact hc34 (UInt8.toNat_inj.1 (by have : ((34 : UInt8).toNat) = 34 := rfl; omega))
                        have hb34 : ((((Rs[k]'hkR).toNat : Nat) : Int) == 34) = false := by simpa using hn34
                        have hi1v : i1 = i0 := by
                          rw [hst]
                          have : (l[k]'hkl == 34) = false := by simpa using hc34
                          rw [this]; cases i0 <;> rfl
                        subst hi1v
                        have HI1 := Lib.hid hi1
                        clear hi1 hst
                        cases i1 with
                        | true =>
                          clear hgk hcv hga
                          go_wp2_with fail
                          go_roundw
                          case rel => exact ⟨k + 1, by omega, by go_num, by rw [HI1.out], by first | rfl | trivial⟩
                          case measure => simp [intOf]; omega
                        | false =>
                          by_cases hc32 : l[k]'hkl = 32
                          · obtain ⟨g1, g2, g3⟩ := hga rfl hc32
                            have hv : (((Rs[k]'hkR).toNat : Nat) : Int) = 32 := by rw [hgk, hc32]; rfl
                            have hkR2 : k + 1 < Rs.size := by omega
                            have hk1z : (k : Int) + 1 < (nR : Int) := by omega
                            have hgk2 := HGET.out (k + 1) hkR2 g2
                            have hn32 : ¬ (((Rs[k + 1]'hkR2).toNat : Nat) : Int) = 32 := by
                              rw [hgk2]
                              intro e
                              exact g3 (UInt8.toNat_inj.1 (by have : ((32 : UInt8).toNat) = 32 := rfl; omega))
                            have hb32 : ((((Rs[k + 1]'hkR2).toNat : Nat) : Int) == 32) = false := by simpa using hn32
                            have hk0 : ¬ (k : Int) = 0 := by omega
                            have hkb0 : ((k : Int) == 0) = false := by simp; omega
                            have hku : ¬ (k : Int) = (u : Int) := by omega
                            have hkub : ((k : Int) == (u : Int)) = false := by simp; omega
                            clear hgk hcv hga hgk2 g3 hn34 hb34
                            go_wp2_with fail
                            go_roundw
                            case rel => exact ⟨k + 1, by omega, by go_num, by rw [HI1.out], by first | rfl | trivial⟩
                            case measure => simp [intOf]; omega
                          · have hn32 : ¬ (((Rs[k]'hkR).toNat : Nat) : Int) = 32 := by
                              rw [hgk]
                              intro e
                              exact hc32 (UInt8.toNat_inj.1 (by have : ((32 : UInt8).toNat) = 32 := rfl; omega))
                            have hb32 : ((((Rs[k]'hkR).toNat : Nat) : Int) == 32) = false := by simpa using hn32
                            clear hgk hcv hga
                            go_wp2_with fail
                            go_roundw
                            case rel => exact ⟨k + 1, by omega, by go_num, by rw [HI1.out], by first | rfl | trivial⟩
                            case measure => simp [intOf]; omega
                    · have hkz : ¬ (k : Int) < (nR : Int) := by omega
                      obtain rfl : k = nR := by omega
                      clear HGA HGET
                      generalize insN (l.take k) = i0 at *
                      go_wp2_with fail
                      go_roundw
                      case rel => exact ⟨_, ix + 1, 0, Q', by first | rfl | go_num, by go_num, by go_num, HNX, by omega, by omega, by first | rfl | trivial⟩
                      case measure => simp [intOf]; omega
        · have hl : ¬ ((f + j : Nat) : Int) < ((bs T).size : Int) := by omega
          have hQ : Q = [] := by
            cases Q with
            | nil => rfl
            | cons x Q' => have := at_len (d := x.1) (l := x.2) HQ.out; omega
          subst hQ
          obtain ⟨rfl, hf, rfl⟩ := at_nil HQ.out
          have hf2 : (f : Int) = ((bs T).size : Int) := by omega
          have hf3 : ((f : Int) == ((bs T).size : Int)) = true := by simpa using hf2
          clear HQ
          generalize hix : f + 0 = ix at *
          go_wp2_with fail
          go_ret
          exact ⟨by first | rfl | simp, HB2.out⟩
    · have q1 : ((prtS c).2 != 0) = true := by simpa using hz
      have q0 : ((prtS c).2 == 0) = false := by simpa using hz
      generalize (prtS c).2 = z at *
      generalize bs (prtS c).1 = S at *
      generalize c.len = y at *
      clear hA hT HSL hr r1 r2 r3
      go_enter Tryz.func9, Tryz.ntmps9
      go_wp2_with fail
      refine HW.out.mono ?_
      rintro e w1 ⟨rfl, hb1⟩
      have HB1 := Lib.hid hb1
      clear hb1 HW
      go_wp2_with fail
      refine (HSM.out _ HB1.out).mono ?_
      rintro e w2 ⟨rfl, rfl⟩
      go_wp2_with fail
      refine (HPR.out _ HB1.out).mono ?_
      rintro e w2 ⟨rfl, hb2⟩
      have HB2 := Lib.hid (HB1.out.trans (Below.mono hb2 HB1.out.size))
      go_wp2_with fail
      go_ret
      exact ⟨rfl, HB2.out⟩
end Go.Proofs.YtohalocbghhenaaGreatDoor
