/- Plain facts: tokens with blanks, or nothing, ahead of each are read again. -/
import Derived.Test.YtohalocbghhenaaGreatDoorParZ
set_option linter.unusedSimpArgs false
set_option linter.unusedVariables false
namespace Go.Proofs.YtohalocbghhenaaGreatDoor
open Go.RowKit

/-- blanks alone -/
def blkL (s : List UInt8) : Bool := s.all fun c => kB c == 1
/-- tokens, each with what stands ahead of it, and what stands behind all -/
def textL : List (List UInt8 × Tk) → List UInt8 → List UInt8
  | [], tl => tl
  | (s, t) :: r, tl => s ++ (spellT t ++ textL r tl)
/-- a sign may be followed by anything; what stands behind all is a text -/
def segOk : List (List UInt8 × Tk) → List UInt8 → Prop
  | [], _ => True
  | (s, t) :: r, T => blkL s = true ∧ validT t = true ∧ t.k ≠ 5 ∧ (t.k = 4 ∨ Stops (textL r T)) ∧ segOk r T
theorem textL_app : ∀ (A B : List (List UInt8 × Tk)) (T : List UInt8), textL (A ++ B) T = textL A (textL B T)
  | [], _, _ => rfl
  | (s, t) :: r, B, T => by simp only [List.cons_append, textL, textL_app r B T]
theorem segOk_app : ∀ (A B : List (List UInt8 × Tk)) (T : List UInt8), segOk A (textL B T) → segOk B T → segOk (A ++ B) T
  | [], _, _, _, h => h
  | (s, t) :: r, B, T, hA, h => by
    obtain ⟨h1, h2, h3, h4, h5⟩ := hA
    exact ⟨h1, h2, h3, by show t.k = 4 ∨ Stops (textL (r ++ B) T); rw [textL_app]; exact h4, segOk_app r B T h5 h⟩
theorem skN_blk : ∀ (s l : List UInt8), blkL s = true → skN false (s ++ l) = s.length + skN false l
  | [], l, _ => by simp
  | c :: s, l, h => by
    have h' : kB c = 1 ∧ blkL s = true := by simpa [blkL] using h
    rw [List.cons_append, skN, if_neg (by rw [h'.1]; decide), if_pos h'.1, skN_blk s l h'.2, List.length_cons]
    omega
/-- a sign is read whatever follows -/
theorem readL_sig {t : Tk} (hv : validT t = true) (hk : t.k = 4) (r : List UInt8) : readL (spellT t ++ r) = ({ t with a := 0 }, (spellT t).length, 0) := by
  have h5 : t.k ≠ 5 := by omega
  obtain ⟨e, _⟩ := readL_spell t hv h5 [] (by intro c hc; simp at hc)
  have hs : ∃ c, spellT t = [c] ∧ kB c = 8 := by
    obtain ⟨k, s, n, a⟩ := t
    simp only at hk
    subst hk
    have h3 : sigB s.data.toList = true := by
      have h2 := hv
      unfold validT at h2
      rw [if_neg (show ¬ (4 : Int) = 2 by decide), Bool.and_eq_true] at h2
      have h2 := h2.2
      unfold vText at h2
      simpa using h2
    have hsp : spellT ⟨4, s, n, a⟩ = s.data.toList := by
      unfold spellT
      rw [if_neg (show ¬ (4 : Int) = 2 by decide), if_neg (show ¬ (4 : Int) = 3 by decide)]
    rw [hsp]
    unfold sigB at h3
    rw [Bool.and_eq_true] at h3
    obtain ⟨h4, h6⟩ := h3
    have h4 : s.data.toList.length = 1 := by simpa using h4
    generalize s.data.toList = l at *
    match l, h4, h6 with
    | [c], _, h6 => exact ⟨c, rfl, by simpa using h6⟩
  obtain ⟨c, hc, h8⟩ := hs
  rw [hc] at e ⊢
  have hr : runB c = false := by unfold runB; rw [h8]; decide
  rw [List.singleton_append] at e ⊢
  rw [readL_cons, hr, if_neg (by simp), if_neg (by rw [h8]; decide), if_pos h8] at e ⊢
  exact e
theorem first_seg {t : Tk} (hv : validT t = true) (h5 : t.k ≠ 5) {r : List UInt8} (hr : t.k = 4 ∨ Stops r) (p : Nat) : firstL (spellT t ++ r) p = ({ t with a := (p : Int) }, p + (spellT t).length, 0, 0) := by
  rcases hr with hk | hr
  · have e := readL_sig hv hk r
    obtain ⟨_, c, l, hc, k1, k2⟩ := readL_spell t hv h5 [] (by intro c hc; simp at hc)
    have hs : skN false (spellT t ++ r) = 0 := by rw [hc]; exact skN_none k1 k2
    unfold firstL
    rw [hs, List.drop_zero, e]
    rfl
  · exact first_spell t hv h5 r hr p
theorem spell_pos {t : Tk} (hv : validT t = true) (h5 : t.k ≠ 5) : 1 ≤ (spellT t).length := by
  obtain ⟨_, c, l, hc, _⟩ := readL_spell t hv h5 [] (by intro c hc; simp at hc)
  rw [hc]; simp
/-- TOKENS WITH BLANKS AHEAD OF THEM ARE READ AGAIN -/
theorem lexR_seg : ∀ (sg : List (List UInt8 × Tk)) (tl : List UInt8) (f p : Nat), segOk sg tl → blkL tl = true → (textL sg tl).length < f → (lexR f (textL sg tl) p).2 = (0, 0) ∧ (lexR f (textL sg tl) p).1.map zeroA = (sg.map (·.2)).map zeroA ++ [endT]
  | _, _, 0, _, _, _, h => by omega
  | [], tl, f + 1, p, _, ho, h => by
    have hs := lexR_skip (f + 1) tl p tl.length (by
      have := skN_blk tl [] ho
      rw [List.append_nil] at this
      rw [this, List.drop_length])
    show (lexR (f + 1) tl p).2 = (0, 0) ∧ (lexR (f + 1) tl p).1.map zeroA = _
    rw [hs, List.drop_length]
    have e : firstL [] (p + tl.length) = (⟨5, bs [], 0, ((p + tl.length : Nat) : Int)⟩, p + tl.length, 0, 0) := rfl
    unfold lexR
    rw [e]
    exact ⟨rfl, rfl⟩
  | (s, t) :: r, tl, f + 1, p, ho, hb, h => by
    obtain ⟨o1, o2, o3, o4, o5⟩ := ho
    have hl1 := spell_pos o2 o3
    simp only [textL, List.length_append] at h
    show (lexR (f + 1) (s ++ (spellT t ++ textL r tl)) p).2 = (0, 0) ∧ (lexR (f + 1) (s ++ (spellT t ++ textL r tl)) p).1.map zeroA = _
    have hs := lexR_skip (f + 1) (s ++ (spellT t ++ textL r tl)) p s.length (by rw [skN_blk s _ o1, List.drop_left])
    rw [List.drop_left] at hs
    rw [hs]
    have hf := first_seg o2 o3 o4 (p + s.length)
    unfold lexR
    rw [hf]
    simp only [if_true]
    rw [if_neg o3, Nat.add_sub_cancel_left, List.drop_left]
    have hr := lexR_seg r tl f (p + s.length + (spellT t).length) o5 hb (by omega)
    refine ⟨hr.1, ?_⟩
    simp only [List.map_cons, hr.2, List.cons_append]
    rfl
end Go.Proofs.YtohalocbghhenaaGreatDoor
/- Plain facts: the canonical source of entries; it is read again as these entries. -/
namespace Go.Proofs.YtohalocbghhenaaGreatDoor
open Go.RowKit

def indS (d : Nat) : List UInt8 := List.replicate (2 * d) 32
/-- no blank stands between two atoms -/
def adjB (q t : Tk) : Bool := sgn q 40 || (sgn t 41 || sgn t 44)
def segA : Tk → List Tk → List (List UInt8 × Tk)
  | _, [] => []
  | q, t :: r => ((if adjB q t then [] else [32]), t) :: segA t r
def segA0 : List Tk → List (List UInt8 × Tk)
  | [] => []
  | t :: r => ([32], t) :: segA t r
def segC : Cls → Nat → List UInt8 → List (List UInt8 × Tk)
  | .nil, _, _ => []
  | .cons w xs b k _ r, d, p => (p ++ indS d, ⟨1, w, 0, 0⟩) :: (segA0 xs ++ ((if b then ([32], ⟨4, bs [123], 0, 0⟩) :: (segC k (d + 1) [10] ++ [(10 :: indS d, ⟨4, bs [125], 0, 0⟩)]) else [([], ⟨4, bs [59], 0, 0⟩)]) ++ segC r d [10]))
/-- atoms behind one -/
def atsL : Tk → List Tk → List UInt8
  | _, [] => []
  | q, t :: r => (if adjB q t then [] else [32]) ++ (spellT t ++ atsL t r)
def at0L : List Tk → List UInt8
  | [] => []
  | t :: r => 32 :: (spellT t ++ atsL t r)
/-- the first line of an entry -/
def headS (w : ByteArray) (xs : List Tk) (b : Bool) : List UInt8 := w.data.toList ++ (at0L xs ++ (if b then [32, 123] else [59]))
/-- the lines of entries within so many blocks -/
def linS : Cls → Nat → List UInt8
  | .nil, _ => []
  | .cons w xs b k _ r, d => indS d ++ (headS w xs b ++ (10 :: ((if b then linS k (d + 1) ++ (indS d ++ [125, 10]) else []) ++ linS r d)))
theorem segA_text : ∀ (xs : List Tk) (q : Tk) (T : List UInt8), textL (segA q xs) T = atsL q xs ++ T
  | [], _, _ => rfl
  | t :: r, q, T => by simp only [segA, textL, atsL, segA_text r t T, List.append_assoc]
theorem segA0_text : ∀ (xs : List Tk) (T : List UInt8), textL (segA0 xs) T = at0L xs ++ T
  | [], _ => rfl
  | t :: r, T => by simp only [segA0, textL, at0L, segA_text r t T, List.append_assoc, List.cons_append, List.nil_append]
theorem seg_text : ∀ (c : Cls) (d : Nat) (p T : List UInt8), (c = .nil → p = [10]) → textL (segC c d p) (10 :: T) = p ++ (linS c d ++ T)
  | .nil, _, p, T, h => by
    obtain rfl := h rfl
    rfl
  | .cons w xs b k a r, d, p, T, _ => by
    have hr := seg_text r d [10] T (fun _ => rfl)
    have hw : spellT ⟨1, w, 0, 0⟩ = w.data.toList := by simp [spellT]
    simp only [segC, textL, hw]
    rw [textL_app, segA0_text, textL_app, hr]
    cases b with
    | false =>
      have h59 : spellT ⟨4, bs [59], 0, 0⟩ = [59] := by simp [spellT, bs_data]
      simp only [Bool.false_eq_true, if_false, textL, linS, headS, h59, List.append_assoc, List.nil_append, List.cons_append]
    | true =>
      have h123 : spellT ⟨4, bs [123], 0, 0⟩ = [123] := by simp [spellT, bs_data]
      have h125 : spellT ⟨4, bs [125], 0, 0⟩ = [125] := by simp [spellT, bs_data]
      have hk := seg_text k (d + 1) [10] (indS d ++ ([125] ++ ([10] ++ (linS r d ++ T)))) (fun _ => rfl)
      simp only [if_true, textL, h123]
      rw [textL_app]
      simp only [textL, h125]
      have hk2 : textL (segC k (d + 1) [10]) (10 :: indS d ++ ([125] ++ ([10] ++ (linS r d ++ T)))) = _ := hk
      rw [hk2]
      simp only [if_true, linS, headS, List.append_assoc, List.nil_append, List.cons_append]
theorem seg_toks : ∀ (c : Cls) (d : Nat) (p : List UInt8), (segC c d p).map (·.2) = toksC c
  | .nil, _, _ => rfl
  | .cons w xs b k a r, d, p => by
    have hA : ∀ (q : Tk) (ys : List Tk), (segA q ys).map (·.2) = ys := fun q ys => by
      induction ys generalizing q with
      | nil => rfl
      | cons t r ih => simp [segA, ih]
    have hA0 : (segA0 xs).map (·.2) = xs := by cases xs <;> simp [segA0, hA]
    cases b <;> simp [segC, toksC, hA0, seg_toks r d [10], seg_toks k (d + 1) [10]]
theorem stops_cons {c : UInt8} (h : runB c = false) (l : List UInt8) : Stops (c :: l) := by
  intro x hx
  have : x = c := by simpa using hx.symm
  rw [this]; exact h
theorem sgn_k {t : Tk} {c : UInt8} (h : sgn t c = true) : t.k = 4 := by
  unfold sgn at h
  rw [Bool.and_eq_true] at h
  simpa using h.1
theorem sgn_text {t : Tk} {c : UInt8} (h : sgn t c = true) : spellT t = [c] := by
  have hk := sgn_k h
  unfold sgn at h
  rw [Bool.and_eq_true, decide_eq_true_eq] at h
  unfold spellT
  rw [if_neg (by omega), if_neg (by omega), h.2, bs_data]
theorem segA_ok : ∀ (xs : List Tk) (q : Tk) (T : List UInt8), (∀ t ∈ xs, validT t = true ∧ t.k ≠ 5) → Stops T → segOk (segA q xs) T
  | [], _, _, _, _ => trivial
  | t :: r, q, T, hv, hT => by
    obtain ⟨h1, h2⟩ := hv t (by simp)
    refine ⟨by split <;> decide, h1, h2, ?_, segA_ok r t T (fun u hu => hv u (by simp [hu])) hT⟩
    rw [segA_text]
    cases r with
    | nil => exact Or.inr hT
    | cons u r' =>
      cases ha : adjB t u with
      | false =>
        refine Or.inr ?_
        simp only [atsL, ha, Bool.false_eq_true, if_false, List.cons_append]
        exact stops_cons (by decide) _
      | true =>
        unfold adjB at ha
        rw [Bool.or_eq_true, Bool.or_eq_true] at ha
        rcases ha with h | h | h
        · exact Or.inl (sgn_k h)
        · refine Or.inr ?_
          have hu : adjB t u = true := by unfold adjB; rw [h]; simp
          simp only [atsL, hu, if_true, List.nil_append, sgn_text h, List.cons_append]
          exact stops_cons (by decide) _
        · refine Or.inr ?_
          have hu : adjB t u = true := by unfold adjB; rw [h]; simp
          simp only [atsL, hu, if_true, List.nil_append, sgn_text h, List.cons_append]
          exact stops_cons (by decide) _
theorem segA0_ok (xs : List Tk) (T : List UInt8) (hv : ∀ t ∈ xs, validT t = true ∧ t.k ≠ 5) (hT : Stops T) : segOk (segA0 xs) T ∧ Stops (textL (segA0 xs) T) := by
  cases xs with
  | nil => exact ⟨trivial, hT⟩
  | cons t r =>
    have := segA_ok (t :: r) ⟨4, bs [40], 0, 0⟩ T hv hT
    obtain ⟨_, h2, h3, h4, h5⟩ := this
    refine ⟨⟨by decide, h2, h3, h4, h5⟩, ?_⟩
    rw [segA0_text]
    exact stops_cons (by decide) _
theorem blk_ind (p : List UInt8) (hp : blkL p = true) (d : Nat) : blkL (p ++ indS d) = true := by
  unfold blkL at hp ⊢
  rw [List.all_append, hp, Bool.true_and, List.all_eq_true]
  intro c hc
  unfold indS at hc
  rw [List.eq_of_mem_replicate hc]
  decide
theorem seg_ok : ∀ (c : Cls) (d : Nat) (p T : List UInt8), formed c = true → blkL p = true → segOk (segC c d p) (10 :: T)
  | .nil, _, _, _, _, _ => trivial
  | .cons w xs b k a r, d, p, T, hf, hp => by
    simp only [formed, Bool.and_eq_true] at hf
    obtain ⟨⟨⟨⟨f1, f2⟩, f3⟩, f4⟩, f5⟩ := hf
    have hv : ∀ t ∈ xs, validT t = true ∧ t.k ≠ 5 := fun t ht => by
      have := List.all_eq_true.1 f2 t ht
      rw [Bool.and_eq_true] at this
      refine ⟨this.1, fun e => ?_⟩
      have h2 := this.2
      simp [atmB, e] at h2
    have hr := seg_ok r d [10] T f5 (by decide)
    have hst : ∀ X, Stops (textL ((if b then ([32], (⟨4, bs [123], 0, 0⟩ : Tk)) :: (segC k (d + 1) [10] ++ [(10 :: indS d, ⟨4, bs [125], 0, 0⟩)]) else [([], ⟨4, bs [59], 0, 0⟩)]) ++ segC r d [10]) X) := fun X => by
      cases b with
      | false => simp only [Bool.false_eq_true, if_false, List.cons_append, List.nil_append, textL, show spellT ⟨4, bs [59], 0, 0⟩ = [59] by simp [spellT, bs_data]]; exact stops_cons (by decide) _
      | true => simp only [if_true, List.cons_append, textL, List.nil_append]; exact stops_cons (by decide) _
    obtain ⟨a1, a2⟩ := segA0_ok xs _ hv (hst (10 :: T))
    refine ⟨blk_ind p hp d, f1, by show (1 : Int) ≠ 5; decide, Or.inr (by rw [textL_app]; exact a2), segOk_app _ _ _ a1 (segOk_app _ _ _ ?_ hr)⟩
    cases b with
    | false => exact ⟨by decide, by decide, by show (4 : Int) ≠ 5; decide, Or.inl rfl, trivial⟩
    | true =>
      simp only [if_true]
      have hX : ∃ Y, textL (segC r d [10]) (10 :: T) = 10 :: Y := by
        rw [seg_text r d [10] T (fun _ => rfl)]
        exact ⟨_, rfl⟩
      obtain ⟨Y, hY⟩ := hX
      rw [hY]
      refine ⟨by decide, by decide, by show (4 : Int) ≠ 5; decide, Or.inl rfl, segOk_app _ _ _ ?_ ⟨blk_ind [10] (by decide) d, by decide, by show (4 : Int) ≠ 5; decide, Or.inl rfl, trivial⟩⟩
      exact seg_ok k (d + 1) [10] _ f4 (by decide)
/-- THE CANONICAL SOURCE IS READ AGAIN -/
theorem parS_print {c : Cls} (hf : formed c = true) (hd : c.depth ≤ 8) (hl : (linS c 0).length ≤ 65536) :
    ∃ c', parS (bs (linS c 0)) = (c', 0, 0) ∧ c'.zero = c.zero := by
  have hsz : (bs (linS c 0)).size = (linS c 0).length := bs_size _
  have hx : (lexR ((linS c 0).length + 1) (linS c 0) 0).2 = (0, 0) ∧ (lexR ((linS c 0).length + 1) (linS c 0) 0).1.map zeroA = (toksC c).map zeroA ++ [endT] := by
    by_cases hn : c = .nil
    · subst hn
      have := lexR_seg [] [] 1 0 trivial (by decide) (by decide)
      exact this
    · have ht := seg_text c 0 [] [] (fun h => absurd h hn)
      rw [List.append_nil, List.nil_append] at ht
      have := lexR_seg (segC c 0 []) [10] ((linS c 0).length + 1) 0 (seg_ok c 0 [] [] hf (by decide)) (by decide) (by rw [ht]; exact Nat.lt_succ_self _)
      rw [ht, seg_toks] at this
      exact this
  have hL : lexS (bs (linS c 0)) = lexR ((linS c 0).length + 1) (linS c 0) 0 := by
    unfold lexS
    rw [if_neg (by rw [hsz]; omega), hsz, bs_data, if_pos (by rw [hx.1])]
  generalize lexR ((linS c 0).length + 1) (linS c 0) 0 = R at *
  obtain ⟨L, q⟩ := R
  obtain ⟨h1, h2⟩ := hx
  simp only at h1 h2
  subst h1
  obtain ⟨As, E, rfl, hA, hE⟩ := List.map_eq_append_iff.1 h2
  obtain ⟨x, E2, rfl, hx, hE2⟩ := List.map_eq_cons_iff.1 hE
  obtain rfl : E2 = [] := by simpa using hE2
  have hx5 : x.k = 5 := by have := (zeroA_k (x := x) (y := endT) (by rw [hx]; rfl)).1; exact this
  obtain ⟨c', p1, p2⟩ := parL_spelled c 0 hf (by omega) As x [] ((As ++ [x]).length + 1) hA (by unfold endsB; rw [if_pos rfl, hx5]; rfl) (Nat.lt_succ_self _)
  refine ⟨c', ?_, p2⟩
  unfold parS
  rw [hL, if_pos rfl]
  simp only
  rw [p1]
/-- offsets don't count -/
theorem spell_zero (t : Tk) : spellT (zeroA t) = spellT t := rfl
theorem atsL_zero : ∀ (xs : List Tk) (q : Tk), atsL (zeroA q) (xs.map zeroA) = atsL q xs
  | [], _ => rfl
  | t :: r, q => by
    simp only [List.map_cons, atsL, spell_zero, atsL_zero r t]
    rfl
theorem head_zero (w : ByteArray) (xs : List Tk) (b : Bool) : headS w (xs.map zeroA) b = headS w xs b := by
  unfold headS
  cases xs with
  | nil => rfl
  | cons t r => simp only [List.map_cons, at0L, spell_zero, atsL_zero r t]
theorem lin_zero : ∀ (c : Cls) (d : Nat), linS c.zero d = linS c d
  | .nil, _ => rfl
  | .cons w xs b k a r, d => by simp only [Cls.zero, linS, head_zero, lin_zero k, lin_zero r]
theorem lin_same {c e : Cls} (h : c.zero = e.zero) (d : Nat) : linS c d = linS e d := by rw [← lin_zero c, h, lin_zero]
theorem lin_app : ∀ (c e : Cls) (d : Nat), linS (c.app e) d = linS c d ++ linS e d
  | .nil, _, _ => rfl
  | .cons w xs b k a r, e, d => by simp only [Cls.app, linS, lin_app r e d, List.append_assoc, List.cons_append]
/-- the lines of entries, each with the number of blocks around it -/
def linesC : Cls → Nat → List (Nat × List UInt8)
  | .nil, _ => []
  | .cons w xs b k _ r, d => (d, headS w xs b) :: ((if b then linesC k (d + 1) ++ [(d, [125])] else []) ++ linesC r d)
theorem lin_lines : ∀ (c : Cls) (d : Nat), linS c d = (linesC c d).flatMap fun x => indS x.1 ++ (x.2 ++ [10])
  | .nil, _ => rfl
  | .cons w xs b k a r, d => by
    cases b <;> simp [linS, linesC, lin_lines k, lin_lines r]
def blocks : Cls → Nat
  | .nil => 0
  | .cons _ _ b k _ r => (if b then 1 + blocks k else 0) + blocks r
theorem lines_count : ∀ (c : Cls) (d : Nat), formed c = true → (linesC c d).length = c.count + blocks c
  | .nil, _, _ => rfl
  | .cons w xs b k a r, d, hf => by
    simp only [formed, Bool.and_eq_true] at hf
    obtain ⟨⟨⟨⟨f1, f2⟩, f3⟩, f4⟩, f5⟩ := hf
    have hr := lines_count r d f5
    have hk := lines_count k (d + 1) f4
    cases b with
    | false =>
      have : k = .nil := Cls.len_nil (by simpa using f3)
      subst this
      simp [linesC, blocks, Cls.count, hr]; omega
    | true =>
      simp [linesC, blocks, Cls.count, hr, hk]; omega
end Go.Proofs.YtohalocbghhenaaGreatDoor
/- Plain facts: how long the canonical source of a source is. -/
namespace Go.Proofs.YtohalocbghhenaaGreatDoor
open Go.RowKit

def sumT : List Tk → Nat
  | [] => 0
  | t :: r => (spellT t).length + sumT r
theorem sumT_app : ∀ (A B : List Tk), sumT (A ++ B) = sumT A + sumT B
  | [], B => by simp [sumT]
  | t :: r, B => by simp only [List.cons_append, sumT, sumT_app r B]; omega
theorem sumT_zero : ∀ (A : List Tk), sumT (A.map zeroA) = sumT A
  | [] => rfl
  | t :: r => by simp only [List.map_cons, sumT, spell_zero, sumT_zero r]
theorem jnT_sum : ∀ (ts : List Tk), sumT ts ≤ (jnT ts).length
  | [] => Nat.zero_le _
  | t :: r => by
    have ih := jnT_sum r
    rw [jnT_cons, List.length_append]
    simp only [sumT]
    by_cases h : r = []
    · subst h; simp [sumT]
    · rw [if_neg h, List.length_cons]; omega
theorem ats_len : ∀ (xs : List Tk) (q : Tk), (atsL q xs).length ≤ sumT xs + xs.length
  | [], _ => Nat.le_refl _
  | t :: r, q => by
    have ih := ats_len r t
    simp only [atsL, List.length_append, sumT, List.length_cons]
    have : (if adjB q t = true then ([] : List UInt8) else [32]).length ≤ 1 := by split <;> simp
    omega
theorem at0_len (xs : List Tk) : (at0L xs).length ≤ sumT xs + xs.length := by
  cases xs with
  | nil => exact Nat.le_refl _
  | cons t r =>
    have ih := ats_len r t
    simp only [at0L, List.length_append, sumT, List.length_cons]
    omega
theorem lin_len : ∀ (c : Cls) (d : Nat), d + c.depth ≤ 8 → (linS c d).length ≤ sumT (toksC c) + 18 * (toksC c).length
  | .nil, _, _ => Nat.zero_le _
  | .cons w xs b k a r, d, h => by
    simp only [Cls.depth] at h
    have hr := lin_len r d (by omega)
    have h0 := at0_len xs
    have hw : (spellT ⟨1, w, 0, 0⟩).length = w.data.toList.length := by simp [spellT]
    have hi : (indS d).length = 2 * d := by simp [indS]
    have h59 : (spellT ⟨4, bs [59], 0, 0⟩).length = 1 := by simp [spellT, bs_data]
    have h123 : (spellT ⟨4, bs [123], 0, 0⟩).length = 1 := by simp [spellT, bs_data]
    have h125 : (spellT ⟨4, bs [125], 0, 0⟩).length = 1 := by simp [spellT, bs_data]
    cases b with
    | false =>
      simp only [toksC, Bool.false_eq_true, if_false, sumT, sumT_app, List.length_cons, List.length_append, linS, headS, hi, hw, h59, List.nil_append, List.length_nil] at hr ⊢
      omega
    | true =>
      simp only [if_true] at h
      have hk := lin_len k (d + 1) (by omega)
      simp only [toksC, if_true, sumT, sumT_app, List.length_cons, List.length_append, linS, headS, hi, hw, h123, h125, List.nil_append, List.length_nil] at hr hk ⊢
      omega
/-- what is accepted: its tokens are the entries' -/
theorem parS_toks (s : ByteArray) (hs : s.size ≤ 65536) (h : (parS s).2.1 = 0) :
    ∃ ts x, lexS s = (ts ++ [x], 0, 0) ∧ x.k = 5 ∧ (∀ t ∈ ts, validT t = true ∧ t.k ≠ 5) ∧ ts.map zeroA = (toksC (parS s).1).map zeroA ∧ formed (parS s).1 = true ∧ (parS s).1.depth ≤ 8 ∧ ts.length ≤ s.size := by
  have hz := list_size s
  have e := lexS_small s hs
  by_cases h0 : (lexR (s.size + 1) s.data.toList 0).2.1 = 0
  · rw [if_pos h0] at e
    obtain ⟨ts, x, l1, l2, l3, l4, l5, l6, l7, l8⟩ := lexR_like (s.size + 1) s.data.toList 0 (by omega) h0
    have hx5 : x.k = 5 := by rw [l3]
    have hE : lexS s = (ts ++ [x], 0, 0) := by
      rw [e]
      exact Prod.ext l1 l5
    unfold parS at h ⊢
    rw [hE, if_pos rfl] at h ⊢
    simp only at h ⊢
    have hv : ∀ t ∈ ts ++ [x], validT t = true := fun t ht => by
      rw [List.mem_append, List.mem_singleton] at ht
      rcases ht with ht | rfl
      · exact (l2 t ht).1
      · rw [l3]; simp [validT, vText, bs]
    have q := parL_fuel ((ts ++ [x]).length + 1) (ts.length + 2) 0 (ts ++ [x]) (by omega) (by simp)
    rw [q] at h ⊢
    obtain ⟨_, r2⟩ := parL_app (ts.length + 2) 0 ts x (fun t ht => (l2 t ht).2) hx5 (by omega) h
    obtain ⟨r3, _⟩ := r2 rfl
    obtain ⟨L, y, t1, t2, t3, t4, t5⟩ := parL_toks (ts.length + 2) 0 (ts ++ [x]) (by simp) hv h
    rw [r3] at t1
    have hLt : L = ts := by
      have := List.append_inj' t1 (by simp)
      exact this.1.symm
    subst hLt
    exact ⟨L, x, rfl, hx5, l2, t3, t4, by have := t5 (by omega); omega, by rw [hz] at l7; exact l7⟩
  · exfalso
    rw [if_neg h0] at e
    unfold parS at h
    rw [e, if_neg h0] at h
    exact h0 h
theorem real_all {ts : List Tk} {x : Tk} (hx : x.k = 5) (h : ∀ t ∈ ts, t.k ≠ 5) : real (ts ++ [x]) = ts := by
  unfold real
  rw [List.filter_append, List.filter_eq_self.2 (fun t ht => by simpa using h t ht)]
  simp [List.filter_cons, hx]
/-- THE CANONICAL SOURCE OF A SHORT SOURCE IS NOT TOO LONG -/
theorem parS_lin (s : ByteArray) (hs : s.size ≤ 1500) (h : (parS s).2.1 = 0) : formed (parS s).1 = true ∧ (parS s).1.depth ≤ 8 ∧ (linS (parS s).1 0).length ≤ 65536 := by
  obtain ⟨ts, x, e1, e2, e3, e4, e5, e6, hlen⟩ := parS_toks s (by omega) h
  obtain ⟨j1, _, _, j4⟩ := lexS_again s (by omega) (by rw [e1])
  rw [e1] at j1 j4
  simp only at j1 j4
  have hreal := real_all e2 (fun t ht => (e3 t ht).2)
  have hj : (joinS (ts ++ [x])).1 = jnT ts := by
    unfold joinS at j1 ⊢
    rw [hreal] at j1 ⊢
    split at j1
    · rename_i h1
      rw [if_pos h1]
      split at j1
      · exact absurd j1 (by decide)
      · rename_i h2
        rw [if_neg h2]
    · exact absurd j1 (by decide)
  rw [hj] at j4
  have hsum := jnT_sum ts
  have h1 : sumT (toksC (parS s).1) = sumT ts := by rw [← sumT_zero (toksC (parS s).1), ← e4, sumT_zero]
  have h2 : (toksC (parS s).1).length = ts.length := by
    have := congrArg List.length e4
    simpa using this.symm
  have := lin_len (parS s).1 0 (by omega)
  rw [h1, h2] at this
  exact ⟨e5, e6, by omega⟩
end Go.Proofs.YtohalocbghhenaaGreatDoor
