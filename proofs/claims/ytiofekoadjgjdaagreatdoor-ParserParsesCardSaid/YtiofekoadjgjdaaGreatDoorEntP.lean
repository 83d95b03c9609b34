/- Entries: what one entry behind its word is; the parser's surroundings within a call. -/
import Derived.Test.YtiofekoadjgjdaaGreatDoorParR
import Derived.Test.YtiofekoadjgjdaaGreatDoorNxt
import Derived.Test.YtiofekoadjgjdaaGreatDoorRdC
import Derived.Test.YtiofekoadjgjdaaGreatDoorLex
set_option linter.unusedSimpArgs false
set_option linter.unusedVariables false
namespace Go.Proofs.YtiofekoadjgjdaaGreatDoor
open Go.RowKit

/-- what stands behind the word of an entry: atoms, block, kids, what is behind it, the fault -/
def entR (F o : Nat) (l : List Tk) : List Tk × Bool × Cls × List Tk × Int × Int :=
  match l.dropWhile atmB with
  | [] => ([], false, .nil, [], 2, 0)
  | d :: m =>
    if sgn d 59 then (l.takeWhile atmB, false, .nil, m, 0, 0)
    else if sgn d 123 = false then ([], false, .nil, [], 2, d.a)
    else if o = 8 then ([], false, .nil, [], 6, d.a)
    else if (parL F (o + 1) m).2.2.1 = 0 then (l.takeWhile atmB, true, (parL F (o + 1) m).1, (parL F (o + 1) m).2.1, 0, 0)
    else ([], false, .nil, [], (parL F (o + 1) m).2.2)
theorem entR_at {F o : Nat} {xs m : List Tk} {d : Tk} (h : ∀ x ∈ xs, atmB x = true) (hd : atmB d = false) :
    entR F o (xs ++ d :: m) = if sgn d 59 then (xs, false, .nil, m, 0, 0)
    else if sgn d 123 = false then ([], false, .nil, [], 2, d.a)
    else if o = 8 then ([], false, .nil, [], 6, d.a)
    else if (parL F (o + 1) m).2.2.1 = 0 then (xs, true, (parL F (o + 1) m).1, (parL F (o + 1) m).2.1, 0, 0)
    else ([], false, .nil, [], (parL F (o + 1) m).2.2) := by
  obtain ⟨e1, e2⟩ := tw_all (m := m) h hd
  unfold entR
  rw [e1, e2]
theorem parL_word {F o : Nat} {t : Tk} {l : List Tk} (h : (t :: l).length < F) (he : endsB o t = false) (hk : t.k = 1) :
    parL F o (t :: l) = if (entR F o l).2.2.2.2.1 = 0 then consR t (entR F o l).1 (entR F o l).2.1 (entR F o l).2.2.1 (parL F o (entR F o l).2.2.2.1) else (.nil, [], (entR F o l).2.2.2.2) := by
  match F, h with
  | F + 1, h =>
    simp only [List.length_cons] at h
    unfold entR
    rcases dw_cases l with ⟨d, m, hd, hl, hda⟩ | hd
    · have hm := dw_len hd
      have e1 := parL_fuel F (F + 1) o m (by omega) (by omega)
      have e2 := parL_fuel F (F + 1) (o + 1) m (by omega) (by omega)
      have hlr := parL_le (F + 1) (o + 1) m
      have e3 := parL_fuel F (F + 1) o (parL (F + 1) (o + 1) m).2.1 (by omega) (by omega)
      rw [hd]
      simp only
      by_cases h5 : sgn d 59 = true
      · rw [parL_semi he hk hd h5, h5, e1]
        simp
      · have h5 : sgn d 59 = false := by simpa using h5
        by_cases h1 : sgn d 123 = true
        · by_cases h8 : o = 8
          · subst h8
            rw [parL]
            rw [if_neg (by rw [he]; simp), if_neg (by simp [hk]), hd]
            simp [h5, h1]
          · by_cases h0 : (parL (F + 1) (o + 1) m).2.2.1 = 0
            · rw [parL_block he hk hd h5 h1 h8 (by rw [e2]; exact h0), e2, e3]
              simp [h5, h1, h8, h0]
            · rw [parL]
              rw [if_neg (by rw [he]; simp), if_neg (by simp [hk]), hd]
              simp [h5, h1, h8, h0, e2]
        · have h1 : sgn d 123 = false := by simpa using h1
          rw [parL]
          rw [if_neg (by rw [he]; simp), if_neg (by simp [hk]), hd]
          simp [h5, h1]
    · have e : parL (F + 1) o (t :: l) = (.nil, [], 2, 0) := by
        rw [parL, if_neg (by rw [he]; simp), if_neg (by simp [hk]), hd]
      rw [e, hd]
      simp
theorem parL_odd {F o : Nat} {t : Tk} {l : List Tk} (h : 0 < F) (he : endsB o t = false) (hk : t.k ≠ 1) : parL F o (t :: l) = (.nil, [], 2, t.a) := by
  match F, h with
  | F + 1, _ =>
    rw [parL]
    rw [if_neg (by rw [he]; simp), if_pos hk]
theorem app_assoc : ∀ (a b c : Cls), (a.app b).app c = a.app (b.app c)
  | .nil, _, _ => rfl
  | .cons _ _ _ _ _ r, b, c => by simp only [Cls.app, app_assoc r b c]
theorem app_nil' : ∀ (c : Cls), c.app .nil = c
  | .nil => rfl
  | .cons _ _ _ _ _ r => by rw [Cls.app, app_nil' r]
theorem comb_snoc {acc : Cls} {t : Tk} {xs : List Tk} {b : Bool} {k : Cls} {q : PR} : comb acc (consR t xs b k q) = comb (acc.app (.cons t.t xs b k t.a .nil)) q := by
  unfold comb consR
  by_cases h : q.2.2.1 = 0
  · simp only [h, if_true]
    rw [app_assoc]
    rfl
  · simp [h]
theorem comb_bad {acc : Cls} {l : List Tk} {x : Int × Int} (h : x.1 ≠ 0) : comb acc (.nil, l, x) = (.nil, [], x) := by
  unfold comb
  rw [if_neg h]
theorem comb_end {acc : Cls} {l : List Tk} : comb acc (.nil, l, 0, 0) = (acc, l, 0, 0) := by
  unfold comb
  rw [if_pos rfl, app_nil']
/-- what ends the reading is in what is left -/
def HasE (l : List Tk) : Prop := ∃ x ∈ l, x.k = 5
theorem HasE.drop {l : List Tk} {L : List Tk} {x : Tk} (h : HasE (L ++ x :: l)) (hL : ∀ y ∈ L, y.k ≠ 5) (hx : x.k ≠ 5) : HasE l := by
  obtain ⟨y, hy, h5⟩ := h
  rw [List.mem_append, List.mem_cons] at hy
  rcases hy with hy | rfl | hy
  · exact absurd h5 (hL y hy)
  · exact absurd h5 hx
  · exact ⟨y, hy, h5⟩
theorem HasE.pos {L : List Tk} {k : Nat} (h : HasE (L.drop k)) : k < L.length := by
  obtain ⟨y, hy, _⟩ := h
  have := List.length_pos_of_mem hy
  rw [List.length_drop] at this
  omega
theorem atm_ne5 {t : Tk} (h : atmB t = true) : t.k ≠ 5 := by
  intro e
  simp [atmB, e] at h
/-- the end stays in what is left behind a good entry -/
theorem parL_hasE : ∀ (f o : Nat) (l : List Tk), 0 < o → HasE l → (parL f o l).2.2.1 = 0 → l.length < f → HasE (parL f o l).2.1
  | 0, _, _, _, _, _, h => by omega
  | f + 1, o, [], _, _, h, _ => absurd h (by simp [parL])
  | f + 1, o, t :: l, ho, hE, h, hf => by
    simp only [List.length_cons] at hf
    rcases parL_inv h with hb | ⟨hb, h1, d, m, hd, hs⟩
    · rw [parL_ends hb]
      refine HasE.drop (L := []) (x := t) hE (by simp) ?_
      intro e
      unfold endsB at hb
      rw [if_neg (by omega), sgn_end e] at hb
      exact absurd hb (by simp)
    · have hm := dw_len hd
      obtain ⟨d', m', hd', hl, hda⟩ | hn := dw_cases l
      rotate_left
      · rw [hd] at hn; exact absurd hn (by simp)
      rw [hd] at hd'
      simp only [List.cons.injEq] at hd'
      obtain ⟨rfl, rfl⟩ := hd'
      have hEl : HasE l := HasE.drop (L := []) (x := t) hE (by simp) (by omega)
      have hEm : sgn d 59 = true ∨ sgn d 123 = true → HasE m := fun hs => by
        rw [hl] at hEl
        refine hEl.drop (fun y hy => atm_ne5 (List.all_eq_true.1 (List.all_takeWhile (p := atmB) (l := l)) y hy)) ?_
        intro e
        rcases hs with hs | hs <;> rw [sgn_end e] at hs <;> exact absurd hs (by simp)
      rcases hs with ⟨h59, hc⟩ | ⟨h59, h123, h8, hc, hc2⟩
      · rw [parL_semi hb h1 hd h59]
        unfold consR
        rw [if_pos hc]
        exact parL_hasE f o m ho (hEm (Or.inl h59)) hc (by omega)
      · have hlr := parL_le f (o + 1) m
        rw [parL_block hb h1 hd h59 h123 h8 hc]
        unfold consR
        rw [if_pos hc2]
        exact parL_hasE f o _ ho (parL_hasE f (o + 1) m (by omega) (hEm (Or.inr h123)) hc (by omega)) hc2 (by omega)
theorem entR_hasE {F o : Nat} {l : List Tk} (hE : HasE l) (h : (entR F o l).2.2.2.2.1 = 0) (hF : l.length < F) : HasE (entR F o l).2.2.2.1 := by
  unfold entR at h ⊢
  rcases dw_cases l with ⟨d, m, hd, hl, hda⟩ | hd
  · have hm := dw_len hd
    have hEm : sgn d 59 = true ∨ sgn d 123 = true → HasE m := fun hs => by
      rw [hl] at hE
      refine hE.drop (fun y hy => atm_ne5 (List.all_eq_true.1 (List.all_takeWhile (p := atmB) (l := l)) y hy)) ?_
      intro e
      rcases hs with hs | hs <;> rw [sgn_end e] at hs <;> exact absurd hs (by simp)
    rw [hd] at h ⊢
    simp only at h ⊢
    by_cases h5 : sgn d 59 = true
    · rw [if_pos h5]; exact hEm (Or.inl h5)
    · rw [if_neg h5] at h ⊢
      by_cases h1 : sgn d 123 = false
      · rw [if_pos h1] at h
        exact absurd h (by simp)
      · rw [if_neg h1] at h ⊢
        by_cases h8 : o = 8
        · rw [if_pos h8] at h
          exact absurd h (by simp)
        · rw [if_neg h8] at h ⊢
          by_cases h0 : (parL F (o + 1) m).2.2.1 = 0
          · rw [if_pos h0]
            exact parL_hasE F (o + 1) m (by omega) (hEm (Or.inr (by simpa using h1))) h0 (by omega)
          · rw [if_neg h0] at h
            exact absurd h h0
  · rw [hd] at h
    exact absurd h (by simp)
/-- what the parser's call sees: what was there is as it was but for the parser's block; the parser, the tokens -/
structure Env (w0 : World) (pb : Nat) (a : Option Addr) (b o len cap : Nat) (L : List Tk) (w : World) (k : Nat) : Prop where
  g : w0.grownBy w (some pb)
  p : PsAt w pb (.slice a len cap) k
  s : SlT w a b o len cap L
  pl : pb < w0.heap.size
  bl : b < w0.heap.size
  ne : b ≠ pb
section
variable {w0 w w' : World} {pb b o len cap k : Nat} {a : Option Addr} {L : List Tk}
theorem SlT.grown {row : Option Nat} (h : SlT w a b o len cap L) (hg : w.grownBy w' row) (hb : b < w.heap.size) (hne : some b ≠ row) : SlT w' a b o len cap L :=
  h.agree hg.size fun _ k => World.cell?_of_block (a := ⟨b, k, none⟩) (hg.block b hb hne)
theorem PsAt.grown {v : Value} {row : Option Nat} (h : PsAt w pb v k) (hg : w.grownBy w' row) (hne : some pb ≠ row) : PsAt w' pb v k :=
  ⟨(World.cell?_of_block (a := ⟨pb, 0, none⟩) (hg.block pb h.lt hne)).trans h.c0, (World.cell?_of_block (a := ⟨pb, 1, none⟩) (hg.block pb h.lt hne)).trans h.c1, fun k => (World.frozen?_of_block (a := ⟨pb, k, none⟩) (hg.block pb h.lt hne)).trans (h.f k), Nat.lt_of_lt_of_le h.lt hg.size⟩
theorem Env.step {row : Option Nat} (h : Env w0 pb a b o len cap L w k) (hg : w.grownBy w' row) (hr : ∀ j, row = some j → w0.heap.size ≤ j) : Env w0 pb a b o len cap L w' k := by
  obtain ⟨h1, h2, h3, h4, h5, h6⟩ := h
  refine ⟨h1.andThen hg (fun j hj => Or.inl (hr j hj)), h2.grown hg ?_, h3.grown hg (Nat.lt_of_lt_of_le h5 h1.size) ?_, h4, h5, h6⟩
  · intro e; have := hr _ e.symm; omega
  · intro e; have := hr _ e.symm; omega
theorem Env.below (h : Env w0 pb a b o len cap L w k) (hb : Below w.heap.size w w') : Env w0 pb a b o len cap L w' k :=
  h.step (grb_below (r := none) hb) (fun j hj => by cases hj)
theorem Env.set (h : Env w0 pb a b o len cap L w k) (q : Addr) (hq : w0.heap.size ≤ q.block) (v : Value) : Env w0 pb a b o len cap L (w.setCell q v) k :=
  h.step (grownBy_set w q v) (fun j hj => by cases hj; exact hq)
theorem Env.moved {k' : Nat} (h : Env w0 pb a b o len cap L w k) (hg : w.grownBy w' (some pb)) (hp : PsAt w' pb (.slice a len cap) k') : Env w0 pb a b o len cap L w' k' := by
  obtain ⟨h1, h2, h3, h4, h5, h6⟩ := h
  exact ⟨h1.andThen hg (fun j hj => Or.inr (by cases hj; rfl)), hp, h3.grown hg (Nat.lt_of_lt_of_le h5 h1.size) (by intro e; exact h6 (by cases e; rfl)), h4, h5, h6⟩
theorem Env.size (h : Env w0 pb a b o len cap L w k) : w0.heap.size ≤ w.heap.size := h.g.size
end
theorem own_form {w : World} {base e z n : Nat} {v : Value} {xs : List Value} (h : w.ownsRow base e z v n xs) : ∃ ao cap, v = .slice ao n cap := by
  rcases h.2 with ⟨rfl, h0⟩ | ⟨g, cap, cur, rfl, _⟩
  · exact ⟨none, 0, by rw [h0]⟩
  · exact ⟨_, cap, rfl⟩
theorem ClAt.grown {w w' : World} {row : Option Nat} {b : Nat} {wd : ByteArray} {va vk : Value} {bl : Bool} {a : Int} (h : ClAt w b wd va bl vk a) (hg : w.grownBy w' row) (hne : some b ≠ row) : ClAt w' b wd va bl vk a :=
  ⟨(World.cell?_of_block (a := ⟨b, 0, none⟩) (hg.block b h.lt hne)).trans h.c0, (World.cell?_of_block (a := ⟨b, 1, none⟩) (hg.block b h.lt hne)).trans h.c1, (World.cell?_of_block (a := ⟨b, 2, none⟩) (hg.block b h.lt hne)).trans h.c2, (World.cell?_of_block (a := ⟨b, 3, none⟩) (hg.block b h.lt hne)).trans h.c3, (World.cell?_of_block (a := ⟨b, 4, none⟩) (hg.block b h.lt hne)).trans h.c4, fun k => (World.frozen?_of_block (a := ⟨b, k, none⟩) (hg.block b h.lt hne)).trans (h.f k), Nat.lt_of_lt_of_le h.lt hg.size⟩
theorem ClAt.other {w : World} {b : Nat} {wd : ByteArray} {va vk : Value} {bl : Bool} {a : Int} (h : ClAt w b wd va bl vk a) (q : Addr) (hq : q.block ≠ b) (u : Value) : ClAt (w.setCell q u) b wd va bl vk a :=
  h.grown (grownBy_set w q u) (by intro e; exact hq (by cases e; rfl))
theorem set_at {w : World} {b k j : Nat} {u v : Value} (hc : w.cell? ⟨b, j, none⟩ = some v) (hk : k ≠ j) : (w.setCell ⟨b, k, none⟩ u).cell? ⟨b, j, none⟩ = some v := by
  rw [World.cell?_setCell_other w ⟨b, k, none⟩ ⟨b, j, none⟩ u (by first | (simp; done) | (simp; exact fun e => hk e.symm) | (simp; omega))]; exact hc
theorem ClAt.set1 {w : World} {b : Nat} {wd : ByteArray} {va vk : Value} {bl : Bool} {a : Int} (h : ClAt w b wd va bl vk a) (u : Value) : ClAt (w.setCell ⟨b, 1, none⟩ u) b wd u bl vk a :=
  ⟨set_at h.c0 (by decide), World.cell?_setCell_same _ _ _ h.c1, set_at h.c2 (by decide), set_at h.c3 (by decide), set_at h.c4 (by decide), fun k => by rw [World.frozen?_setCell]; exact h.f k, by simp; exact h.lt⟩
theorem ClAt.set2 {w : World} {b : Nat} {wd : ByteArray} {va vk : Value} {bl : Bool} {a : Int} (h : ClAt w b wd va bl vk a) (u : Bool) : ClAt (w.setCell ⟨b, 2, none⟩ (.bool u)) b wd va u vk a :=
  ⟨set_at h.c0 (by decide), set_at h.c1 (by decide), World.cell?_setCell_same _ _ _ h.c2, set_at h.c3 (by decide), set_at h.c4 (by decide), fun k => by rw [World.frozen?_setCell]; exact h.f k, by simp; exact h.lt⟩
theorem ClAt.set3 {w : World} {b : Nat} {wd : ByteArray} {va vk : Value} {bl : Bool} {a : Int} (h : ClAt w b wd va bl vk a) (u : Value) : ClAt (w.setCell ⟨b, 3, none⟩ u) b wd va bl u a :=
  ⟨set_at h.c0 (by decide), set_at h.c1 (by decide), set_at h.c2 (by decide), World.cell?_setCell_same _ _ _ h.c3, set_at h.c4 (by decide), fun k => by rw [World.frozen?_setCell]; exact h.f k, by simp; exact h.lt⟩
theorem ClAt.setAll {w : World} {b : Nat} {wd wd' : ByteArray} {va vk va' vk' : Value} {bl bl' : Bool} {a a' : Int} (h : ClAt w b wd va bl vk a) :
    ClAt (((((w.setCell ⟨b, 0, none⟩ (.string wd')).setCell ⟨b, 1, none⟩ va').setCell ⟨b, 2, none⟩ (.bool bl')).setCell ⟨b, 3, none⟩ vk').setCell ⟨b, 4, none⟩ (.int .i64 a')) b wd' va' bl' vk' a' := by
  have h0 : ClAt (w.setCell ⟨b, 0, none⟩ (.string wd')) b wd' va bl vk a := ⟨World.cell?_setCell_same _ _ _ h.c0, set_at h.c1 (by decide), set_at h.c2 (by decide), set_at h.c3 (by decide), set_at h.c4 (by decide), fun k => by rw [World.frozen?_setCell]; exact h.f k, by simp; exact h.lt⟩
  have h3 := ((h0.set1 va').set2 bl').set3 vk'
  exact ⟨set_at h3.c0 (by decide), set_at h3.c1 (by decide), set_at h3.c2 (by decide), set_at h3.c3 (by decide), World.cell?_setCell_same _ _ _ h3.c4, fun k => by rw [World.frozen?_setCell]; exact h3.f k, by simp; exact h.lt⟩
theorem FtAt.setAll {w : World} {b : Nat} {c a c' a' : Int} (h : FtAt w b c a) : FtAt ((w.setCell ⟨b, 0, none⟩ (.int .i64 c')).setCell ⟨b, 1, none⟩ (.int .i64 a')) b c' a' := by
  have h0 : FtAt (w.setCell ⟨b, 0, none⟩ (.int .i64 c')) b c' a := ⟨World.cell?_setCell_same _ _ _ h.c0, set_at h.c1 (by decide), fun k => by rw [World.frozen?_setCell]; exact h.f k, by simp; exact h.lt⟩
  exact ⟨set_at h0.c0 (by decide), World.cell?_setCell_same _ _ _ h0.c1, fun k => by rw [World.frozen?_setCell]; exact h0.f k, by simp; exact h.lt⟩
theorem TkAt.setAll {w : World} {b : Nat} {t : Tk} (h : TkAt w b t) (t' : Tk) :
    TkAt ((((w.setCell ⟨b, 0, none⟩ (.int .i64 t'.k)).setCell ⟨b, 1, none⟩ (.string t'.t)).setCell ⟨b, 2, none⟩ (.int .i64 t'.n)).setCell ⟨b, 3, none⟩ (.int .i64 t'.a)) b t' := by
  obtain ⟨c0, c1, c2, c3, f, l⟩ := h
  refine ⟨?_, ?_, ?_, ?_, fun k => ?_, ?_⟩
  · exact set_at (set_at (set_at (World.cell?_setCell_same _ _ _ c0) (by decide)) (by decide)) (by decide)
  · exact set_at (set_at (World.cell?_setCell_same _ _ _ (set_at c1 (by decide))) (by decide)) (by decide)
  · exact set_at (World.cell?_setCell_same _ _ _ (set_at (set_at c2 (by decide)) (by decide))) (by decide)
  · exact World.cell?_setCell_same _ _ _ (set_at (set_at (set_at c3 (by decide)) (by decide)) (by decide))
  · simp only [World.frozen?_setCell]; exact f k
  · simp; exact l
end Go.Proofs.YtiofekoadjgjdaaGreatDoor
