/- Entries: what one entry behind its word is; the parser's surroundings within a call. -/
import Derived.Test.YtohalocbghhenaaGreatDoorParZ
import Derived.Test.YtohalocbghhenaaGreatDoorNxt
import Derived.Test.YtohalocbghhenaaGreatDoorRdC
import Derived.Test.YtohalocbghhenaaGreatDoorLex
import Derived.Test.YtohalocbghhenaaGreatDoorAtom
set_option linter.unusedSimpArgs false
set_option linter.unusedVariables false
namespace Go.Proofs.YtohalocbghhenaaGreatDoor
open Go.RowKit

/-- what stands behind the word of an entry: atoms, block, kids, what is behind it, the fault -/
def entR (F o : Nat) (l : List Tk) : List Tk × Bool × Cls × List Tk × Int × Int :=
  match l.dropWhile atmB with
  | [] => ([], false, .nil, [], 2, 0)
  | d :: m =>
    if sgn d 59 then (l.takeWhile atmB, false, .nil, m, 0, 0)
    else if sgn d 123 = false then ([], false, .nil, [], 2, d.a)
    else if o = 8 then ([], false, .nil, [], 6, d.a)
    else if (parL F (o + 1) m).2.2.1 = 0 then (l.takeWhile atmB, true, (parL F (o + 1) m).1, (parL F (o + 1) m).2.1, 0, 0)
    else ([], false, .nil, [], (parL F (o + 1) m).2.2)
theorem entR_at {F o : Nat} {xs m : List Tk} {d : Tk} (h : ∀ x ∈ xs, atmB x = true) (hd : atmB d = false) :
    entR F o (xs ++ d :: m) = if sgn d 59 then (xs, false, .nil, m, 0, 0)
    else if sgn d 123 = false then ([], false, .nil, [], 2, d.a)
    else if o = 8 then ([], false, .nil, [], 6, d.a)
    else if (parL F (o + 1) m).2.2.1 = 0 then (xs, true, (parL F (o + 1) m).1, (parL F (o + 1) m).2.1, 0, 0)
    else ([], false, .nil, [], (parL F (o + 1) m).2.2) := by
  obtain ⟨e1, e2⟩ := tw_all (m := m) h hd
  unfold entR
  rw [e1, e2]
theorem parL_word {F o : Nat} {t : Tk} {l : List Tk} (h : (t :: l).length < F) (he : endsB o t = false) (hk : t.k = 1) :
    parL F o (t :: l) = if (entR F o l).2.2.2.2.1 = 0 then consR t (entR F o l).1 (entR F o l).2.1 (entR F o l).2.2.1 (parL F o (entR F o l).2.2.2.1) else (.nil, [], (entR F o l).2.2.2.2) := by
  match F, h with
  | F + 1, h =>
    simp only [List.length_cons] at h
    unfold entR
    rcases dw_cases l with ⟨d, m, hd, hl, hda⟩ | hd
    · have hm := dw_len hd
      have e1 := parL_fuel F (F + 1) o m (by omega) (by omega)
      have e2 := parL_fuel F (F + 1) (o + 1) m (by omega) (by omega)
      have hlr := parL_le (F + 1) (o + 1) m
      have e3 := parL_fuel F (F + 1) o (parL (F + 1) (o + 1) m).2.1 (by omega) (by omega)
      rw [hd]
      simp only
      by_cases h5 : sgn d 59 = true
      · rw [parL_semi he hk hd h5, h5, e1]
        simp
      · have h5 : sgn d 59 = false := by simpa using h5
        by_cases h1 : sgn d 123 = true
        · by_cases h8 : o = 8
          · subst h8
            rw [parL]
            rw [if_neg (by rw [he]; simp), if_neg (by simp [hk]), hd]
            simp [h5, h1]
          · by_cases h0 : (parL (F + 1) (o + 1) m).2.2.1 = 0
            · rw [parL_block he hk hd h5 h1 h8 (by rw [e2]; exact h0), e2, e3]
              simp [h5, h1, h8, h0]
            · rw [parL]
              rw [if_neg (by rw [he]; simp), if_neg (by simp [hk]), hd]
              simp [h5, h1, h8, h0, e2]
        · have h1 : sgn d 123 = false := by simpa using h1
          rw [parL]
          rw [if_neg (by rw [he]; simp), if_neg (by simp [hk]), hd]
          simp [h5, h1]
    · have e : parL (F + 1) o (t :: l) = (.nil, [], 2, 0) := by
        rw [parL, if_neg (by rw [he]; simp), if_neg (by simp [hk]), hd]
      rw [e, hd]
      simp
theorem parL_odd {F o : Nat} {t : Tk} {l : List Tk} (h : 0 < F) (he : endsB o t = false) (hk : t.k ≠ 1) : parL F o (t :: l) = (.nil, [], 2, t.a) := by
  match F, h with
  | F + 1, _ =>
    rw [parL]
    rw [if_neg (by rw [he]; simp), if_pos hk]
theorem app_assoc : ∀ (a b c : Cls), (a.app b).app c = a.app (b.app c)
  | .nil, _, _ => rfl
  | .cons _ _ _ _ _ r, b, c => by simp only [Cls.app, app_assoc r b c]
theorem app_nil' : ∀ (c : Cls), c.app .nil = c
  | .nil => rfl
  | .cons _ _ _ _ _ r => by rw [Cls.app, app_nil' r]
theorem comb_snoc {acc : Cls} {t : Tk} {xs : List Tk} {b : Bool} {k : Cls} {q : PR} : comb acc (consR t xs b k q) = comb (acc.app (.cons t.t xs b k t.a .nil)) q := by
  unfold comb consR
  by_cases h : q.2.2.1 = 0
  · simp only [h, if_true]
    rw [app_assoc]
    rfl
  · simp [h]
theorem comb_bad {acc : Cls} {l : List Tk} {x : Int × Int} (h : x.1 ≠ 0) : comb acc (.nil, l, x) = (.nil, [], x) := by
  unfold comb
  rw [if_neg h]
theorem comb_end {acc : Cls} {l : List Tk} : comb acc (.nil, l, 0, 0) = (acc, l, 0, 0) := by
  unfold comb
  rw [if_pos rfl, app_nil']
/-- what ends the reading is in what is left -/
def HasE (l : List Tk) : Prop := ∃ x ∈ l, x.k = 5
theorem HasE.drop {l : List Tk} {L : List Tk} {x : Tk} (h : HasE (L ++ x :: l)) (hL : ∀ y ∈ L, y.k ≠ 5) (hx : x.k ≠ 5) : HasE l := by
  obtain ⟨y, hy, h5⟩ := h
  rw [List.mem_append, List.mem_cons] at hy
  rcases hy with hy | rfl | hy
  · exact absurd h5 (hL y hy)
  · exact absurd h5 hx
  · exact ⟨y, hy, h5⟩
theorem HasE.pos {L : List Tk} {k : Nat} (h : HasE (L.drop k)) : k < L.length := by
  obtain ⟨y, hy, _⟩ := h
  have := List.length_pos_of_mem hy
  rw [List.length_drop] at this
  omega
theorem atm_ne5 {t : Tk} (h : atmB t = true) : t.k ≠ 5 := by
  intro e
  simp [atmB, e] at h
/-- the end stays in what is left behind a good entry -/
theorem parL_hasE : ∀ (f o : Nat) (l : List Tk), 0 < o → HasE l → (parL f o l).2.2.1 = 0 → l.length < f → HasE (parL f o l).2.1
  | 0, _, _, _, _, _, h => by omega
  | f + 1, o, [], _, _, h, _ => absurd h (by simp [parL])
  | f + 1, o, t :: l, ho, hE, h, hf => by
    simp only [List.length_cons] at hf
    rcases parL_inv h with hb | ⟨hb, h1, d, m, hd, hs⟩
    · rw [parL_ends hb]
      refine HasE.drop (L := []) (x := t) hE (by simp) ?_
      intro e
      unfold endsB at hb
      rw [if_neg (by omega), sgn_end e] at hb
      exact absurd hb (by simp)
    · have hm := dw_len hd
      obtain ⟨d', m', hd', hl, hda⟩ | hn := dw_cases l
      rotate_left
      · rw [hd] at hn; exact absurd hn (by simp)
      rw [hd] at hd'
      simp only [List.cons.injEq] at hd'
      obtain ⟨rfl, rfl⟩ := hd'
      have hEl : HasE l := HasE.drop (L := []) (x := t) hE (by simp) (by omega)
      have hEm : sgn d 59 = true ∨ sgn d 123 = true → HasE m := fun hs => by
        rw [hl] at hEl
        refine hEl.drop (fun y hy => atm_ne5 (List.all_eq_true.1 (List.all_takeWhile (p := atmB) (l := l)) y hy)) ?_
        intro e
        rcases hs with hs | hs <;> rw [sgn_end e] at hs <;> exact absurd hs (by simp)
      rcases hs with ⟨h59, hc⟩ | ⟨h59, h123, h8, hc, hc2⟩
      · rw [parL_semi hb h1 hd h59]
        unfold consR
        rw [if_pos hc]
        exact parL_hasE f o m ho (hEm (Or.inl h59)) hc (by omega)
      · have hlr := parL_le f (o + 1) m
        rw [parL_block hb h1 hd h59 h123 h8 hc]
        unfold consR
        rw [if_pos hc2]
        exact parL_hasE f o _ ho (parL_hasE f (o + 1) m (by omega) (hEm (Or.inr h123)) hc (by omega)) hc2 (by omega)
theorem entR_hasE {F o : Nat} {l : List Tk} (hE : HasE l) (h : (entR F o l).2.2.2.2.1 = 0) (hF : l.length < F) : HasE (entR F o l).2.2.2.1 := by
  unfold entR at h ⊢
  rcases dw_cases l with ⟨d, m, hd, hl, hda⟩ | hd
  · have hm := dw_len hd
    have hEm : sgn d 59 = true ∨ sgn d 123 = true → HasE m := fun hs => by
      rw [hl] at hE
      refine hE.drop (fun y hy => atm_ne5 (List.all_eq_true.1 (List.all_takeWhile (p := atmB) (l := l)) y hy)) ?_
      intro e
      rcases hs with hs | hs <;> rw [sgn_end e] at hs <;> exact absurd hs (by simp)
    rw [hd] at h ⊢
    simp only at h ⊢
    by_cases h5 : sgn d 59 = true
    · rw [if_pos h5]; exact hEm (Or.inl h5)
    · rw [if_neg h5] at h ⊢
      by_cases h1 : sgn d 123 = false
      · rw [if_pos h1] at h
        exact absurd h (by simp)
      · rw [if_neg h1] at h ⊢
        by_cases h8 : o = 8
        · rw [if_pos h8] at h
          exact absurd h (by simp)
        · rw [if_neg h8] at h ⊢
          by_cases h0 : (parL F (o + 1) m).2.2.1 = 0
          · rw [if_pos h0]
            exact parL_hasE F (o + 1) m (by omega) (hEm (Or.inr (by simpa using h1))) h0 (by omega)
          · rw [if_neg h0] at h
            exact absurd h h0
  · rw [hd] at h
    exact absurd h (by simp)
/-- what the parser's call sees: what was there is as it was but for the parser's block; the parser, the tokens -/
structure Env (w0 : World) (pb : Nat) (a : Option Addr) (b o len cap : Nat) (L : List Tk) (w : World) (k : Nat) : Prop where
  g : w0.grownBy w (some pb)
  p : PsAt w pb (.slice a len cap) k
  s : SlT w a b o len cap L
  pl : pb < w0.heap.size
  bl : b < w0.heap.size
  ne : b ≠ pb
section
variable {w0 w w' : World} {pb b o len cap k : Nat} {a : Option Addr} {L : List Tk}
theorem SlT.grown {row : Option Nat} (h : SlT w a b o len cap L) (hg : w.grownBy w' row) (hb : b < w.heap.size) (hne : some b ≠ row) : SlT w' a b o len cap L :=
  h.agree hg.size fun _ k => World.cell?_of_block (a := ⟨b, k, none⟩) (hg.block b hb hne)
theorem PsAt.grown {v : Value} {row : Option Nat} (h : PsAt w pb v k) (hg : w.grownBy w' row) (hne : some pb ≠ row) : PsAt w' pb v k :=
  ⟨(World.cell?_of_block (a := ⟨pb, 0, none⟩) (hg.block pb h.lt hne)).trans h.c0, (World.cell?_of_block (a := ⟨pb, 1, none⟩) (hg.block pb h.lt hne)).trans h.c1, fun k => (World.frozen?_of_block (a := ⟨pb, k, none⟩) (hg.block pb h.lt hne)).trans (h.f k), Nat.lt_of_lt_of_le h.lt hg.size⟩
theorem Env.step {row : Option Nat} (h : Env w0 pb a b o len cap L w k) (hg : w.grownBy w' row) (hr : ∀ j, row = some j → w0.heap.size ≤ j) : Env w0 pb a b o len cap L w' k := by
  obtain ⟨h1, h2, h3, h4, h5, h6⟩ := h
  refine ⟨h1.andThen hg (fun j hj => Or.inl (hr j hj)), h2.grown hg ?_, h3.grown hg (Nat.lt_of_lt_of_le h5 h1.size) ?_, h4, h5, h6⟩
  · intro e; have := hr _ e.symm; omega
  · intro e; have := hr _ e.symm; omega
theorem Env.below (h : Env w0 pb a b o len cap L w k) (hb : Below w.heap.size w w') : Env w0 pb a b o len cap L w' k :=
  h.step (grb_below (r := none) hb) (fun j hj => by cases hj)
theorem Env.set (h : Env w0 pb a b o len cap L w k) (q : Addr) (hq : w0.heap.size ≤ q.block) (v : Value) : Env w0 pb a b o len cap L (w.setCell q v) k :=
  h.step (grownBy_set w q v) (fun j hj => by cases hj; exact hq)
theorem Env.moved {k' : Nat} (h : Env w0 pb a b o len cap L w k) (hg : w.grownBy w' (some pb)) (hp : PsAt w' pb (.slice a len cap) k') : Env w0 pb a b o len cap L w' k' := by
  obtain ⟨h1, h2, h3, h4, h5, h6⟩ := h
  exact ⟨h1.andThen hg (fun j hj => Or.inr (by cases hj; rfl)), hp, h3.grown hg (Nat.lt_of_lt_of_le h5 h1.size) (by intro e; exact h6 (by cases e; rfl)), h4, h5, h6⟩
theorem Env.size (h : Env w0 pb a b o len cap L w k) : w0.heap.size ≤ w.heap.size := h.g.size
end
theorem own_form {w : World} {base e z n : Nat} {v : Value} {xs : List Value} (h : w.ownsRow base e z v n xs) : ∃ ao cap, v = .slice ao n cap := by
  rcases h.2 with ⟨rfl, h0⟩ | ⟨g, cap, cur, rfl, _⟩
  · exact ⟨none, 0, by rw [h0]⟩
  · exact ⟨_, cap, rfl⟩
theorem ClAt.grown {w w' : World} {row : Option Nat} {b : Nat} {wd : ByteArray} {va vk : Value} {bl : Bool} {a : Int} (h : ClAt w b wd va bl vk a) (hg : w.grownBy w' row) (hne : some b ≠ row) : ClAt w' b wd va bl vk a :=
  ⟨(World.cell?_of_block (a := ⟨b, 0, none⟩) (hg.block b h.lt hne)).trans h.c0, (World.cell?_of_block (a := ⟨b, 1, none⟩) (hg.block b h.lt hne)).trans h.c1, (World.cell?_of_block (a := ⟨b, 2, none⟩) (hg.block b h.lt hne)).trans h.c2, (World.cell?_of_block (a := ⟨b, 3, none⟩) (hg.block b h.lt hne)).trans h.c3, (World.cell?_of_block (a := ⟨b, 4, none⟩) (hg.block b h.lt hne)).trans h.c4, fun k => (World.frozen?_of_block (a := ⟨b, k, none⟩) (hg.block b h.lt hne)).trans (h.f k), Nat.lt_of_lt_of_le h.lt hg.size⟩
theorem ClAt.other {w : World} {b : Nat} {wd : ByteArray} {va vk : Value} {bl : Bool} {a : Int} (h : ClAt w b wd va bl vk a) (q : Addr) (hq : q.block ≠ b) (u : Value) : ClAt (w.setCell q u) b wd va bl vk a :=
  h.grown (grownBy_set w q u) (by intro e; exact hq (by cases e; rfl))
theorem set_at {w : World} {b k j : Nat} {u v : Value} (hc : w.cell? ⟨b, j, none⟩ = some v) (hk : k ≠ j) : (w.setCell ⟨b, k, none⟩ u).cell? ⟨b, j, none⟩ = some v := by
  rw [World.cell?_setCell_other w ⟨b, k, none⟩ ⟨b, j, none⟩ u (by first | (simp; done) | (simp; exact fun e => hk e.symm) | (simp; omega))]; exact hc
theorem ClAt.set1 {w : World} {b : Nat} {wd : ByteArray} {va vk : Value} {bl : Bool} {a : Int} (h : ClAt w b wd va bl vk a) (u : Value) : ClAt (w.setCell ⟨b, 1, none⟩ u) b wd u bl vk a :=
  ⟨set_at h.c0 (by decide), World.cell?_setCell_same _ _ _ h.c1, set_at h.c2 (by decide), set_at h.c3 (by decide), set_at h.c4 (by decide), fun k => by rw [World.frozen?_setCell]; exact h.f k, by simp; exact h.lt⟩
theorem ClAt.set2 {w : World} {b : Nat} {wd : ByteArray} {va vk : Value} {bl : Bool} {a : Int} (h : ClAt w b wd va bl vk a) (u : Bool) : ClAt (w.setCell ⟨b, 2, none⟩ (.bool u)) b wd va u vk a :=
  ⟨set_at h.c0 (by decide), set_at h.c1 (by decide), World.cell?_setCell_same _ _ _ h.c2, set_at h.c3 (by decide), set_at h.c4 (by decide), fun k => by rw [World.frozen?_setCell]; exact h.f k, by simp; exact h.lt⟩
theorem ClAt.set3 {w : World} {b : Nat} {wd : ByteArray} {va vk : Value} {bl : Bool} {a : Int} (h : ClAt w b wd va bl vk a) (u : Value) : ClAt (w.setCell ⟨b, 3, none⟩ u) b wd va bl u a :=
  ⟨set_at h.c0 (by decide), set_at h.c1 (by decide), set_at h.c2 (by decide), World.cell?_setCell_same _ _ _ h.c3, set_at h.c4 (by decide), fun k => by rw [World.frozen?_setCell]; exact h.f k, by simp; exact h.lt⟩
theorem ClAt.setAll {w : World} {b : Nat} {wd wd' : ByteArray} {va vk va' vk' : Value} {bl bl' : Bool} {a a' : Int} (h : ClAt w b wd va bl vk a) :
    ClAt (((((w.setCell ⟨b, 0, none⟩ (.string wd')).setCell ⟨b, 1, none⟩ va').setCell ⟨b, 2, none⟩ (.bool bl')).setCell ⟨b, 3, none⟩ vk').setCell ⟨b, 4, none⟩ (.int .i64 a')) b wd' va' bl' vk' a' := by
  have h0 : ClAt (w.setCell ⟨b, 0, none⟩ (.string wd')) b wd' va bl vk a := ⟨World.cell?_setCell_same _ _ _ h.c0, set_at h.c1 (by decide), set_at h.c2 (by decide), set_at h.c3 (by decide), set_at h.c4 (by decide), fun k => by rw [World.frozen?_setCell]; exact h.f k, by simp; exact h.lt⟩
  have h3 := ((h0.set1 va').set2 bl').set3 vk'
  exact ⟨set_at h3.c0 (by decide), set_at h3.c1 (by decide), set_at h3.c2 (by decide), set_at h3.c3 (by decide), World.cell?_setCell_same _ _ _ h3.c4, fun k => by rw [World.frozen?_setCell]; exact h3.f k, by simp; exact h.lt⟩
theorem FtAt.setAll {w : World} {b : Nat} {c a c' a' : Int} (h : FtAt w b c a) : FtAt ((w.setCell ⟨b, 0, none⟩ (.int .i64 c')).setCell ⟨b, 1, none⟩ (.int .i64 a')) b c' a' := by
  have h0 : FtAt (w.setCell ⟨b, 0, none⟩ (.int .i64 c')) b c' a := ⟨World.cell?_setCell_same _ _ _ h.c0, set_at h.c1 (by decide), fun k => by rw [World.frozen?_setCell]; exact h.f k, by simp; exact h.lt⟩
  exact ⟨set_at h0.c0 (by decide), World.cell?_setCell_same _ _ _ h0.c1, fun k => by rw [World.frozen?_setCell]; exact h0.f k, by simp; exact h.lt⟩
theorem TkAt.setAll {w : World} {b : Nat} {t : Tk} (h : TkAt w b t) (t' : Tk) :
    TkAt ((((w.setCell ⟨b, 0, none⟩ (.int .i64 t'.k)).setCell ⟨b, 1, none⟩ (.string t'.t)).setCell ⟨b, 2, none⟩ (.int .i64 t'.n)).setCell ⟨b, 3, none⟩ (.int .i64 t'.a)) b t' := by
  obtain ⟨c0, c1, c2, c3, f, l⟩ := h
  refine ⟨?_, ?_, ?_, ?_, fun k => ?_, ?_⟩
  · exact set_at (set_at (set_at (World.cell?_setCell_same _ _ _ c0) (by decide)) (by decide)) (by decide)
  · exact set_at (set_at (World.cell?_setCell_same _ _ _ (set_at c1 (by decide))) (by decide)) (by decide)
  · exact set_at (World.cell?_setCell_same _ _ _ (set_at (set_at c2 (by decide)) (by decide))) (by decide)
  · exact World.cell?_setCell_same _ _ _ (set_at (set_at (set_at c3 (by decide)) (by decide)) (by decide))
  · simp only [World.frozen?_setCell]; exact f k
  · simp; exact l
end Go.Proofs.YtohalocbghhenaaGreatDoor
/- Contract of layer 10: the closure ends within entries. -/
namespace Go.Proofs.YtohalocbghhenaaGreatDoor
open Go.RowKit

set_option maxHeartbeats 4000000 in
set_option maxRecDepth 100000 in
theorem ends_any (t : Tk) (w : World) (ob o : Nat) (ho : o ≤ 1000000) (hob : w.cell? ⟨ob, 0, none⟩ = some (.int .i64 (o : Int))) (hlt : ob < w.heap.size) :
    Calls Tryz.prog 71 #[t.val, .pointer (some ⟨ob, 0, none⟩)] w fun e w' => e = .returned (.bool (endsB o t)) ∧ Below w.heap.size w w' := by
  have HS := Lib.hid (fun x W => isSign_any t x W)
  have H3 := Lib.hid (sgnS_bs t 125)
  unfold bs at H3
  unfold endsB
  have HO := Lib.hid hob
  clear hob
  obtain ⟨k, s, n, a⟩ := t
  simp only [Tk.val] at HS ⊢
  by_cases h : o = 0
  · subst h
    have c := HO.out
    go_enter Tryz.func71, Tryz.ntmps71
    go_wp2_with fail
    go_ret
    exact ⟨ret_bool (by first | rfl | (simp; done)), (by repeat (first | with_reducible exact Below.refl _ _ | (with_reducible refine Below.setCell ?_ (by first | exact Nat.le_refl _ | omega | (simp; done) | (simp; omega)) _) | (with_reducible refine Below.alloc ?_ (by first | exact Nat.le_refl _ | omega | (simp; done) | (simp; omega)) _) | with_reducible refine Below.drew ?_ | with_reducible refine bel_drewN ?_ _ | (with_reducible refine bel_by (by with_reducible assumption) (by first | exact Nat.le_refl _ | omega | (simp; done) | (simp; omega)) ?_)))⟩
  · have h0 : ((o : Int) == 0) = false := by simp; omega
    have h1 : ¬ (o : Int) = 0 := by omega
    have c := HO.out
    rw [if_neg h]
    go_enter Tryz.func71, Tryz.ntmps71
    go_wp2_with fail
    have HK := Lib.hid (tk_new w ⟨k, s, n, a⟩ 51)
    obtain ⟨c0, c1, c2, c3, cf, cl⟩ := HK.out
    go_wp2_with fail
    refine (HS.out _ _).mono ?_
    rintro e w1 ⟨rfl, hb1⟩
    rw [H3.out]
    go_wp2_with fail
    go_ret
    exact ⟨rfl, (by repeat (first | with_reducible exact Below.refl _ _ | (with_reducible refine Below.setCell ?_ (by first | exact Nat.le_refl _ | omega | (simp; done) | (simp; omega)) _) | (with_reducible refine Below.alloc ?_ (by first | exact Nat.le_refl _ | omega | (simp; done) | (simp; omega)) _) | with_reducible refine Below.drew ?_ | with_reducible refine bel_drewN ?_ _ | (with_reducible refine bel_by (by with_reducible assumption) (by first | exact Nat.le_refl _ | omega | (simp; done) | (simp; omega)) ?_)))⟩
end Go.Proofs.YtohalocbghhenaaGreatDoor
/- Contract of layer 10: an entry behind its word. -/
namespace Go.Proofs.YtohalocbghhenaaGreatDoor
open Go.RowKit

def zeroC : Value := .agg #[.string ⟨#[]⟩, .slice none 0 0, .bool false, .slice none 0 0, .int .i64 0]
/-- what entries gives where fewer tokens are left -/
def EntsC (F : Nat) (L : List Tk) (a : Option Addr) (b o len cap n : Nat) : Prop :=
  ∀ (w : World) (pb k op : Nat), PsAt w pb (.slice a len cap) k → SlT w a b o len cap L → b < w.heap.size → b ≠ pb → HasE (L.drop k) → L.length - k < n → op ≤ 8 →
    Calls Tryz.prog 44 #[.pointer (some ⟨pb, 0, none⟩), .int .i64 (op : Int)] w fun e w' =>
      ∃ v vs k', e = .returned (.tuple #[v, fV (parL F op (L.drop k)).2.2.1 (parL F op (L.drop k)).2.2.2]) ∧ w.grownBy w' (some pb) ∧ PsAt w' pb (.slice a len cap) k' ∧
        w'.ownsRow w.heap.size 25 5 v (parL F op (L.drop k)).1.len vs ∧ RdC w' (fun x => w.heap.size ≤ x ∧ v.ownBlock ≠ some x) vs (parL F op (L.drop k)).1 ∧
        ((parL F op (L.drop k)).2.2.1 = 0 → L.drop k' = (parL F op (L.drop k)).2.1 ∧ k < k')
def EntPost (L : List Tk) (a : Option Addr) (len cap : Nat) (w : World) (pb k : Nat) (t : Tk) (r : List Tk × Bool × Cls × List Tk × Int × Int) (e : Ending) (w' : World) : Prop :=
  ∃ k', w.grownBy w' (some pb) ∧ PsAt w' pb (.slice a len cap) k' ∧
    ((r.2.2.2.2.1 ≠ 0 ∧ e = .returned (.tuple #[zeroC, fV r.2.2.2.2.1 r.2.2.2.2.2])) ∨
     (r.2.2.2.2 = (0, 0) ∧ L.drop k' = r.2.2.2.1 ∧ k < k' ∧ ∃ aa ba oa ca ak bk ok ck,
        e = .returned (.tuple #[.agg #[.string t.t, .slice aa r.1.length ca, .bool r.2.1, .slice ak r.2.2.1.len ck, .int .i64 t.a], fV 0 0]) ∧
        SlT w' aa ba oa r.1.length ca r.1 ∧ (0 < r.1.length → w.heap.size ≤ ba) ∧ SlC w' (fun x => w.heap.size ≤ x) ak bk ok r.2.2.1.len ck r.2.2.1))
def posOf (w : World) (b : Nat) : Nat := match w.cell? ⟨b, 1, none⟩ with
  | some (.int _ z) => z.toNat
  | _ => 0
theorem posOf_eq {w : World} {b k : Nat} {v : Value} (h : PsAt w b v k) : posOf w b = k := by unfold posOf; rw [h.c1]; simp
/-- what the last stores of a call leave: both results, all else as it was -/
theorem fin_ex {w : World} {rb fb : Nat} {wd : ByteArray} {va vk : Value} {bl : Bool} {a c fa : Int} (wd' : ByteArray) (va' vk' : Value) (bl' : Bool) (a' c' fa' : Int) (h : ClAt w rb wd va bl vk a) (hf : FtAt w fb c fa) (hne : rb ≠ fb) :
    ∃ W, ((((((w.setCell ⟨rb, 0, none⟩ (.string wd')).setCell ⟨rb, 1, none⟩ va').setCell ⟨rb, 2, none⟩ (.bool bl')).setCell ⟨rb, 3, none⟩ vk').setCell ⟨rb, 4, none⟩ (.int .i64 a')).setCell ⟨fb, 0, none⟩ (.int .i64 c')).setCell ⟨fb, 1, none⟩ (.int .i64 fa') = W ∧
      ClAt W rb wd' va' bl' vk' a' ∧ FtAt W fb c' fa' ∧ W.heap.size = w.heap.size ∧ (∀ x, x ≠ rb → x ≠ fb → ∀ j, W.cell? ⟨x, j, none⟩ = w.cell? ⟨x, j, none⟩) ∧
      (∀ (w0 : World) (pb : Nat) (ta : Option Addr) (b o len cap : Nat) (L : List Tk) (k : Nat), w0.heap.size ≤ rb → w0.heap.size ≤ fb → Env w0 pb ta b o len cap L w k → Env w0 pb ta b o len cap L W k) := by
  refine ⟨_, rfl, ?_, ?_, by simp, fun x h1 h2 j => ?_, fun w0 pb ta b o len cap L k h1 h2 hE => ?_⟩
  · exact (h.setAll.other ⟨fb, 0, none⟩ (fun e => hne e.symm) _).other ⟨fb, 1, none⟩ (fun e => hne e.symm) _
  · exact (((((hf.other ⟨rb, 0, none⟩ hne _).other ⟨rb, 1, none⟩ hne _).other ⟨rb, 2, none⟩ hne _).other ⟨rb, 3, none⟩ hne _).other ⟨rb, 4, none⟩ hne _).setAll
  · have o : ∀ (W : World) (y i : Nat) (u : Value), x ≠ y → (W.setCell ⟨y, i, none⟩ u).cell? ⟨x, j, none⟩ = W.cell? ⟨x, j, none⟩ := fun W y i u hy => World.cell?_setCell_other W ⟨y, i, none⟩ ⟨x, j, none⟩ u (by simp [hy])
    rw [o _ _ _ _ h2, o _ _ _ _ h2, o _ _ _ _ h1, o _ _ _ _ h1, o _ _ _ _ h1, o _ _ _ _ h1, o _ _ _ _ h1]
  · exact ((((((hE.set _ h1 _).set _ h1 _).set _ h1 _).set _ h1 _).set _ h1 _).set _ h2 _).set _ h2 _
set_option maxHeartbeats 8000000 in
set_option maxRecDepth 100000 in
theorem ent_any (F : Nat) (L : List Tk) (a : Option Addr) (b o len cap n : Nat) (hl : len ≤ 1000000) (IH : Hid (EntsC F L a b o len cap n)) (w : World) (pb k op : Nat) (t : Tk)
    (hP : PsAt w pb (.slice a len cap) k) (hS : SlT w a b o len cap L) (hb : b < w.heap.size) (hne : b ≠ pb) (hE : HasE (L.drop k)) (hn : L.length - k ≤ n) (ho : op ≤ 8) :
    Calls Tryz.prog 74 #[.pointer (some ⟨pb, 0, none⟩), t.val, .int .i64 (op : Int)] w (EntPost L a len cap w pb k t (entR F op (L.drop k))) := by
  have HIA := Lib.hid (fun k t n a W => isAtom_any ⟨k, t, n, a⟩ W)
  have HIS := Lib.hid (fun k t n a x W => isSign_any ⟨k, t, n, a⟩ x W)
  have HNX := Lib.hid (fun W k' x (h : Env w pb a b o len cap L W k') (hk : k' < L.length) (hx : L[k']'hk = x) => hx ▸ pnext_any W pb a b o len cap L k' h.p h.s hk hl)
  simp only [Tk.val] at HIA HIS
  have HE0 := Lib.hid (show Env w pb a b o len cap L w k from ⟨World.grownBy.refl _ _, hP, hS, hP.lt, hb, hne⟩)
  have hkL := hE.pos
  have HL0 := Lib.hid (show L.drop k = L[k]'hkL :: L.drop (k + 1) from List.drop_eq_getElem_cons hkL)
  have HR := Lib.hid (fun xs d m (h : L.drop k = xs ++ d :: m) (h1 : ∀ x ∈ xs, atmB x = true) (h2 : atmB d = false) => (congrArg (entR F op) h).trans (entR_at h1 h2))
  have HHE := Lib.hid hE
  have hpl := hP.lt
  have hLl := hS.hl
  generalize entR F op (L.drop k) = r at *
  clear hP hS hE
  obtain ⟨iz, hi, hz0, hz1, hz2⟩ := info_parts infoT
  obtain ⟨tk, tt, tn, ta⟩ := t
  simp only [Tk.val]
  go_enter Tryz.func74, Tryz.ntmps74
  go_wp2_with fail
  have HB := Lib.hid (show Below w.heap.size w ((((w.alloc (.cells #[.int .i64 tk, .string tt, .int .i64 tn, .int .i64 ta] 51)).alloc (.cells #[.string ⟨#[]⟩, .slice none 0 0, .bool false, .slice none 0 0, .int .i64 0] 25)).alloc (.cells #[.int .i64 0, .int .i64 0] 40)).alloc (.cells #[.string tt, .slice none 0 0, .bool false, .slice none 0 0, .int .i64 ta] 25)) from (by repeat (first | with_reducible exact Below.refl _ _ | (with_reducible refine Below.setCell ?_ (by first | exact Nat.le_refl _ | omega | (simp; done) | (simp; omega)) _) | (with_reducible refine Below.alloc ?_ (by first | exact Nat.le_refl _ | omega | (simp; done) | (simp; omega)) _) | with_reducible refine Below.drew ?_ | with_reducible refine bel_drewN ?_ _ | (with_reducible refine bel_by (by with_reducible assumption) (by first | exact Nat.le_refl _ | omega | (simp; done) | (simp; omega)) ?_))))
  have HRB := Lib.hid (((cl_new (w.alloc (.cells #[.int .i64 tk, .string tt, .int .i64 tn, .int .i64 ta] 51)) ⟨#[]⟩ (.slice none 0 0) (.slice none 0 0) false 0 25).keep ((Below.refl _ _).alloc (Nat.le_refl _) (.cells #[.int .i64 0, .int .i64 0] 40))).keep ((Below.refl _ _).alloc (Nat.le_refl _) (.cells #[.string tt, .slice none 0 0, .bool false, .slice none 0 0, .int .i64 ta] 25)))
  have HFB := Lib.hid ((ft_new ((w.alloc (.cells #[.int .i64 tk, .string tt, .int .i64 tn, .int .i64 ta] 51)).alloc (.cells #[.string ⟨#[]⟩, .slice none 0 0, .bool false, .slice none 0 0, .int .i64 0] 25)) 0 0 40).keep ((Below.refl _ _).alloc (Nat.le_refl _) (.cells #[.string tt, .slice none 0 0, .bool false, .slice none 0 0, .int .i64 ta] 25)))
  have HEB := Lib.hid (cl_new (((w.alloc (.cells #[.int .i64 tk, .string tt, .int .i64 tn, .int .i64 ta] 51)).alloc (.cells #[.string ⟨#[]⟩, .slice none 0 0, .bool false, .slice none 0 0, .int .i64 0] 25)).alloc (.cells #[.int .i64 0, .int .i64 0] 40)) tt (.slice none 0 0) (.slice none 0 0) false ta 25)
  simp only [World.size_alloc] at HRB HFB HEB
  generalize ((((w.alloc (.cells #[.int .i64 tk, .string tt, .int .i64 tn, .int .i64 ta] 51)).alloc (.cells #[.string ⟨#[]⟩, .slice none 0 0, .bool false, .slice none 0 0, .int .i64 0] 25)).alloc (.cells #[.int .i64 0, .int .i64 0] 40)).alloc (.cells #[.string tt, .slice none 0 0, .bool false, .slice none 0 0, .int .i64 ta] 25)) = W0 at *
  have o1 : w.heap.size + 1 + 1 < w.heap.size + 1 + 1 + 1 := Nat.lt_succ_self _
  have o2 : w.heap.size + 1 < w.heap.size + 1 + 1 := Nat.lt_succ_self _
  have o3 : w.heap.size < w.heap.size + 1 := Nat.lt_succ_self _
  generalize w.heap.size + 1 + 1 + 1 = eb at *
  generalize w.heap.size + 1 + 1 = fb at *
  generalize w.heap.size + 1 = rb at *
  have o0 := HEB.out.lt
  have HE1 := Lib.hid (HE0.out.below HB.out)
  clear HE0 HB
  generalize hx : L[k]'hkL = x at *
  have HC := Lib.hid (HNX.out W0 k x HE1.out hkL hx)
  obtain ⟨xk, xt, xn, xa⟩ := x
  simp only [Tk.val] at HC
  clear hx
  refine HC.out.mono ?_
  rintro e w1 ⟨rfl, hg1, hp1⟩
  have HE2 := Lib.hid (HE1.out.moved hg1 hp1)
  have HRB2 := Lib.hid (HRB.out.grown hg1 (by intro e; cases e; omega))
  have HFB2 := Lib.hid (HFB.out.grown hg1 (by intro e; cases e; omega))
  have HEB2 := Lib.hid (HEB.out.grown hg1 (by intro e; cases e; omega))
  have hz1w := hg1.size
  clear hg1 hp1 HC HE1 HRB HFB HEB
  go_wp2_with fail
  have HE3 := Lib.hid (HE2.out.below ((Below.refl _ _).alloc (Nat.le_refl _) (.cells #[.int .i64 xk, .string xt, .int .i64 xn, .int .i64 xa] 51)))
  have HRB3 := Lib.hid (HRB2.out.keep ((Below.refl _ _).alloc (Nat.le_refl _) (.cells #[.int .i64 xk, .string xt, .int .i64 xn, .int .i64 xa] 51)))
  have HFB3 := Lib.hid (HFB2.out.keep ((Below.refl _ _).alloc (Nat.le_refl _) (.cells #[.int .i64 xk, .string xt, .int .i64 xn, .int .i64 xa] 51)))
  have HEB3 := Lib.hid (HEB2.out.keep ((Below.refl _ _).alloc (Nat.le_refl _) (.cells #[.int .i64 xk, .string xt, .int .i64 xn, .int .i64 xa] 51)))
  have HTB3 := Lib.hid (tk_new w1 ⟨xk, xt, xn, xa⟩ 51)
  have hsz3 : w1.heap.size + 1 = (w1.alloc (.cells #[.int .i64 xk, .string xt, .int .i64 xn, .int .i64 xa] 51)).heap.size := by simp
  simp only [Tk.val] at HTB3
  generalize w1.alloc (.cells #[.int .i64 xk, .string xt, .int .i64 xn, .int .i64 xa] 51) = W3 at *
  have htb : eb < w1.heap.size := by omega
  generalize w1.heap.size = tb at *
  clear HE2 HRB2 HFB2 HEB2
  go_loopw [28] (fun _ wr => ∃ (k' : Nat) (xs : List Tk) (x : Tk) (va : Value), k < k' ∧ k' ≤ L.length ∧ xs.length < k' ∧ tb < wr.heap.size ∧ Hid (Env w pb a b o len cap L wr k') ∧ Hid (TkAt wr tb x) ∧ Hid (ClAt wr rb ⟨#[]⟩ (.slice none 0 0) false (.slice none 0 0) 0) ∧ Hid (FtAt wr fb 0 0) ∧ Hid (ClAt wr eb tt va false (.slice none 0 0) ta) ∧ Hid (wr.ownsRow (tb + 1) 51 4 va xs.length (flatT xs)) ∧ Hid (L.drop k = xs ++ x :: L.drop k') ∧ Hid (∀ y ∈ xs, atmB y = true)) (fun _ wr => L.length - posOf wr pb)
  case atStart => exact ⟨k + 1, [], ⟨xk, xt, xn, xa⟩, .slice none 0 0, by omega, by omega, by simp, by omega, HE3, HTB3, HRB3, HFB3, HEB3, Lib.hid (World.ownsRow_nil _ _ _ _), HL0, Lib.hid (by simp)⟩
  case round =>
    obtain ⟨k', xs, x, va, hk1, hk2, hxl, htw, HE, HT, HRB, HFB, HEB, HO, HL, HA⟩ := hrel
    have HPO := Lib.hid (posOf_eq HE.out.p)
    clear HE3 HTB3 HRB3 HFB3 HEB3 HL0 hsz3
    obtain ⟨yk, yt, yn, ya⟩ := x
    obtain ⟨t0, t1, t2, t3, tf, tl⟩ := HT.out
    simp only at t0 t1 t2 t3
    by_cases hat : atmB ⟨yk, yt, yn, ya⟩ = true
    · have HAT := Lib.hid hat
      have hHE := HHE.out
      rw [HL.out] at hHE
      have HHE2 := Lib.hid (hHE.drop (fun y hy => atm_ne5 (HA.out y hy)) (atm_ne5 hat))
      have hkL2 : k' < L.length := HHE2.out.pos
      have HNL := Lib.hid (show L.drop k' = L[k']'hkL2 :: L.drop (k' + 1) from List.drop_eq_getElem_cons hkL2)
      have hmx : xs.length ≤ 1000000 := by omega
      clear hHE HHE2 hat
      go_wp2_with fail
      refine (HIA.out _ _ _ _ _).mono ?_
      rintro e w2 ⟨rfl, hb2⟩
      rw [HAT.out]
      have HE' := Lib.hid (HE.out.below hb2)
      have HT' := Lib.hid (HT.out.keep hb2)
      have HRB' := Lib.hid (HRB.out.keep hb2)
      have HFB' := Lib.hid (HFB.out.keep hb2)
      have HEB' := Lib.hid (HEB.out.keep hb2)
      have HO' := Lib.hid (own_below HO.out hb2)
      have hs2 := hb2.size
      clear t0 t1 t2 t3 tf tl hb2 HE HT HRB HFB HEB HO
      obtain ⟨t0, t1, t2, t3, tf, tl⟩ := HT'.out
      obtain ⟨c0, c1, c2, c3, c4, cf, cl⟩ := HEB'.out
      simp only at t0 t1 t2 t3
      have hce := tk_cells w2 ⟨yk, yt, yn, ya⟩
      have HCE := Lib.hid hce
      clear hce
      have HO2 := Lib.hid (HO'.out.alloc (.cells #[.int .i64 yk, .string yt, .int .i64 yn, .int .i64 ya] 51))
      go_wp2_with (at_builtin; go_loud (refine wpList_append_blk _ rfl _ _ 22 rfl (tb + 1) 51 iz (.agg #[.int .i64 0, .string ⟨#[]⟩, .int .i64 0, .int .i64 0]) 4 40 Tryz.underlying22 hi hz0 hz1 hz2 rfl (by decide) _ _ _ rfl HO2.out ⟨w2.heap.size, 0, none⟩ 1 1 (encT ⟨yk, yt, yn, ya⟩) rfl rfl HCE.out ?n1 ?n2 ?n3 ?n4 (by decide) ?_))
      case n1 => intro u hu; simp only [encT, List.mem_cons, List.not_mem_nil, or_false] at hu; rcases hu with rfl | rfl | rfl | rfl <;> rfl
      case n2 => unfold maxLen; omega
      case n3 => omega
      case n4 => simp; omega
      intro v' w7 ho hg hbk
      obtain ⟨av, cv, rfl⟩ := own_form ho
      have HBA := Lib.hid ((Below.refl w2.heap.size w2).alloc (Nat.le_refl _) (.cells #[.int .i64 yk, .string yt, .int .i64 yn, .int .i64 ya] 51))
      have HOL := Lib.hid (fun g (h : va.ownBlock = some g) => (HO'.out.lt g h).1)
      have HE7 := Lib.hid ((HE'.out.below HBA.out).step hg (fun j hj => by have := HOL.out j hj; omega))
      have HT7 := Lib.hid ((HT'.out.keep HBA.out).grown hg (fun e => by have := HOL.out _ e.symm; omega))
      have HRB7 := Lib.hid ((HRB'.out.keep HBA.out).grown hg (fun e => by have := HOL.out _ e.symm; omega))
      have HFB7 := Lib.hid ((HFB'.out.keep HBA.out).grown hg (fun e => by have := HOL.out _ e.symm; omega))
      have HEB7 := Lib.hid ((HEB'.out.keep HBA.out).grown hg (fun e => by have := HOL.out _ e.symm; omega))
      have hs7 := hg.size
      simp only [World.size_alloc] at hs7
      have HE8 := Lib.hid (HE7.out.set ⟨eb, 1, none⟩ (by show w.heap.size ≤ eb; omega) (.slice av (xs.length + 1) cv))
      have HT8 := Lib.hid (HT7.out.other ⟨eb, 1, none⟩ (by show eb ≠ tb; omega) (.slice av (xs.length + 1) cv))
      have HRB8 := Lib.hid (HRB7.out.other ⟨eb, 1, none⟩ (by show eb ≠ rb; omega) (.slice av (xs.length + 1) cv))
      have HFB8 := Lib.hid (HFB7.out.other ⟨eb, 1, none⟩ (by show eb ≠ fb; omega) (.slice av (xs.length + 1) cv))
      have HEB8 := Lib.hid (HEB7.out.set1 (.slice av (xs.length + 1) cv))
      have HO8 := Lib.hid (ownsRow_setCell_below (a := ⟨eb, 1, none⟩) ho (by show eb < tb + 1; omega) (.slice av (xs.length + 1) cv))
      clear t0 t1 t2 t3 tf tl c0 c1 c2 c3 c4 cf cl ho hg hbk HE' HT' HRB' HFB' HEB' HO' HO2 HCE HBA HE7 HT7 HRB7 HFB7
      obtain ⟨c0, c1, c2, c3, c4, cf, cl⟩ := HEB7.out
      have hsz8 : (w7.setCell ⟨eb, 1, none⟩ (.slice av (xs.length + 1) cv)).heap.size = w7.heap.size := by simp
      go_wp2_with fail
      clear c0 c1 c2 c3 c4 cf cl HEB7
      generalize w7.setCell ⟨eb, 1, none⟩ (.slice av (xs.length + 1) cv) = w8 at *
      generalize hx : L[k']'hkL2 = x at *
      have HC := Lib.hid (HNX.out w8 k' x HE8.out hkL2 hx)
      obtain ⟨zk, zt, zn, za⟩ := x
      simp only [Tk.val] at HC
      clear hx
      refine HC.out.mono ?_
      rintro e w9 ⟨rfl, hg9, hp9⟩
      have HE9 := Lib.hid (HE8.out.moved hg9 hp9)
      have HT9 := Lib.hid (HT8.out.grown hg9 (by intro e; cases e; omega))
      have HRB9 := Lib.hid (HRB8.out.grown hg9 (by intro e; cases e; omega))
      have HFB9 := Lib.hid (HFB8.out.grown hg9 (by intro e; cases e; omega))
      have HEB9 := Lib.hid (HEB8.out.grown hg9 (by intro e; cases e; omega))
      have HO9 := Lib.hid (HO8.out.kept hg9 (by
        by_cases h : (Value.slice av (xs.length + 1) cv).ownBlock = none
        · exact Or.inl h
        · refine Or.inr (fun e => ?_)
          have := (HO8.out.lt _ e).1
          omega))
      have hs9 := hg9.size
      clear hg9 hp9 HC HE8 HT8 HRB8 HFB8 HEB8 HO8
      obtain ⟨t0, t1, t2, t3, tf, tl⟩ := HT9.out
      simp only at t0 t1 t2 t3
      have HTA := Lib.hid (HT9.out.setAll ⟨zk, zt, zn, za⟩)
      have HEA := Lib.hid ((((HE9.out.set ⟨tb, 0, none⟩ (by show w.heap.size ≤ tb; omega) (.int .i64 zk)).set ⟨tb, 1, none⟩ (by show w.heap.size ≤ tb; omega) (.string zt)).set ⟨tb, 2, none⟩ (by show w.heap.size ≤ tb; omega) (.int .i64 zn)).set ⟨tb, 3, none⟩ (by show w.heap.size ≤ tb; omega) (.int .i64 za))
      have HRBA := Lib.hid ((((HRB9.out.other ⟨tb, 0, none⟩ (by show tb ≠ rb; omega) (.int .i64 zk)).other ⟨tb, 1, none⟩ (by show tb ≠ rb; omega) (.string zt)).other ⟨tb, 2, none⟩ (by show tb ≠ rb; omega) (.int .i64 zn)).other ⟨tb, 3, none⟩ (by show tb ≠ rb; omega) (.int .i64 za))
      have HFBA := Lib.hid ((((HFB9.out.other ⟨tb, 0, none⟩ (by show tb ≠ fb; omega) (.int .i64 zk)).other ⟨tb, 1, none⟩ (by show tb ≠ fb; omega) (.string zt)).other ⟨tb, 2, none⟩ (by show tb ≠ fb; omega) (.int .i64 zn)).other ⟨tb, 3, none⟩ (by show tb ≠ fb; omega) (.int .i64 za))
      have HEBA := Lib.hid ((((HEB9.out.other ⟨tb, 0, none⟩ (by show tb ≠ eb; omega) (.int .i64 zk)).other ⟨tb, 1, none⟩ (by show tb ≠ eb; omega) (.string zt)).other ⟨tb, 2, none⟩ (by show tb ≠ eb; omega) (.int .i64 zn)).other ⟨tb, 3, none⟩ (by show tb ≠ eb; omega) (.int .i64 za))
      have HOA := Lib.hid (ownsRow_setCell_below (a := ⟨tb, 3, none⟩) (ownsRow_setCell_below (a := ⟨tb, 2, none⟩) (ownsRow_setCell_below (a := ⟨tb, 1, none⟩) (ownsRow_setCell_below (a := ⟨tb, 0, none⟩) HO9.out (Nat.lt_succ_self _) (.int .i64 zk)) (Nat.lt_succ_self _) (.string zt)) (Nat.lt_succ_self _) (.int .i64 zn)) (Nat.lt_succ_self _) (.int .i64 za))
      simp only at HTA
      have hszA : ((((w9.setCell ⟨tb, 0, none⟩ (.int .i64 zk)).setCell ⟨tb, 1, none⟩ (.string zt)).setCell ⟨tb, 2, none⟩ (.int .i64 zn)).setCell ⟨tb, 3, none⟩ (.int .i64 za)).heap.size = w9.heap.size := by simp
      go_wp2_with fail
      clear t0 t1 t2 t3 tf tl
      generalize (((w9.setCell ⟨tb, 0, none⟩ (.int .i64 zk)).setCell ⟨tb, 1, none⟩ (.string zt)).setCell ⟨tb, 2, none⟩ (.int .i64 zn)).setCell ⟨tb, 3, none⟩ (.int .i64 za) = wA at *
      have HPO2 := Lib.hid (posOf_eq HEA.out.p)
      go_roundw
      case rel =>
        refine ⟨k' + 1, xs ++ [⟨yk, yt, yn, ya⟩], ⟨zk, zt, zn, za⟩, .slice av (xs.length + 1) cv, by omega, by omega, by simp; omega, by omega, HEA, HTA, HRBA, HFBA, HEBA, Lib.hid ?_, Lib.hid ?_, Lib.hid ?_⟩
        · rw [List.length_append, List.length_singleton, flatT_snoc]; exact HOA.out
        · rw [HL.out, HNL.out]; simp
        · intro y hy
          rw [List.mem_append, List.mem_singleton] at hy
          rcases hy with hy | rfl
          · exact HA.out y hy
          · exact HAT.out
      case measure => rw [HPO.out, HPO2.out]; omega
    · have hat : atmB ⟨yk, yt, yn, ya⟩ = false := by simpa using hat
      have HAT := Lib.hid hat
      clear hat
      go_wp2_with fail
      refine (HIA.out _ _ _ _ _).mono ?_
      rintro e w2 ⟨rfl, hb2⟩
      rw [HAT.out]
      have HE' := Lib.hid (HE.out.below hb2)
      have HT' := Lib.hid (HT.out.keep hb2)
      have HRB' := Lib.hid (HRB.out.keep hb2)
      have HFB' := Lib.hid (HFB.out.keep hb2)
      have HEB' := Lib.hid (HEB.out.keep hb2)
      have HO' := Lib.hid (own_below HO.out hb2)
      have hs2 := hb2.size
      have HRR := Lib.hid (HR.out xs ⟨yk, yt, yn, ya⟩ (L.drop k') HL.out HA.out HAT.out)
      have hHE := HHE.out
      rw [HL.out] at hHE
      have HH2 := Lib.hid (fun (h5 : yk ≠ 5) => hHE.drop (fun y hy => atm_ne5 (HA.out y hy)) h5)
      have H59 := Lib.hid (sgnS_bs ⟨yk, yt, yn, ya⟩ 59)
      have H123 := Lib.hid (sgnS_bs ⟨yk, yt, yn, ya⟩ 123)
      unfold bs at H59 H123
      clear t0 t1 t2 t3 tf tl hb2 hHE HE HT HRB HFB HEB HO HIA HNX HR HPO
      obtain ⟨t0, t1, t2, t3, tf, tl⟩ := HT'.out
      simp only at t0 t1 t2 t3
      go_wp2_with fail
      refine (HIS.out _ _ _ _ _ _).mono ?_
      rintro e w3 ⟨rfl, hb3⟩
      rw [H59.out]
      have HE3 := Lib.hid (HE'.out.below hb3)
      have HT3 := Lib.hid (HT'.out.keep hb3)
      have HRB3 := Lib.hid (HRB'.out.keep hb3)
      have HFB3 := Lib.hid (HFB'.out.keep hb3)
      have HEB3 := Lib.hid (HEB'.out.keep hb3)
      have HO3 := Lib.hid (own_below HO'.out hb3)
      have hs3 := hb3.size
      clear t0 t1 t2 t3 tf tl hb3 HE' HT' HRB' HFB' HEB' HO'
      obtain ⟨av, cv, rfl⟩ := own_form HO3.out
      cases h59 : sgn ⟨yk, yt, yn, ya⟩ 59 with
      | true =>
        have hrr := HRR.out
        rw [if_pos h59] at hrr
        have HRR2 := Lib.hid hrr
        clear hrr HRR
        obtain ⟨c0, c1, c2, c3, c4, cf, cl⟩ := HEB3.out
        obtain ⟨r0, r1, r2, r3, r4, rf, rl⟩ := HRB3.out
        obtain ⟨f0, f1, ff, fl⟩ := HFB3.out
        go_wp2_with fail
        obtain ⟨W7, hW7, HRW, HFW, hsW, hcW, hEW⟩ := fin_ex tt (.slice av xs.length cv) (.slice none 0 0) false ta 0 0 HRB3.out HFB3.out (by omega)
        rw [hW7]
        clear hW7 c0 c1 c2 c3 c4 cf cl r0 r1 r2 r3 r4 rf rl f0 f1 ff fl
        obtain ⟨r0, r1, r2, r3, r4, rf, rl⟩ := HRW
        obtain ⟨f0, f1, ff, fl⟩ := HFW
        refine bodyPost_ret (v := .tuple #[.agg #[.string tt, .slice av xs.length cv, .bool false, .slice none 0 0, .int .i64 ta], .agg #[.int .i64 0, .int .i64 0]]) (by simp [results, Tryz.results74, go_sem, r0, r1, r2, r3, r4, rf, rl, f0, f1, ff, fl]) rfl ?_
        rw [HRR2.out]
        obtain ⟨aa, ba, ca, hv, hs⟩ := slt_own HO3.out
        simp only [Value.slice.injEq, true_and] at hv
        obtain ⟨rfl, rfl⟩ := hv
        have hbl : 0 < xs.length → tb + 1 ≤ ba := fun h => (HO3.out.lt ba (by rw [hs.ha h]; rfl)).1
        refine ⟨k', (hEW _ _ _ _ _ _ _ _ _ (by omega) (by omega) HE3.out).g, (hEW _ _ _ _ _ _ _ _ _ (by omega) (by omega) HE3.out).p, Or.inr ⟨rfl, rfl, by omega, _, ba, 0, _, none, 0, 0, 0, rfl, hs.agree (by omega) (fun h j => ?_), fun h => ?_, slC_nil W7 _⟩⟩
        · have := hbl h
          exact hcW ba (by omega) (by omega) j
        · have := hbl h
          omega
      | false =>
        have hrr := HRR.out
        rw [if_neg (by rw [h59]; decide)] at hrr
        have HRR2 := Lib.hid hrr
        clear hrr HRR
        obtain ⟨t0, t1, t2, t3, tf, tl⟩ := HT3.out
        simp only at t0 t1 t2 t3
        go_wp2_with fail
        refine (HIS.out _ _ _ _ _ _).mono ?_
        rintro e w4 ⟨rfl, hb4⟩
        rw [H123.out]
        have HE4 := Lib.hid (HE3.out.below hb4)
        have HT4 := Lib.hid (HT3.out.keep hb4)
        have HRB4 := Lib.hid (HRB3.out.keep hb4)
        have HFB4 := Lib.hid (HFB3.out.keep hb4)
        have HEB4 := Lib.hid (HEB3.out.keep hb4)
        have HO4 := Lib.hid (own_below HO3.out hb4)
        have hs4 := hb4.size
        clear t0 t1 t2 t3 tf tl hb4 HE3 HT3 HRB3 HFB3 HEB3 HO3 HIS H59 H123
        obtain ⟨t0, t1, t2, t3, tf, tl⟩ := HT4.out
        simp only at t0 t1 t2 t3
        cases h123 : sgn ⟨yk, yt, yn, ya⟩ 123 with
        | false =>
          have hrr := HRR2.out
          rw [if_pos h123] at hrr
          have HRR3 := Lib.hid hrr
          clear hrr HRR2
          obtain ⟨r0, r1, r2, r3, r4, rf, rl⟩ := HRB4.out
          obtain ⟨f0, f1, ff, fl⟩ := HFB4.out
          go_wp2_with fail
          go_region
          all_goals
            go_wp2_with fail
            obtain ⟨W7, hW7, HRW, HFW, hsW, hcW, hEW⟩ := fin_ex ⟨#[]⟩ (.slice none 0 0) (.slice none 0 0) false 0 2 ya HRB4.out HFB4.out (by omega)
            rw [hW7]
            clear hW7
            have HEW := hEW _ _ _ _ _ _ _ _ _ (by omega) (by omega) HE4.out
            have HED := HEW.below (w' := W7.drew) ((Below.refl _ _).drew)
            clear r0 r1 r2 r3 r4 rf rl f0 f1 ff fl
            obtain ⟨r0, r1, r2, r3, r4, rf, rl⟩ := HRW
            obtain ⟨f0, f1, ff, fl⟩ := HFW
            refine bodyPost_ret (v := .tuple #[.agg #[.string ⟨#[]⟩, .slice none 0 0, .bool false, .slice none 0 0, .int .i64 0], .agg #[.int .i64 2, .int .i64 ya]]) (by simp [results, Tryz.results74, go_sem, r0, r1, r2, r3, r4, rf, rl, f0, f1, ff, fl]) rfl ?_
            rw [HRR3.out]
            exact ⟨k', HED.g, HED.p, Or.inl ⟨by simp, rfl⟩⟩
        | true =>
          have hrr := HRR2.out
          rw [if_neg (by rw [h123]; decide)] at hrr
          have HRR3 := Lib.hid hrr
          have hy5 : yk ≠ 5 := by
            intro e
            rw [sgn_end (by exact e)] at h123
            exact absurd h123 (by simp)
          have hh2 := HH2.out hy5
          clear hrr HRR2
          by_cases h8 : op = 8
          · subst h8
            have hrr := HRR3.out
            rw [if_pos rfl] at hrr
            have HRR4 := Lib.hid hrr
            clear hrr HRR3 IH
            obtain ⟨r0, r1, r2, r3, r4, rf, rl⟩ := HRB4.out
            obtain ⟨f0, f1, ff, fl⟩ := HFB4.out
            go_wp2_with fail
            go_region
            all_goals
              go_wp2_with fail
              obtain ⟨W7, hW7, HRW, HFW, hsW, hcW, hEW⟩ := fin_ex ⟨#[]⟩ (.slice none 0 0) (.slice none 0 0) false 0 6 ya HRB4.out HFB4.out (by omega)
              rw [hW7]
              clear hW7
              have HEW := hEW _ _ _ _ _ _ _ _ _ (by omega) (by omega) HE4.out
              have HED := HEW.below (w' := W7.drew) ((Below.refl _ _).drew)
              clear r0 r1 r2 r3 r4 rf rl f0 f1 ff fl
              obtain ⟨r0, r1, r2, r3, r4, rf, rl⟩ := HRW
              obtain ⟨f0, f1, ff, fl⟩ := HFW
              refine bodyPost_ret (v := .tuple #[.agg #[.string ⟨#[]⟩, .slice none 0 0, .bool false, .slice none 0 0, .int .i64 0], .agg #[.int .i64 6, .int .i64 ya]]) (by simp [results, Tryz.results74, go_sem, r0, r1, r2, r3, r4, rf, rl, f0, f1, ff, fl]) rfl ?_
              rw [HRR4.out]
              exact ⟨k', HED.g, HED.p, Or.inl ⟨by simp, rfl⟩⟩
          · have h8i : ((op : Int) == 8) = false := by simp; omega
            have h8n : ¬ (op : Int) = 8 := by omega
            have hrr := HRR3.out
            rw [if_neg h8] at hrr
            have HRR4 := Lib.hid hrr
            have hne2 : b ≠ pb := HE4.out.ne
            have hi := IH.out w4 pb k' (op + 1) HE4.out.p HE4.out.s (by have := HE4.out.bl; have := HE4.out.size; omega) hne2 hh2 (by omega) (by omega)
            rw [show ((op + 1 : Nat) : Int) = (op : Int) + 1 from rfl] at hi
            obtain ⟨q, hq⟩ : ∃ q, parL F (op + 1) (L.drop k') = q := ⟨_, rfl⟩
            rw [hq] at hi hrr
            obtain ⟨K, rest, qc, qa⟩ := q
            simp only at hi hrr
            have HI := Lib.hid hi
            have HRR5 := Lib.hid hrr
            clear hi hrr hq HRR4 HRR3 IH hh2 HH2 HHE
            unfold fV at HI
            go_wp2_with fail
            refine HI.out.mono ?_
            rintro e w5 ⟨v2, vs2, k2, rfl, hg5, hp5, ho5, hr5, hk5⟩
            obtain ⟨ak, ck, rfl⟩ := own_form ho5
            have HE5 := Lib.hid (HE4.out.moved hg5 hp5)
            have HRB5 := Lib.hid (HRB4.out.grown hg5 (by intro e; cases e; omega))
            have HFB5 := Lib.hid (HFB4.out.grown hg5 (by intro e; cases e; omega))
            have HEB5 := Lib.hid (HEB4.out.grown hg5 (by intro e; cases e; omega))
            have HO5 := Lib.hid (HO4.out.kept hg5 (by
              by_cases h : (Value.slice av xs.length cv).ownBlock = none
              · exact Or.inl h
              · refine Or.inr (fun e => ?_)
                have := (HO4.out.lt _ e).1
                omega))
            have hs5 := hg5.size
            have HK5 := Lib.hid (slC_own ho5 (F := fun x => w4.heap.size ≤ x) (hr5.mono fun x hx => hx.1) (fun x hx => (ho5.lt x hx).1))
            have HKK := Lib.hid hk5
            clear hg5 hp5 ho5 hr5 hk5 HI HE4 HT4 HRB4 HFB4 HEB4 HO4 t0 t1 t2 t3 tf tl
            have HE6 := Lib.hid (HE5.out.below ((Below.refl _ _).alloc (Nat.le_refl _) (.cells #[.int .i64 qc, .int .i64 qa] 40)))
            have HRB6 := Lib.hid (HRB5.out.keep ((Below.refl _ _).alloc (Nat.le_refl _) (.cells #[.int .i64 qc, .int .i64 qa] 40)))
            have HFB6 := Lib.hid (HFB5.out.keep ((Below.refl _ _).alloc (Nat.le_refl _) (.cells #[.int .i64 qc, .int .i64 qa] 40)))
            have HEB6 := Lib.hid (HEB5.out.keep ((Below.refl _ _).alloc (Nat.le_refl _) (.cells #[.int .i64 qc, .int .i64 qa] 40)))
            have HO6 := Lib.hid (HO5.out.alloc (.cells #[.int .i64 qc, .int .i64 qa] 40))
            have HGB := Lib.hid (ft_new w5 qc qa 40)
            have HB6 := Lib.hid ((Below.refl w5.heap.size w5).alloc (Nat.le_refl _) (.cells #[.int .i64 qc, .int .i64 qa] 40))
            clear HE5 HRB5 HFB5 HEB5 HO5
            obtain ⟨g0, g1, gf, gl⟩ := HGB.out
            by_cases hc : qc = 0
            · subst hc
              have hrr := HRR5.out
              rw [if_pos rfl] at hrr
              have HRR6 := Lib.hid hrr
              clear hrr HRR5
              obtain ⟨c0, c1, c2, c3, c4, cf, cl⟩ := HEB6.out
              have HEBx := Lib.hid ((HEB6.out.set2 true).set3 (.slice ak K.len ck))
              obtain ⟨d0, d1, d2, d3, d4, df, dl⟩ := HEBx.out
              have HRBx := Lib.hid ((HRB6.out.other ⟨eb, 2, none⟩ (by show eb ≠ rb; omega) (.bool true)).other ⟨eb, 3, none⟩ (by show eb ≠ rb; omega) (.slice ak K.len ck))
              have HFBx := Lib.hid ((HFB6.out.other ⟨eb, 2, none⟩ (by show eb ≠ fb; omega) (.bool true)).other ⟨eb, 3, none⟩ (by show eb ≠ fb; omega) (.slice ak K.len ck))
              have HEx := Lib.hid ((HE6.out.set ⟨eb, 2, none⟩ (by show w.heap.size ≤ eb; omega) (.bool true)).set ⟨eb, 3, none⟩ (by show w.heap.size ≤ eb; omega) (.slice ak K.len ck))
              have HOx := Lib.hid (ownsRow_setCell_below (a := ⟨eb, 3, none⟩) (ownsRow_setCell_below (a := ⟨eb, 2, none⟩) HO6.out (by show eb < tb + 1; omega) (.bool true)) (by show eb < tb + 1; omega) (.slice ak K.len ck))
              obtain ⟨r0, r1, r2, r3, r4, rf, rl⟩ := HRBx.out
              obtain ⟨f0, f1, ff, fl⟩ := HFBx.out
              go_wp2_with fail
              obtain ⟨W7, hW7, HRW, HFW, hsW, hcW, hEW⟩ := fin_ex tt (.slice av xs.length cv) (.slice ak K.len ck) true ta 0 0 HRBx.out HFBx.out (by omega)
              rw [hW7]
              simp only [World.size_setCell, World.size_alloc] at hsW
              clear hW7 c0 c1 c2 c3 c4 cf cl d0 d1 d2 d3 d4 df dl r0 r1 r2 r3 r4 rf rl f0 f1 ff fl g0 g1 gf gl
              obtain ⟨r0, r1, r2, r3, r4, rf, rl⟩ := HRW
              obtain ⟨f0, f1, ff, fl⟩ := HFW
              refine bodyPost_ret (v := .tuple #[.agg #[.string tt, .slice av xs.length cv, .bool true, .slice ak K.len ck, .int .i64 ta], .agg #[.int .i64 0, .int .i64 0]]) (by simp [results, Tryz.results74, go_sem, r0, r1, r2, r3, r4, rf, rl, f0, f1, ff, fl]) rfl ?_
              rw [HRR6.out]
              obtain ⟨ab, bb, cb, hvk, hsk⟩ := HK5.out
              simp only [Value.slice.injEq, true_and] at hvk
              obtain ⟨rfl, rfl⟩ := hvk
              have HEW := hEW _ _ _ _ _ _ _ _ _ (by omega) (by omega) HEx.out
              obtain ⟨hk2, hk3⟩ := HKK.out (by simp)
              have hcx : ∀ x, x ≠ rb → x ≠ fb → x ≠ eb → x < w5.heap.size → ∀ j, W7.cell? ⟨x, j, none⟩ = w5.cell? ⟨x, j, none⟩ := fun x h1 h2 h3 h4 j => by
                rw [hcW x h1 h2 j, World.cell?_setCell_other _ ⟨eb, 3, none⟩ ⟨x, j, none⟩ _ (by simp [h3]), World.cell?_setCell_other _ ⟨eb, 2, none⟩ ⟨x, j, none⟩ _ (by simp [h3])]
                exact HB6.out.cell (p := ⟨x, j, none⟩) h4
              obtain ⟨aa, ba, ca, hv, hs⟩ := slt_own HOx.out
              simp only [Value.slice.injEq, true_and] at hv
              obtain ⟨rfl, rfl⟩ := hv
              have hbl : 0 < xs.length → tb + 1 ≤ ba := fun h => (HOx.out.lt ba (by rw [hs.ha h]; rfl)).1
              refine ⟨k2, HEW.g, HEW.p, Or.inr ⟨rfl, hk2, by omega, _, ba, 0, _, _, bb, 0, _, rfl, hs.agree (by simp; omega) (fun h j => ?_), fun h => ?_, ?_⟩⟩
              · have := hbl h
                exact hcW ba (by omega) (by omega) j
              · have := hbl h
                omega
              · obtain ⟨s1, s2, s3, s4, s5⟩ := hsk.here
                have hag : ∀ x, (w4.heap.size ≤ x ∧ x < w5.heap.size) → ∀ j, W7.cell? ⟨x, j, none⟩ = w5.cell? ⟨x, j, none⟩ := fun x hx j => hcx x (by omega) (by omega) (by omega) hx.2 j
                have hmn := AtC.agree (w := w5) (w' := W7) (by omega) hag (fun h j => hag bb (s4 h).2.2 j) s5
                refine SlC.mono (F := fun x => w4.heap.size ≤ x ∧ x < w5.heap.size) (fun x hx => by have := HEW.size; show w.heap.size ≤ x; omega) ⟨s1, s2, s3, fun h => ⟨(s4 h).1, by have := (s4 h).2.1; omega, (s4 h).2.2⟩, hmn⟩
            · have hcb : (qc == 0) = false := by simpa using hc
              have hcn : (qc != 0) = true := by simpa using hc
              have hrr := HRR5.out
              rw [if_neg hc] at hrr
              have HRR6 := Lib.hid hrr
              clear hrr HRR5
              obtain ⟨r0, r1, r2, r3, r4, rf, rl⟩ := HRB6.out
              obtain ⟨f0, f1, ff, fl⟩ := HFB6.out
              go_wp2_with fail
              go_region
              all_goals
                go_wp2_with fail
                obtain ⟨W7, hW7, HRW, HFW, hsW, hcW, hEW⟩ := fin_ex ⟨#[]⟩ (.slice none 0 0) (.slice none 0 0) false 0 qc qa HRB6.out HFB6.out (by omega)
                rw [hW7]
                clear hW7
                have HEW := hEW _ _ _ _ _ _ _ _ _ (by omega) (by omega) HE6.out
                have HED := HEW.below (w' := W7.drew) ((Below.refl _ _).drew)
                clear r0 r1 r2 r3 r4 rf rl f0 f1 ff fl
                obtain ⟨r0, r1, r2, r3, r4, rf, rl⟩ := HRW
                obtain ⟨f0, f1, ff, fl⟩ := HFW
                refine bodyPost_ret (v := .tuple #[.agg #[.string ⟨#[]⟩, .slice none 0 0, .bool false, .slice none 0 0, .int .i64 0], .agg #[.int .i64 qc, .int .i64 qa]]) (by simp [results, Tryz.results74, go_sem, r0, r1, r2, r3, r4, rf, rl, f0, f1, ff, fl]) rfl ?_
                rw [HRR6.out]
                exact ⟨k2, HED.g, HED.p, Or.inl ⟨hc, rfl⟩⟩
end Go.Proofs.YtohalocbghhenaaGreatDoor
