/- Contracts of layer 11: isSign, adjacent; a builder that the call has made. -/
import Derived.Test.YtohalocbghhenaaGreatDoorSpl
import Derived.Test.YtohalocbghhenaaGreatDoorCount
import Derived.Test.YtohalocbghhenaaGreatDoorSign
import Derived.Test.YtohalocbghhenaaGreatDoorLenP
import Derived.Shelf.Strings.BuilderK
set_option linter.unusedSimpArgs false
set_option linter.unusedVariables false
namespace Go.Proofs.YtohalocbghhenaaGreatDoor
open Go.RowKit

theorem undrewP {W w1 : World} (h : Below W.drew.heap.size W.drew w1) : Below W.heap.size W w1 := ⟨h.os, h.tape, h.output, h.size, h.block⟩
theorem ownF_below {w w' : World} {base e z n : Nat} {v : Value} {xs : List Value} (h : w.ownsRowF base e z v n xs) (hB : Below w.heap.size w w') : w'.ownsRowF base e z v n xs := by
  obtain ⟨hl, h⟩ := h
  rcases h with h | ⟨g, cap, cur, fz, h', hg, hb, hr⟩
  · exact ⟨hl, Or.inl h⟩
  · exact ⟨hl, Or.inr ⟨g, cap, cur, fz, h', hg, by rw [hB.block g (Array.getElem?_eq_some_iff.1 hb).1]; exact hb, hr⟩⟩
/-- a builder of the call's own, and what it holds -/
def Bld (B b : Nat) (l : List UInt8) (w : World) : Prop := Lib.IsBuilderF 56 5 B b (Lib.byteCells l) w
theorem bldAt_keep {T e : TypeId} {B b : Nat} {p : Value} {xs : List Value} {w w' : World} (h : Lib.BuilderAtF T e B b p xs w) (hB : Below w.heap.size w w') : Lib.BuilderAtF T e B b p xs w' := by
  obtain ⟨h1, v, hb, hown, hne⟩ := h
  exact ⟨h1, v, by rw [hB.block b (Array.getElem?_eq_some_iff.1 hb).1]; exact hb, ownF_below hown hB, hne⟩
theorem Bld.keep {B b : Nat} {l : List UInt8} {w w' : World} (h : Bld B b l w) (hB : Below w.heap.size w w') : Bld B b l w' :=
  h.elim (fun h => Or.inl (bldAt_keep h hB)) (fun h => Or.inr (bldAt_keep h hB))
theorem Bld.lt {B b : Nat} {l : List UInt8} {w : World} (h : Bld B b l w) : b < w.heap.size := h.elim Lib.BuilderAtF.lt Lib.BuilderAtF.lt
theorem Bld.above {B b : Nat} {l : List UInt8} {w : World} (h : Bld B b l w) : B ≤ b := h.elim (·.1) (·.1)
theorem bld_new (w : World) : Bld w.heap.size w.heap.size [] (w.alloc (.cells #[.pointer none, .slice none 0 0] 56)) := Lib.IsBuilderF.of (Lib.fresh_isBuilder 56 5 w)
theorem bytes_len (l : List UInt8) : (Lib.byteCells l).length = l.length := Lib.byteCells_length l
/-- WriteString -/
theorem put_any {B b : Nat} {l : List UInt8} {w : World} (h : Bld B b l w) (s : ByteArray) (hl : l.length + s.size ≤ 70000000000000) (hB : B ≤ w.heap.size) :
    Calls Tryz.prog 35 #[.pointer (some ⟨b, 0, none⟩), .string s] w fun e w' => e = .returned (.tuple #[.int .i64 s.size, .nilIface]) ∧ Bld B b (l ++ s.data.toList) w' ∧ Below B w w' ∧ Lib.OthersKept 5 (some b) w w' := by
  refine (Any.Builder_WriteString_k (ρ := Tryz.lays105_ren) { Tryz.lays105 with } Tryz.Builder_Extra_105 B b (Lib.byteCells l) s w h (by rw [bytes_len]; omega) hB).mono ?_
  rintro e w' ⟨rfl, h1, h2, h3⟩
  refine ⟨rfl, Or.inr ?_, h2, h3⟩
  rw [Lib.byteCells_append, ← Lib.strCells_eq]
  exact h1
/-- String -/
theorem text_any {B b : Nat} {l : List UInt8} {w : World} (h : Bld B b l w) (hB : B ≤ w.heap.size) :
    Calls Tryz.prog 38 #[.pointer (some ⟨b, 0, none⟩)] w fun e w' => e = .returned (.string (bs l)) ∧ Bld B b l w' ∧ Below B w w' := by
  refine (Tryz.Builder_String_any_f B b l w h hB).mono ?_
  rintro e w' ⟨rfl, h1, h2⟩
  exact ⟨rfl, h1, h2⟩
/-- an entry's block behind a write -/
theorem cl_others {T e : TypeId} {b : Nat} {w0 w w' : World} {wd : ByteArray} {va vk : Value} {bl : Bool} {a : Int} (h : w.heap[w0.heap.size]? = some (.cells #[.string wd, va, .bool bl, vk, .int .i64 a] T (0, 0))) (hT : T ≠ e) (hk : w0.heap.size ≠ b) (ho : Lib.OthersKept e (some b) w w') :
    w'.heap[w0.heap.size]? = some (.cells #[.string wd, va, .bool bl, vk, .int .i64 a] T (0, 0)) :=
  ho _ _ h (by simpa using hk) (by intro c fz hh; injection hh with _ h2 _; exact hT h2)
set_option maxHeartbeats 2000000 in
set_option maxRecDepth 100000 in
theorem pSign_any (t : Tk) (x : ByteArray) (w : World) : Calls Tryz.prog 78 #[t.val, .string x] w fun e w' => e = .returned (.bool (sgnS t x)) ∧ Below w.heap.size w w' := by
  unfold sgnS
  obtain ⟨k, s, n, a⟩ := t
  simp only [Tk.val]
  by_cases h : k = 4
  · subst h
    go_enter Tryz.func78, Tryz.ntmps78
    go_wp2_with fail
    obtain ⟨c0, c1, c2, c3, cf, cl⟩ := tk_new w ⟨4, s, n, a⟩ 51
    go_wp2_with fail
    go_ret
    exact ⟨ret_bool (str_beq _ _), (by repeat (first | with_reducible exact Below.refl _ _ | (with_reducible refine Below.setCell ?_ (by first | exact Nat.le_refl _ | omega | (simp; done) | (simp; omega)) _) | (with_reducible refine Below.alloc ?_ (by first | exact Nat.le_refl _ | omega | (simp; done) | (simp; omega)) _) | with_reducible refine Below.drew ?_ | with_reducible refine bel_drewN ?_ _ | (with_reducible refine bel_by (by with_reducible assumption) (by first | exact Nat.le_refl _ | omega | (simp; done) | (simp; omega)) ?_)))⟩
  · have hk : (k == 4) = false := by simpa using h
    go_enter Tryz.func78, Tryz.ntmps78
    go_wp2_with fail
    obtain ⟨c0, c1, c2, c3, cf, cl⟩ := tk_new w ⟨k, s, n, a⟩ 51
    go_wp2_with fail
    go_ret
    exact ⟨rfl, (by repeat (first | with_reducible exact Below.refl _ _ | (with_reducible refine Below.setCell ?_ (by first | exact Nat.le_refl _ | omega | (simp; done) | (simp; omega)) _) | (with_reducible refine Below.alloc ?_ (by first | exact Nat.le_refl _ | omega | (simp; done) | (simp; omega)) _) | with_reducible refine Below.drew ?_ | with_reducible refine bel_drewN ?_ _ | (with_reducible refine bel_by (by with_reducible assumption) (by first | exact Nat.le_refl _ | omega | (simp; done) | (simp; omega)) ?_)))⟩
set_option maxHeartbeats 2000000 in
set_option maxRecDepth 100000 in
theorem adj_any (q t : Tk) (w : World) : Calls Tryz.prog 52 #[q.val, t.val] w fun e w' => e = .returned (.bool (adjB q t)) ∧ Below w.heap.size w w' := by
  have H1 := Lib.hid (fun W => pSign_any q (bs [40]) W)
  have H2 := Lib.hid (fun W => pSign_any t (bs [41]) W)
  have H3 := Lib.hid (fun W => pSign_any t (bs [44]) W)
  simp only [sgnS_bs] at H1 H2 H3
  unfold adjB
  simp only [Tk.val] at H1 H2 H3 ⊢
  generalize sgn q 40 = a1 at *
  generalize sgn t 41 = a2 at *
  generalize sgn t 44 = a3 at *
  have HTB := Lib.hid (show TkAt ((w.alloc (.cells #[.int .i64 q.k, .string q.t, .int .i64 q.n, .int .i64 q.a] 51)).alloc (.cells #[.int .i64 t.k, .string t.t, .int .i64 t.n, .int .i64 t.a] 51)) (w.heap.size + 1) t by
    have := tk_new (w.alloc (.cells #[.int .i64 q.k, .string q.t, .int .i64 q.n, .int .i64 q.a] 51)) t 51
    rwa [World.size_alloc] at this)
  go_enter Tryz.func52, Tryz.ntmps52
  go_wp2_with fail
  refine (H1.out _).mono ?_
  rintro e w1 ⟨rfl, hb1⟩
  have hz1 := bsize hb1
  simp at hz1
  have HTB1 := Lib.hid (HTB.out.keep hb1)
  have HB1 := Lib.hid (show Below w.heap.size w w1 from (by repeat (first | with_reducible exact Below.refl _ _ | (with_reducible refine Below.setCell ?_ (by first | exact Nat.le_refl _ | omega | (simp; done) | (simp; omega)) _) | (with_reducible refine Below.alloc ?_ (by first | exact Nat.le_refl _ | omega | (simp; done) | (simp; omega)) _) | with_reducible refine Below.drew ?_ | with_reducible refine bel_drewN ?_ _ | (with_reducible refine bel_by (by with_reducible assumption) (by first | exact Nat.le_refl _ | omega | (simp; done) | (simp; omega)) ?_))))
  clear hb1 HTB
  cases a1 with
  | true =>
    go_wp2_with fail
    go_ret
    exact ⟨rfl, HB1.out⟩
  | false =>
    have hbw := HB1.out
    obtain ⟨z0, z1, z2, z3, zf, zl⟩ := HTB1.out
    go_wp2_with fail
    refine (H2.out _).mono ?_
    rintro e w2 ⟨rfl, hb2⟩
    have hz2 := bsize hb2
    try simp at hz2
    have HTB2 := Lib.hid (HTB1.out.keep hb2)
    have HB2 := Lib.hid (show Below w.heap.size w w2 from (by repeat (first | with_reducible exact Below.refl _ _ | (with_reducible refine Below.setCell ?_ (by first | exact Nat.le_refl _ | omega | (simp; done) | (simp; omega)) _) | (with_reducible refine Below.alloc ?_ (by first | exact Nat.le_refl _ | omega | (simp; done) | (simp; omega)) _) | with_reducible refine Below.drew ?_ | with_reducible refine bel_drewN ?_ _ | (with_reducible refine bel_by (by with_reducible assumption) (by first | exact Nat.le_refl _ | omega | (simp; done) | (simp; omega)) ?_))))
    clear hb2 hbw z0 z1 z2 z3 zf zl HTB1
    cases a2 with
    | true =>
      go_wp2_with fail
      go_ret
      exact ⟨rfl, HB2.out⟩
    | false =>
      have hbw := HB2.out
      obtain ⟨z0, z1, z2, z3, zf, zl⟩ := HTB2.out
      go_wp2_with fail
      refine (H3.out _).mono ?_
      rintro e w3 ⟨rfl, hb3⟩
      have hz3 := bsize hb3
      try simp at hz3
      have HB3 := Lib.hid (show Below w.heap.size w w3 from (by repeat (first | with_reducible exact Below.refl _ _ | (with_reducible refine Below.setCell ?_ (by first | exact Nat.le_refl _ | omega | (simp; done) | (simp; omega)) _) | (with_reducible refine Below.alloc ?_ (by first | exact Nat.le_refl _ | omega | (simp; done) | (simp; omega)) _) | with_reducible refine Below.drew ?_ | with_reducible refine bel_drewN ?_ _ | (with_reducible refine bel_by (by with_reducible assumption) (by first | exact Nat.le_refl _ | omega | (simp; done) | (simp; omega)) ?_))))
      clear hb3 hbw
      go_wp2_with fail
      go_ret
      exact ⟨rfl, HB3.out⟩
end Go.Proofs.YtohalocbghhenaaGreatDoor
/- Contracts of layer 11: firstLine. -/
namespace Go.Proofs.YtohalocbghhenaaGreatDoor
open Go.RowKit

theorem atsL_take : ∀ (xs : List Tk) (q : Tk) (k : Nat) (h : k < xs.length), atsL q (xs.take (k + 1)) = atsL q (xs.take k) ++ ((if adjB ((q :: xs)[k]'(by simp; omega)) (xs[k]'h) then [] else [32]) ++ spellT (xs[k]'h))
  | [], _, k, h => by simp at h
  | t :: r, q, 0, _ => by simp [atsL]
  | t :: r, q, k + 1, h => by
    have := atsL_take r t k (by simpa using h)
    rw [List.take_succ_cons, List.take_succ_cons]
    simp only [atsL, this, List.append_assoc, List.getElem_cons_succ]
theorem at0L_one {xs : List Tk} (h : 0 < xs.length) : at0L (xs.take 1) = 32 :: spellT (xs[0]'h) := by
  cases xs with
  | nil => simp at h
  | cons t r => simp [at0L, atsL]
theorem at0L_take {xs : List Tk} {k : Nat} (h : k + 1 < xs.length) : at0L (xs.take (k + 1 + 1)) = at0L (xs.take (k + 1)) ++ ((if adjB (xs[k]'(by omega)) (xs[k + 1]'h) then [] else [32]) ++ spellT (xs[k + 1]'h)) := by
  cases xs with
  | nil => simp at h
  | cons t r =>
    have := atsL_take r t k (by simpa using h)
    rw [List.take_succ_cons, List.take_succ_cons]
    simp only [at0L, this, List.append_assoc, List.getElem_cons_succ, List.cons_append]
/-- what stands ahead of an atom -/
def gapB (xs : List Tk) (k : Nat) : Bool := match k with
  | 0 => true
  | j + 1 => match xs[j]?, xs[j + 1]? with
    | some q, some t => !adjB q t
    | _, _ => true
theorem at0L_step {xs : List Tk} {k : Nat} (h : k < xs.length) : at0L (xs.take (k + 1)) = at0L (xs.take k) ++ ((if gapB xs k then [32] else []) ++ spellT (xs[k]'h)) := by
  cases k with
  | zero => rw [at0L_one h]; simp [gapB, at0L]
  | succ j =>
    rw [at0L_take h]
    simp only [gapB, List.getElem?_eq_getElem h, List.getElem?_eq_getElem (show j < xs.length by omega)]
    cases adjB (xs[j]'(by omega)) (xs[j + 1]'h) <;> rfl
theorem gapB_succ {xs : List Tk} {j : Nat} (h : j + 1 < xs.length) : gapB xs (j + 1) = !adjB (xs[j]'(by omega)) (xs[j + 1]'h) := by
  simp only [gapB, List.getElem?_eq_getElem h, List.getElem?_eq_getElem (show j < xs.length by omega)]
theorem pspell_ok {t : Tk} (h : validT t = true) : spellS t = (spellT t, 0) := by unfold spellS; rw [if_pos h]
theorem at0_bound : ∀ (xs : List Tk), (∀ t ∈ xs, validT t = true) → ∀ q, (atsL q xs).length ≤ 44 * xs.length
  | [], _, _ => by simp [atsL]
  | t :: r, h, q => by
    have := at0_bound r (fun u hu => h u (by simp [hu])) t
    have h2 := spell_len t (h t (by simp))
    simp only [atsL, List.length_append, List.length_cons]
    split <;> simp <;> omega
theorem at0L_bound {xs : List Tk} (h : ∀ t ∈ xs, validT t = true) : (at0L xs).length ≤ 44 * xs.length := by
  cases xs with
  | nil => simp [at0L]
  | cons t r =>
    have := at0_bound r (fun u hu => h u (by simp [hu])) t
    have h2 := spell_len t (h t (by simp))
    simp only [at0L, List.length_append, List.length_cons]
    omega
theorem tk_others {e b k : Nat} {w w' : World} {t : Tk} {T : TypeId} (h : w.heap[k]? = some (.cells #[.int .i64 t.k, .string t.t, .int .i64 t.n, .int .i64 t.a] T (0, 0))) (hT : T ≠ e) (hk : k ≠ b) (ho : Lib.OthersKept e (some b) w w') :
    w'.heap[k]? = some (.cells #[.int .i64 t.k, .string t.t, .int .i64 t.n, .int .i64 t.a] T (0, 0)) :=
  ho _ _ h (by simpa using hk) (by intro c fz hh; injection hh with _ h2 _; exact hT h2)
theorem tk_of {k : Nat} {w : World} {t : Tk} {T : TypeId} (h : w.heap[k]? = some (.cells #[.int .i64 t.k, .string t.t, .int .i64 t.n, .int .i64 t.a] T (0, 0))) : TkAt w k t := by
  refine ⟨?_, ?_, ?_, ?_, fun j => ?_, (Array.getElem?_eq_some_iff.1 h).1⟩
  all_goals first | (simp [World.cell?, h]; done) | (simp [World.frozen?, h]; done)
set_option maxHeartbeats 4000000 in
set_option maxRecDepth 100000 in
theorem firstLine_any (wd : ByteArray) (xs : List Tk) (bl : Bool) (av : Int) (aa ak : Option Addr) (ba oa la ca kl ck : Nat) (hv : ∀ t ∈ xs, validT t = true) (hz : ∀ t ∈ xs, t.t.size ≤ 1000000000) (hn : xs.length ≤ 1000000) (h1 : wd.size ≤ 1000000)
    (w : World) (hx : SlT w aa ba oa la ca xs) (hT : Tabs w) :
    Calls Tryz.prog 29 #[.agg #[.string wd, .slice aa la ca, .bool bl, .slice ak kl ck, .int .i64 av]] w fun e w' => e = .returned (.string (bs (headS wd xs bl))) ∧ Below w.heap.size w w' := by
  have HX := Lib.hid hx
  have HT := Lib.hid hT
  have HSP := Lib.hid (fun (t : Tk) (ht : t ∈ xs) (W : World) hW => spell_any t (hz t ht) W hW)
  have HV := Lib.hid hv
  have HLN := Lib.hid hx.hl
  have HBD := Lib.hid (fun k => at0L_bound (xs := xs.take k) (fun t ht => hv t (List.mem_of_mem_take ht)))
  have hla : la ≤ 1000000 := by have := hx.hl; omega
  clear hx hT hz hv
  have HB0 := Lib.hid (show Below w.heap.size w ((w.alloc (.cells #[.string wd, .slice aa la ca, .bool bl, .slice ak kl ck, .int .i64 av] 25)).alloc (.cells #[.pointer none, .slice none 0 0] 56)) from (by repeat (first | with_reducible exact Below.refl _ _ | (with_reducible refine Below.setCell ?_ (by first | exact Nat.le_refl _ | omega | (simp; done) | (simp; omega)) _) | (with_reducible refine Below.alloc ?_ (by first | exact Nat.le_refl _ | omega | (simp; done) | (simp; omega)) _) | with_reducible refine Below.drew ?_ | with_reducible refine bel_drewN ?_ _ | (with_reducible refine bel_by (by with_reducible assumption) (by first | exact Nat.le_refl _ | omega | (simp; done) | (simp; omega)) ?_))))
  have HBL0 := Lib.hid (show Bld (w.heap.size + 1) (w.heap.size + 1) [] ((w.alloc (.cells #[.string wd, .slice aa la ca, .bool bl, .slice ak kl ck, .int .i64 av] 25)).alloc (.cells #[.pointer none, .slice none 0 0] 56)) by
    have := bld_new (w.alloc (.cells #[.string wd, .slice aa la ca, .bool bl, .slice ak kl ck, .int .i64 av] 25))
    rwa [World.size_alloc] at this)
  have HCL0 := Lib.hid ((cl_new w wd (.slice aa la ca) (.slice ak kl ck) bl av 25).keep ((Below.refl _ _).alloc (Nat.le_refl _) (.cells #[.pointer none, .slice none 0 0] 56)))
  go_enter Tryz.func29, Tryz.ntmps29
  go_wp2_with fail
  refine (put_any HBL0.out wd (by simp; omega) (by simp)).mono ?_
  rintro e w1 ⟨rfl, hb1, hbw1, _⟩
  have HBL1 := Lib.hid hb1
  have HCL1 := Lib.hid (ClAt.low HCL0.out hbw1 (Nat.lt_succ_self _))
  have HB1 := Lib.hid (HB0.out.trans (hbw1.mono (Nat.le_succ _)))
  have hz1 : w.heap.size + 2 ≤ w1.heap.size := by have := hbw1.size; simp at this; omega
  clear hb1 hbw1 HBL0 HCL0 HB0
  obtain ⟨c0, c1, c2, c3, c4, cf, cl⟩ := HCL1.out
  go_wp2_with fail
  clear c0 c1 c2 c3 c4 cf cl
  go_loopw [14] (fun s14 wr => ∃ (k : Nat), k ≤ la ∧ s14 = .int .i64 (k : Int) ∧ Hid (Bld (w.heap.size + 1) (w.heap.size + 1) (wd.data.toList ++ at0L (xs.take k)) wr) ∧ Hid (ClAt wr w.heap.size wd (.slice aa la ca) bl (.slice ak kl ck) av) ∧ Hid (Below w.heap.size w wr) ∧ w.heap.size + 2 ≤ wr.heap.size) (fun s14 _ => (la - (intOf s14)).toNat)
  case atStart => exact ⟨0, Nat.zero_le _, rfl, Lib.hid (by have := HBL1.out; simpa [at0L] using this), HCL1, HB1, hz1⟩
  case round =>
    obtain ⟨k, hk, rfl, HBL, HCL, HB, hzr⟩ := hrel
    by_cases hlt : k < la
    · have hl : (k : Int) < (la : Int) := by omega
      have hkL : k < xs.length := by rw [HLN.out]; exact hlt
      have SA := HX.out.keep HB.out
      obtain rfl := SA.ha (by omega)
      have ba := SA.hb (by omega)
      have ca0 := SA.c0 k hkL
      have ca1 := SA.c1 k hkL
      have ca2 := SA.c2 k hkL
      have ca3 := SA.c3 k hkL
      have hvx := HV.out _ (List.getElem_mem hkL)
      have HSK := Lib.hid (HSP.out (xs[k]'hkL) (List.getElem_mem hkL))
      rw [pspell_ok hvx] at HSK
      have HDL := Lib.hid (show (bs (spellT (xs[k]'hkL))).size ≤ 100 by rw [bs_size]; exact Nat.le_trans (spell_len _ hvx) (by decide))
      have HDD := Lib.hid (bs_data (spellT (xs[k]'hkL)))
      have HSZ := Lib.hid (show (wd.data.toList ++ at0L (xs.take k)).length ≤ 50000000 by
        have h3 := HBD.out k
        have h4 : (xs.take k).length ≤ 1000000 := by rw [List.length_take]; omega
        rw [List.length_append, list_size]; omega)
      have HNX := Lib.hid (at0L_step hkL)
      have HGS := Lib.hid (fun (j : Nat) (h : k = j + 1) => (by subst h; exact gapB_succ hkL : gapB xs k = !adjB (xs[j]'(by omega)) (xs[k]'hkL)))
      have HGZ := Lib.hid (fun (h : k = 0) => (by subst h; rfl : gapB xs k = true))
      generalize bs (spellT (xs[k]'hkL)) = D at *
      generalize xs[k]'hkL = x at *
      obtain ⟨xk, xt, xn, xa⟩ := x
      simp only [Tk.val] at ca0 ca1 ca2 ca3 HSK HNX HDD
      have HWV := Lib.hid (show (wr.alloc (.cells #[.int .i64 xk, .string xt, .int .i64 xn, .int .i64 xa] 51)).heap[wr.heap.size]? = some (.cells #[.int .i64 xk, .string xt, .int .i64 xn, .int .i64 xa] 51 (0, 0)) from heap_alloc_new wr _)
      have HBA := Lib.hid (show Below wr.heap.size wr (wr.alloc (.cells #[.int .i64 xk, .string xt, .int .i64 xn, .int .i64 xa] 51)) from (Below.refl _ _).alloc (Nat.le_refl _) _)
      have hzV : w.heap.size + 2 ≤ (wr.alloc (.cells #[.int .i64 xk, .string xt, .int .i64 xn, .int .i64 xa] 51)).heap.size := by simp; omega
      obtain ⟨c0, c1, c2, c3, c4, cf, cl⟩ := HCL.out
      clear SA hvx
      go_wp2_with fail
      generalize (wr.alloc (.cells #[.int .i64 xk, .string xt, .int .i64 xn, .int .i64 xa] 51)) = V at *
      clear c0 c1 c2 c3 c4 cf cl ca0 ca1 ca2 ca3 ba
      have HBLV := Lib.hid (Bld.keep HBL.out HBA.out)
      have HCLV := Lib.hid (ClAt.keep HCL.out HBA.out)
      have HBV := Lib.hid (HB.out.trans (HBA.out.mono HB.out.size))
      have HTKV := Lib.hid (tk_of (t := ⟨xk, xt, xn, xa⟩) HWV.out)
      have hltV : wr.heap.size < V.heap.size := HTKV.out.lt
      clear HBL HCL HB HBA
      rcases Nat.eq_zero_or_pos k with h0 | h0
      · have HGP := Lib.hid (HGZ.out h0)
        have hk0 : (k : Int) = 0 := by omega
        have hkb : ((k : Int) == 0) = true := by rw [hk0]; rfl
        obtain ⟨X, hX⟩ : ∃ X, V.drew = X := ⟨_, rfl⟩
        have HBLX := Lib.hid (show Bld (w.heap.size + 1) (w.heap.size + 1) (wd.data.toList ++ at0L (xs.take k)) X by rw [← hX]; exact HBLV.out)
        have HCLX := Lib.hid (show ClAt X w.heap.size wd (.slice (some ⟨ba, oa, none⟩) la ca) bl (.slice ak kl ck) av by rw [← hX]; exact HCLV.out.keep ((Below.refl _ _).drew))
        have HBX := Lib.hid (show Below w.heap.size w X by rw [← hX]; exact HBV.out.drew)
        have hzX : w.heap.size + 2 ≤ X.heap.size := by rw [← hX]; exact hzV
        have HWX := Lib.hid (show X.heap[wr.heap.size]? = some (.cells #[.int .i64 xk, .string xt, .int .i64 xn, .int .i64 xa] 51 (0, 0)) by rw [← hX]; exact HWV.out)
        go_region
        rw [hX]
        clear hX HBLV HCLV HBV hzV HWV HTKV hltV HGS HGZ
        go_wp2_with fail
        refine (put_any HBLX.out ⟨#[32]⟩ (by have := HSZ.out; have e1 : (⟨#[32]⟩ : ByteArray).size = 1 := rfl; omega) (by omega)).mono ?_
        rintro e w2 ⟨rfl, hb2, hbw2, ho2⟩
        have HBL2 := Lib.hid hb2
        have HCL2 := Lib.hid (ClAt.low HCLX.out hbw2 (Nat.lt_succ_self _))
        have HB2 := Lib.hid (HBX.out.trans (hbw2.mono (Nat.le_succ _)))
        have hz2 : w.heap.size + 2 ≤ w2.heap.size := by have := hbw2.size; omega
        have HTK2 := Lib.hid (tk_of (tk_others (t := ⟨xk, xt, xn, xa⟩) HWX.out (by decide) (by omega) ho2))
        clear hb2 hbw2 ho2
        obtain ⟨z0, z1, z2, z3, zf, zl⟩ := HTK2.out
        go_wp2_with fail
        refine (HSK.out _ (HT.out.below HB2.out)).mono ?_
        rintro e w3 ⟨rfl, hb3⟩
        have HBL3 := Lib.hid (Bld.keep HBL2.out hb3)
        have HCL3 := Lib.hid (ClAt.keep HCL2.out hb3)
        have HB3 := Lib.hid (HB2.out.trans (hb3.mono HB2.out.size))
        have hz3 : w.heap.size + 2 ≤ w3.heap.size := by have := hb3.size; omega
        clear hb3 z0 z1 z2 z3 zf zl
        go_wp2_with fail
        refine (put_any HBL3.out D (by have := HSZ.out; have := HDL.out; rw [List.length_append]; have e1 : (⟨#[32]⟩ : ByteArray).data.toList.length = 1 := rfl; have e2 : ([32] : List UInt8).length = 1 := rfl; omega) (by omega)).mono ?_
        rintro e w4 ⟨rfl, hb4, hbw4, _⟩
        have HBL4 := Lib.hid (show Bld (w.heap.size + 1) (w.heap.size + 1) (wd.data.toList ++ at0L (xs.take (k + 1))) w4 by
          have h := hb4
          rw [HDD.out] at h
          rw [HNX.out]
          simpa [HGP.out, List.append_assoc] using h)
        have HCL4 := Lib.hid (ClAt.low HCL3.out hbw4 (Nat.lt_succ_self _))
        have HB4 := Lib.hid (HB3.out.trans (hbw4.mono (Nat.le_succ _)))
        have hz4 : w.heap.size + 2 ≤ w4.heap.size := by have := hbw4.size; omega
        clear hb4 hbw4
        go_wp2_with fail
        go_roundw
        case rel => exact ⟨k + 1, by omega, by go_num, HBL4, HCL4, HB4, hz4⟩
        case measure => simp [intOf]; omega
      · obtain ⟨j, rfl⟩ : ∃ j, k = j + 1 := ⟨k - 1, by omega⟩
        have hgs := HGS.out j rfl
        have SV := HX.out.keep HBV.out
        have hjL : j < xs.length := by omega
        have p0 := SV.c0 j hjL
        have p1 := SV.c1 j hjL
        have p2 := SV.c2 j hjL
        have p3 := SV.c3 j hjL
        have bV := SV.hb (by omega)
        have HAD := Lib.hid (fun W => adj_any (xs[j]'hjL) ⟨xk, xt, xn, xa⟩ W)
        clear SV HGS HGZ
        generalize xs[j]'hjL = y at *
        obtain ⟨yk, yt, yn, ya⟩ := y
        simp only [Tk.val] at p0 p1 p2 p3 HAD
        obtain ⟨c0, c1, c2, c3, c4, cf, cl⟩ := HCLV.out
        obtain ⟨z0, z1, z2, z3, zf, zl⟩ := HTKV.out
        have hk0 : ¬ ((j + 1 : Nat) : Int) = 0 := by omega
        have hkb : (((j + 1 : Nat) : Int) == 0) = false := by simp; omega
        have hkm : ((j + 1 : Nat) : Int) - 1 = (j : Int) := by omega
        have hwr : IntKind.i64.wrap (((j + 1 : Nat) : Int) - 1) = (j : Int) := by rw [hkm]; exact IntWalk.i64_in _ (by omega)
        have hwj : IntKind.i64.wrap (j : Int) = (j : Int) := IntWalk.i64_in _ (by omega)
        have hj0 : (0 : Int) ≤ (j : Int) := by omega
        have hjl : (j : Int) < (la : Int) := by omega
        have hK1 : ((j + 1 : Nat) : Int) + 1 = ((j + 1 + 1 : Nat) : Int) := by omega
        generalize HK : ((j + 1 : Nat) : Int) = K at *
        generalize adjB ⟨yk, yt, yn, ya⟩ ⟨xk, xt, xn, xa⟩ = A at *
        have hBB : Below V.heap.size V V := Below.refl _ _
        go_cut [31] (fun s31 wx => s31 = .bool (!A) ∧ Hid (Below V.heap.size V wx))
        case first =>
          go_region_held3 (fun w' => w'.cell? ⟨w.heap.size, 1, none⟩ = some (.slice (some ⟨ba, oa, none⟩) la ca) ∧ w'.cell? ⟨ba, oa + j * 4, none⟩ = some (.int .i64 yk) ∧ w'.cell? ⟨ba, oa + j * 4 + 1, none⟩ = some (.string yt) ∧ w'.cell? ⟨ba, oa + j * 4 + 2, none⟩ = some (.int .i64 yn) ∧ w'.cell? ⟨ba, oa + j * 4 + 3, none⟩ = some (.int .i64 ya) ∧ w'.cell? ⟨wr.heap.size, 0, none⟩ = some (.int .i64 xk) ∧ w'.cell? ⟨wr.heap.size, 1, none⟩ = some (.string xt) ∧ w'.cell? ⟨wr.heap.size, 2, none⟩ = some (.int .i64 xn) ∧ w'.cell? ⟨wr.heap.size, 3, none⟩ = some (.int .i64 xa))
            ((first | (simp [go_sem, c1, p0, p1, p2, p3, z0, z1, z2, z3]; done)))
            (first
              | (go_at_call 52; (refine (HAD.out _).mono ?_); rintro e v1 ⟨rfl, hb⟩; (repeat (with_reducible replace hb := undrewP hb)); have c1 := (hb.cell (p := ⟨w.heap.size, 1, none⟩) cl).trans c1; have p0 := (hb.cell (p := ⟨ba, oa + j * 4, none⟩) bV).trans p0; have p1 := (hb.cell (p := ⟨ba, oa + j * 4 + 1, none⟩) bV).trans p1; have p2 := (hb.cell (p := ⟨ba, oa + j * 4 + 2, none⟩) bV).trans p2; have p3 := (hb.cell (p := ⟨ba, oa + j * 4 + 3, none⟩) bV).trans p3; have z0 := (hb.cell (p := ⟨wr.heap.size, 0, none⟩) zl).trans z0; have z1 := (hb.cell (p := ⟨wr.heap.size, 1, none⟩) zl).trans z1; have z2 := (hb.cell (p := ⟨wr.heap.size, 2, none⟩) zl).trans z2; have z3 := (hb.cell (p := ⟨wr.heap.size, 3, none⟩) zl).trans z3; have hBB := hBB.trans (Below.mono (B' := V.heap.size) hb (by first | exact Nat.le_refl _ | exact hBB.size)); clear hb))
          all_goals
            go_wp2_with fail
            go_meet
            exact ⟨rfl, Lib.hid (by repeat (first | with_reducible exact Below.refl _ _ | (with_reducible refine Below.setCell ?_ (by first | exact Nat.le_refl _ | omega | (simp; done) | (simp; omega)) _) | (with_reducible refine Below.alloc ?_ (by first | exact Nat.le_refl _ | omega | (simp; done) | (simp; omega)) _) | with_reducible refine Below.drew ?_ | with_reducible refine bel_drewN ?_ _ | (with_reducible refine bel_by (by with_reducible assumption) (by first | exact Nat.le_refl _ | omega | (simp; done) | (simp; omega)) ?_)))⟩
        obtain ⟨rfl, HBC⟩ := hcut
        generalize wc = X at *
        have HBLX := Lib.hid (Bld.keep HBLV.out HBC.out)
        have HCLX := Lib.hid (ClAt.keep HCLV.out HBC.out)
        have HBX := Lib.hid (HBV.out.trans (HBC.out.mono HBV.out.size))
        have hzX : w.heap.size + 2 ≤ X.heap.size := by have := HBC.out.size; omega
        have HWX := Lib.hid (show X.heap[wr.heap.size]? = some (.cells #[.int .i64 xk, .string xt, .int .i64 xn, .int .i64 xa] 51 (0, 0)) by rw [HBC.out.block _ zl]; exact HWV.out)
        have HTKX := Lib.hid (tk_of (t := ⟨xk, xt, xn, xa⟩) HWX.out)
        clear c0 c1 c2 c3 c4 cf cl p0 p1 p2 p3 z0 z1 z2 z3 zf zl HBC HAD HBLV HCLV HBV hzV HWV HTKV hltV hBB bV
        subst HK
        cases A with
        | true =>
          have HGP := Lib.hid hgs
          clear hgs
          obtain ⟨z0, z1, z2, z3, zf, zl⟩ := HTKX.out
          go_wp2_with fail
          refine (HSK.out _ (HT.out.below HBX.out)).mono ?_
          rintro e w3 ⟨rfl, hb3⟩
          have HBL3 := Lib.hid (Bld.keep HBLX.out hb3)
          have HCL3 := Lib.hid (ClAt.keep HCLX.out hb3)
          have HB3 := Lib.hid (HBX.out.trans (hb3.mono HBX.out.size))
          have hz3 : w.heap.size + 2 ≤ w3.heap.size := by have := hb3.size; omega
          clear hb3 z0 z1 z2 z3 zf zl
          go_wp2_with fail
          refine (put_any HBL3.out D (by have := HSZ.out; have := HDL.out; omega) (by omega)).mono ?_
          rintro e w4 ⟨rfl, hb4, hbw4, _⟩
          have HBL4 := Lib.hid (show Bld (w.heap.size + 1) (w.heap.size + 1) (wd.data.toList ++ at0L (xs.take (j + 1 + 1))) w4 by
            have h := hb4
            rw [HDD.out] at h
            rw [HNX.out]
            simpa [HGP.out, List.append_assoc] using h)
          have HCL4 := Lib.hid (ClAt.low HCL3.out hbw4 (Nat.lt_succ_self _))
          have HB4 := Lib.hid (HB3.out.trans (hbw4.mono (Nat.le_succ _)))
          have hz4 : w.heap.size + 2 ≤ w4.heap.size := by have := hbw4.size; omega
          clear hb4 hbw4
          go_wp2_with fail
          go_roundw
          case rel => exact ⟨j + 1 + 1, by omega, by go_num, HBL4, HCL4, HB4, hz4⟩
          case measure => simp [intOf]; omega
        | false =>
          have HGP := Lib.hid hgs
          clear hgs
          go_wp2_with fail
          refine (put_any HBLX.out ⟨#[32]⟩ (by have := HSZ.out; have e1 : (⟨#[32]⟩ : ByteArray).size = 1 := rfl; omega) (by omega)).mono ?_
          rintro e w2 ⟨rfl, hb2, hbw2, ho2⟩
          have HBL2 := Lib.hid hb2
          have HCL2 := Lib.hid (ClAt.low HCLX.out hbw2 (Nat.lt_succ_self _))
          have HB2 := Lib.hid (HBX.out.trans (hbw2.mono (Nat.le_succ _)))
          have hz2 : w.heap.size + 2 ≤ w2.heap.size := by have := hbw2.size; omega
          have HTK2 := Lib.hid (tk_of (tk_others (t := ⟨xk, xt, xn, xa⟩) HWX.out (by decide) (by omega) ho2))
          clear hb2 hbw2 ho2
          obtain ⟨z0, z1, z2, z3, zf, zl⟩ := HTK2.out
          go_wp2_with fail
          refine (HSK.out _ (HT.out.below HB2.out)).mono ?_
          rintro e w3 ⟨rfl, hb3⟩
          have HBL3 := Lib.hid (Bld.keep HBL2.out hb3)
          have HCL3 := Lib.hid (ClAt.keep HCL2.out hb3)
          have HB3 := Lib.hid (HB2.out.trans (hb3.mono HB2.out.size))
          have hz3 : w.heap.size + 2 ≤ w3.heap.size := by have := hb3.size; omega
          clear hb3 z0 z1 z2 z3 zf zl
          go_wp2_with fail
          refine (put_any HBL3.out D (by have := HSZ.out; have := HDL.out; rw [List.length_append]; have e1 : (⟨#[32]⟩ : ByteArray).data.toList.length = 1 := rfl; have e2 : ([32] : List UInt8).length = 1 := rfl; omega) (by omega)).mono ?_
          rintro e w4 ⟨rfl, hb4, hbw4, _⟩
          have HBL4 := Lib.hid (show Bld (w.heap.size + 1) (w.heap.size + 1) (wd.data.toList ++ at0L (xs.take (j + 1 + 1))) w4 by
            have h := hb4
            rw [HDD.out] at h
            rw [HNX.out]
            simpa [HGP.out, List.append_assoc] using h)
          have HCL4 := Lib.hid (ClAt.low HCL3.out hbw4 (Nat.lt_succ_self _))
          have HB4 := Lib.hid (HB3.out.trans (hbw4.mono (Nat.le_succ _)))
          have hz4 : w.heap.size + 2 ≤ w4.heap.size := by have := hbw4.size; omega
          clear hb4 hbw4
          go_wp2_with fail
          go_roundw
          case rel => exact ⟨j + 1 + 1, by omega, by go_num, HBL4, HCL4, HB4, hz4⟩
          case measure => simp [intOf]; omega
    · obtain rfl : k = la := by omega
      have hl : ¬ ((k : Int) < (k : Int)) := by omega
      have HTK := Lib.hid (show xs.take k = xs from List.take_of_length_le (by rw [HLN.out]; exact Nat.le_refl _))
      rw [HTK.out] at HBL
      have HSZ := Lib.hid (show (wd.data.toList ++ at0L xs).length ≤ 50000000 by
        have h3 := HBD.out k
        rw [HTK.out] at h3
        rw [List.length_append, list_size]; omega)
      obtain ⟨c0, c1, c2, c3, c4, cf, cl⟩ := HCL.out
      cases bl with
      | true =>
        go_wp2_with fail
        refine (put_any HBL.out ⟨#[32, 123]⟩ (by have := HSZ.out; have e1 : (⟨#[32, 123]⟩ : ByteArray).size = 2 := rfl; omega) (by omega)).mono ?_
        rintro e w2 ⟨rfl, hb2, hbw2, _⟩
        have HBL2 := Lib.hid hb2
        have HB2 := Lib.hid (HB.out.trans (hbw2.mono (Nat.le_succ _)))
        have hz2 : w.heap.size + 2 ≤ w2.heap.size := by have := hbw2.size; omega
        clear hb2 hbw2 c0 c1 c2 c3 c4 cf cl
        go_wp2_with fail
        refine (text_any HBL2.out (by omega)).mono ?_
        rintro e w3 ⟨rfl, _, hb3⟩
        have HB3 := Lib.hid (HB2.out.trans (hb3.mono (Nat.le_succ _)))
        clear hb3
        go_wp2_with fail
        go_ret
        exact ⟨ret_str (by unfold headS; simp [List.append_assoc]), HB3.out⟩
      | false =>
        go_wp2_with fail
        refine (put_any HBL.out ⟨#[59]⟩ (by have := HSZ.out; have e1 : (⟨#[59]⟩ : ByteArray).size = 1 := rfl; omega) (by omega)).mono ?_
        rintro e w2 ⟨rfl, hb2, hbw2, _⟩
        have HBL2 := Lib.hid hb2
        have HB2 := Lib.hid (HB.out.trans (hbw2.mono (Nat.le_succ _)))
        have hz2 : w.heap.size + 2 ≤ w2.heap.size := by have := hbw2.size; omega
        clear hb2 hbw2 c0 c1 c2 c3 c4 cf cl
        go_wp2_with fail
        refine (text_any HBL2.out (by omega)).mono ?_
        rintro e w3 ⟨rfl, _, hb3⟩
        have HB3 := Lib.hid (HB2.out.trans (hb3.mono (Nat.le_succ _)))
        clear hb3
        go_wp2_with fail
        go_ret
        exact ⟨ret_str (by unfold headS; simp [List.append_assoc]), HB3.out⟩
end Go.Proofs.YtohalocbghhenaaGreatDoor
