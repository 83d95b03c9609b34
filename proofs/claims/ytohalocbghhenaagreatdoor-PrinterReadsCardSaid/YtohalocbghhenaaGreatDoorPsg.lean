/- Contracts of layer 11: isSign, adjacent; a builder that the call has made. -/
import Derived.Test.YtohalocbghhenaaGreatDoorSpl
import Derived.Test.YtohalocbghhenaaGreatDoorCount
import Derived.Test.YtohalocbghhenaaGreatDoorSign
import Derived.Test.YtohalocbghhenaaGreatDoorLenP
import Derived.Shelf.Strings.BuilderK
set_option linter.unusedSimpArgs false
set_option linter.unusedVariables false
namespace Go.Proofs.YtohalocbghhenaaGreatDoor
open Go.RowKit

theorem undrewP {W w1 : World} (h : Below W.drew.heap.size W.drew w1) : Below W.heap.size W w1 := ⟨h.os, h.tape, h.output, h.size, h.block⟩
theorem ownF_below {w w' : World} {base e z n : Nat} {v : Value} {xs : List Value} (h : w.ownsRowF base e z v n xs) (hB : Below w.heap.size w w') : w'.ownsRowF base e z v n xs := by
  obtain ⟨hl, h⟩ := h
  rcases h with h | ⟨g, cap, cur, fz, h', hg, hb, hr⟩
  · exact ⟨hl, Or.inl h⟩
  · exact ⟨hl, Or.inr ⟨g, cap, cur, fz, h', hg, by rw [hB.block g (Array.getElem?_eq_some_iff.1 hb).1]; exact hb, hr⟩⟩
/-- a builder of the call's own, and what it holds -/
def Bld (B b : Nat) (l : List UInt8) (w : World) : Prop := Lib.IsBuilderF 56 5 B b (Lib.byteCells l) w
theorem bldAt_keep {T e : TypeId} {B b : Nat} {p : Value} {xs : List Value} {w w' : World} (h : Lib.BuilderAtF T e B b p xs w) (hB : Below w.heap.size w w') : Lib.BuilderAtF T e B b p xs w' := by
  obtain ⟨h1, v, hb, hown, hne⟩ := h
  exact ⟨h1, v, by rw [hB.block b (Array.getElem?_eq_some_iff.1 hb).1]; exact hb, ownF_below hown hB, hne⟩
theorem Bld.keep {B b : Nat} {l : List UInt8} {w w' : World} (h : Bld B b l w) (hB : Below w.heap.size w w') : Bld B b l w' :=
  h.elim (fun h => Or.inl (bldAt_keep h hB)) (fun h => Or.inr (bldAt_keep h hB))
theorem Bld.lt {B b : Nat} {l : List UInt8} {w : World} (h : Bld B b l w) : b < w.heap.size := h.elim Lib.BuilderAtF.lt Lib.BuilderAtF.lt
theorem Bld.above {B b : Nat} {l : List UInt8} {w : World} (h : Bld B b l w) : B ≤ b := h.elim (·.1) (·.1)
theorem bld_new (w : World) : Bld w.heap.size w.heap.size [] (w.alloc (.cells #[.pointer none, .slice none 0 0] 56)) := Lib.IsBuilderF.of (Lib.fresh_isBuilder 56 5 w)
theorem bytes_len (l : List UInt8) : (Lib.byteCells l).length = l.length := Lib.byteCells_length l
/-- WriteString -/
theorem put_any {B b : Nat} {l : List UInt8} {w : World} (h : Bld B b l w) (s : ByteArray) (hl : l.length + s.size ≤ 70000000000000) (hB : B ≤ w.heap.size) :
    Calls Tryz.prog 35 #[.pointer (some ⟨b, 0, none⟩), .string s] w fun e w' => e = .returned (.tuple #[.int .i64 s.size, .nilIface]) ∧ Bld B b (l ++ s.data.toList) w' ∧ Below B w w' ∧ Lib.OthersKept 5 (some b) w w' := by
  refine (Any.Builder_WriteString_k (ρ := Tryz.lays105_ren) { Tryz.lays105 with } Tryz.Builder_Extra_105 B b (Lib.byteCells l) s w h (by rw [bytes_len]; omega) hB).mono ?_
  rintro e w' ⟨rfl, h1, h2, h3⟩
  refine ⟨rfl, Or.inr ?_, h2, h3⟩
  rw [Lib.byteCells_append, ← Lib.strCells_eq]
  exact h1
/-- String -/
theorem text_any {B b : Nat} {l : List UInt8} {w : World} (h : Bld B b l w) (hB : B ≤ w.heap.size) :
    Calls Tryz.prog 38 #[.pointer (some ⟨b, 0, none⟩)] w fun e w' => e = .returned (.string (bs l)) ∧ Bld B b l w' ∧ Below B w w' := by
  refine (Tryz.Builder_String_any_f B b l w h hB).mono ?_
  rintro e w' ⟨rfl, h1, h2⟩
  exact ⟨rfl, h1, h2⟩
/-- an entry's block behind a write -/
theorem cl_others {T e : TypeId} {b : Nat} {w0 w w' : World} {wd : ByteArray} {va vk : Value} {bl : Bool} {a : Int} (h : w.heap[w0.heap.size]? = some (.cells #[.string wd, va, .bool bl, vk, .int .i64 a] T (0, 0))) (hT : T ≠ e) (hk : w0.heap.size ≠ b) (ho : Lib.OthersKept e (some b) w w') :
    w'.heap[w0.heap.size]? = some (.cells #[.string wd, va, .bool bl, vk, .int .i64 a] T (0, 0)) :=
  ho _ _ h (by simpa using hk) (by intro c fz hh; injection hh with _ h2 _; exact hT h2)
set_option maxHeartbeats 2000000 in
set_option maxRecDepth 100000 in
theorem pSign_any (t : Tk) (x : ByteArray) (w : World) : Calls Tryz.prog 78 #[t.val, .string x] w fun e w' => e = .returned (.bool (sgnS t x)) ∧ Below w.heap.size w w' := by
  unfold sgnS
  obtain ⟨k, s, n, a⟩ := t
  simp only [Tk.val]
  by_cases h : k = 4
  · subst h
    go_enter Tryz.func78, Tryz.ntmps78
    go_wp2_with fail
    obtain ⟨c0, c1, c2, c3, cf, cl⟩ := tk_new w ⟨4, s, n, a⟩ 51
    go_wp2_with fail
    go_ret
    exact ⟨ret_bool (str_beq _ _), (by repeat (first | with_reducible exact Below.refl _ _ | (with_reducible refine Below.setCell ?_ (by first | exact Nat.le_refl _ | omega | (simp; done) | (simp; omega)) _) | (with_reducible refine Below.alloc ?_ (by first | exact Nat.le_refl _ | omega | (simp; done) | (simp; omega)) _) | with_reducible refine Below.drew ?_ | with_reducible refine bel_drewN ?_ _ | (with_reducible refine bel_by (by with_reducible assumption) (by first | exact Nat.le_refl _ | omega | (simp; done) | (simp; omega)) ?_)))⟩
  · have hk : (k == 4) = false := by simpa using h
    go_enter Tryz.func78, Tryz.ntmps78
    go_wp2_with fail
    obtain ⟨c0, c1, c2, c3, cf, cl⟩ := tk_new w ⟨k, s, n, a⟩ 51
    go_wp2_with fail
    go_ret
    exact ⟨rfl, (by repeat (first | with_reducible exact Below.refl _ _ | (with_reducible refine Below.setCell ?_ (by first | exact Nat.le_refl _ | omega | (simp; done) | (simp; omega)) _) | (with_reducible refine Below.alloc ?_ (by first | exact Nat.le_refl _ | omega | (simp; done) | (simp; omega)) _) | with_reducible refine Below.drew ?_ | with_reducible refine bel_drewN ?_ _ | (with_reducible refine bel_by (by with_reducible assumption) (by first | exact Nat.le_refl _ | omega | (simp; done) | (simp; omega)) ?_)))⟩
set_option maxHeartbeats 2000000 in
set_option maxRecDepth 100000 in
theorem adj_any (q t : Tk) (w : World) : Calls Tryz.prog 52 #[q.val, t.val] w fun e w' => e = .returned (.bool (adjB q t)) ∧ Below w.heap.size w w' := by
  have H1 := Lib.hid (fun W => pSign_any q (bs [40]) W)
  have H2 := Lib.hid (fun W => pSign_any t (bs [41]) W)
  have H3 := Lib.hid (fun W => pSign_any t (bs [44]) W)
  simp only [sgnS_bs] at H1 H2 H3
  unfold adjB
  simp only [Tk.val] at H1 H2 H3 ⊢
  generalize sgn q 40 = a1 at *
  generalize sgn t 41 = a2 at *
  generalize sgn t 44 = a3 at *
  have HTB := Lib.hid (show TkAt ((w.alloc (.cells #[.int .i64 q.k, .string q.t, .int .i64 q.n, .int .i64 q.a] 51)).alloc (.cells #[.int .i64 t.k, .string t.t, .int .i64 t.n, .int .i64 t.a] 51)) (w.heap.size + 1) t by
    have := tk_new (w.alloc (.cells #[.int .i64 q.k, .string q.t, .int .i64 q.n, .int .i64 q.a] 51)) t 51
    rwa [World.size_alloc] at this)
  go_enter Tryz.func52, Tryz.ntmps52
  go_wp2_with fail
  refine (H1.out _).mono ?_
  rintro e w1 ⟨rfl, hb1⟩
  have hz1 := bsize hb1
  simp at hz1
  have HTB1 := Lib.hid (HTB.out.keep hb1)
  have HB1 := Lib.hid (show Below w.heap.size w w1 from (by repeat (first | with_reducible exact Below.refl _ _ | (with_reducible refine Below.setCell ?_ (by first | exact Nat.le_refl _ | omega | (simp; done) | (simp; omega)) _) | (with_reducible refine Below.alloc ?_ (by first | exact Nat.le_refl _ | omega | (simp; done) | (simp; omega)) _) | with_reducible refine Below.drew ?_ | with_reducible refine bel_drewN ?_ _ | (with_reducible refine bel_by (by with_reducible assumption) (by first | exact Nat.le_refl _ | omega | (simp; done) | (simp; omega)) ?_))))
  clear hb1 HTB
  cases a1 with
  | true =>
    go_wp2_with fail
    go_ret
    exact ⟨rfl, HB1.out⟩
  | false =>
    have hbw := HB1.out
    obtain ⟨z0, z1, z2, z3, zf, zl⟩ := HTB1.out
    go_wp2_with fail
    refine (H2.out _).mono ?_
    rintro e w2 ⟨rfl, hb2⟩
    have hz2 := bsize hb2
    try simp at hz2
    have HTB2 := Lib.hid (HTB1.out.keep hb2)
    have HB2 := Lib.hid (show Below w.heap.size w w2 from (by repeat (first | with_reducible exact Below.refl _ _ | (with_reducible refine Below.setCell ?_ (by first | exact Nat.le_refl _ | omega | (simp; done) | (simp; omega)) _) | (with_reducible refine Below.alloc ?_ (by first | exact Nat.le_refl _ | omega | (simp; done) | (simp; omega)) _) | with_reducible refine Below.drew ?_ | with_reducible refine bel_drewN ?_ _ | (with_reducible refine bel_by (by with_reducible assumption) (by first | exact Nat.le_refl _ | omega | (simp; done) | (simp; omega)) ?_))))
    clear hb2 hbw z0 z1 z2 z3 zf zl HTB1
    cases a2 with
    | true =>
      go_wp2_with fail
      go_ret
      exact ⟨rfl, HB2.out⟩
    | false =>
      have hbw := HB2.out
      obtain ⟨z0, z1, z2, z3, zf, zl⟩ := HTB2.out
      go_wp2_with fail
      refine (H3.out _).mono ?_
      rintro e w3 ⟨rfl, hb3⟩
      have hz3 := bsize hb3
      try simp at hz3
      have HB3 := Lib.hid (show Below w.heap.size w w3 from (by repeat (first | with_reducible exact Below.refl _ _ | (with_reducible refine Below.setCell ?_ (by first | exact Nat.le_refl _ | omega | (simp; done) | (simp; omega)) _) | (with_reducible refine Below.alloc ?_ (by first | exact Nat.le_refl _ | omega | (simp; done) | (simp; omega)) _) | with_reducible refine Below.drew ?_ | with_reducible refine bel_drewN ?_ _ | (with_reducible refine bel_by (by with_reducible assumption) (by first | exact Nat.le_refl _ | omega | (simp; done) | (simp; omega)) ?_))))
      clear hb3 hbw
      go_wp2_with fail
      go_ret
      exact ⟨rfl, HB3.out⟩
end Go.Proofs.YtohalocbghhenaaGreatDoor
