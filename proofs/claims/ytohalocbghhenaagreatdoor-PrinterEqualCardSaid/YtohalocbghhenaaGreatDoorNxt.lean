/- Contract of layer 10: the parser's next. -/
import Derived.Test.YtohalocbghhenaaGreatDoorAtom
import Derived.Test.YtohalocbghhenaaGreatDoorCount
set_option linter.unusedSimpArgs false
set_option linter.unusedVariables false
namespace Go.Proofs.YtohalocbghhenaaGreatDoor
open Go.RowKit

/-- the parser in a block: its slice of tokens, its position -/
structure PsAt (w : World) (b : Nat) (v : Value) (k : Nat) : Prop where
  c0 : w.cell? ⟨b, 0, none⟩ = some v
  c1 : w.cell? ⟨b, 1, none⟩ = some (.int .i64 (k : Int))
  f : ∀ k, w.frozen? ⟨b, k, none⟩ = false
  lt : b < w.heap.size
theorem PsAt.keep {w w' : World} {b : Nat} {v : Value} {k : Nat} (h : PsAt w b v k) (hb : Below w.heap.size w w') : PsAt w' b v k :=
  ⟨(hb.cell (p := ⟨b, 0, none⟩) h.lt).trans h.c0, (hb.cell (p := ⟨b, 1, none⟩) h.lt).trans h.c1, fun k => (hb.frozen (p := ⟨b, k, none⟩) h.lt).trans (h.f k), Nat.lt_of_lt_of_le h.lt hb.size⟩
theorem PsAt.other {w : World} {b : Nat} {v : Value} {k : Nat} (h : PsAt w b v k) (a : Addr) (ha : a.block ≠ b) (u : Value) : PsAt (w.setCell a u) b v k := by
  have o : ∀ k, (w.setCell a u).cell? ⟨b, k, none⟩ = w.cell? ⟨b, k, none⟩ := fun k => World.cell?_setCell_other w a ⟨b, k, none⟩ u (by intro e; apply ha; rw [e])
  exact ⟨(o 0).trans h.c0, (o 1).trans h.c1, fun k => by rw [World.frozen?_setCell]; exact h.f k, by simp; exact h.lt⟩
theorem PsAt.set {w : World} {b : Nat} {v : Value} {k : Nat} (h : PsAt w b v k) (m : Nat) : PsAt (w.setCell ⟨b, 1, none⟩ (.int .i64 (m : Int))) b v m := by
  refine ⟨?_, World.cell?_setCell_same _ _ _ h.c1, fun k => by rw [World.frozen?_setCell]; exact h.f k, by simp; exact h.lt⟩
  rw [World.cell?_setCell_other w ⟨b, 1, none⟩ ⟨b, 0, none⟩ _ (by simp)]
  exact h.c0
/-- the same but for what is new and one block -/
theorem grb_below {w w' : World} {r : Option Nat} (h : Below w.heap.size w w') : w.grownBy w' r := ⟨h.os, h.tape, h.output, h.size, fun k hk _ => h.block k hk⟩
theorem grb_set {w w' : World} {b : Nat} (h : w.grownBy w' (some b)) (k : Nat) (v : Value) : w.grownBy (w'.setCell ⟨b, k, none⟩ v) (some b) := h.trans (grownBy_set w' ⟨b, k, none⟩ v)
theorem grb_new {w w' : World} {r : Option Nat} (h : w.grownBy w' r) (a : Addr) (ha : w.heap.size ≤ a.block) (v : Value) : w.grownBy (w'.setCell a v) r :=
  h.andThen (grownBy_set w' a v) (fun j hj => by cases hj; exact Or.inl ha)
set_option maxHeartbeats 4000000 in
set_option maxRecDepth 100000 in
theorem pnext_any (w : World) (pb : Nat) (a : Option Addr) (b o len cap : Nat) (L : List Tk) (k : Nat) (hP : PsAt w pb (.slice a len cap) k) (hS : SlT w a b o len cap L) (hk : k < L.length) (hl : len ≤ 1000000) :
    Calls Tryz.prog 73 #[.pointer (some ⟨pb, 0, none⟩)] w fun e w' => e = .returned (L[k]'hk).val ∧ w.grownBy w' (some pb) ∧ PsAt w' pb (.slice a len cap) (k + 1) := by
  have hkl : k < len := by rw [← hS.hl]; exact hk
  have hki : (k : Int) < (len : Int) := by omega
  obtain rfl := hS.ha (by omega)
  have hpl := hP.lt
  have HP := Lib.hid hP
  have HS := Lib.hid hS
  generalize hx : L[k]'hk = x at *
  have x0 := hS.c0 k hk
  have x1 := hS.c1 k hk
  have x2 := hS.c2 k hk
  have x3 := hS.c3 k hk
  rw [hx] at x0 x1 x2 x3
  have hb := hS.hb (by omega)
  obtain ⟨p0, p1, pf, _⟩ := hP
  clear hS hx
  obtain ⟨xk, xt, xn, xa⟩ := x
  simp only [Tk.val] at x0 x1 x2 x3 ⊢
  go_enter Tryz.func73, Tryz.ntmps73
  go_wp2_with fail
  go_region
  all_goals
    have HB := Lib.hid (show Below w.heap.size w (((w.alloc (.cells #[.int .i64 0, .string ⟨#[]⟩, .int .i64 0, .int .i64 0] 51)).alloc (.cells #[.int .i64 xk, .string xt, .int .i64 xn, .int .i64 xa] 51)).drew) from (by repeat (first | with_reducible exact Below.refl _ _ | (with_reducible refine Below.setCell ?_ (by first | exact Nat.le_refl _ | omega | (simp; done) | (simp; omega)) _) | (with_reducible refine Below.alloc ?_ (by first | exact Nat.le_refl _ | omega | (simp; done) | (simp; omega)) _) | with_reducible refine Below.drew ?_ | with_reducible refine bel_drewN ?_ _ | (with_reducible refine bel_by (by with_reducible assumption) (by first | exact Nat.le_refl _ | omega | (simp; done) | (simp; omega)) ?_))))
    have HZ := Lib.hid (show TkAt (((w.alloc (.cells #[.int .i64 0, .string ⟨#[]⟩, .int .i64 0, .int .i64 0] 51)).alloc (.cells #[.int .i64 xk, .string xt, .int .i64 xn, .int .i64 xa] 51)).drew) w.heap.size noTk from (tk_new w noTk 51).keep (((Below.refl _ _).alloc (Nat.le_refl _) _).drew))
    have HX := Lib.hid (show TkAt (((w.alloc (.cells #[.int .i64 0, .string ⟨#[]⟩, .int .i64 0, .int .i64 0] 51)).alloc (.cells #[.int .i64 xk, .string xt, .int .i64 xn, .int .i64 xa] 51)).drew) (w.heap.size + 1) ⟨xk, xt, xn, xa⟩ from by
      have := (tk_new (w.alloc (.cells #[.int .i64 0, .string ⟨#[]⟩, .int .i64 0, .int .i64 0] 51)) ⟨xk, xt, xn, xa⟩ 51).keep ((Below.refl _ _).drew)
      simpa using this)
    generalize (((w.alloc (.cells #[.int .i64 0, .string ⟨#[]⟩, .int .i64 0, .int .i64 0] 51)).alloc (.cells #[.int .i64 xk, .string xt, .int .i64 xn, .int .i64 xa] 51)).drew) = W2 at *
    have HP2 := Lib.hid (HP.out.keep HB.out)
    have hW2 := HB.out.size
    have HG := Lib.hid (show w.grownBy (W2.setCell ⟨pb, 1, none⟩ (.int .i64 ((k : Int) + 1))) (some pb) from grb_set (grb_below HB.out) 1 _)
    have HP3 := Lib.hid (show PsAt (W2.setCell ⟨pb, 1, none⟩ (.int .i64 ((k : Int) + 1))) pb (.slice (some ⟨b, o, none⟩) len cap) (k + 1) from HP2.out.set (k + 1))
    have HZ3 := Lib.hid (HZ.out.other ⟨pb, 1, none⟩ (by show pb ≠ _; omega) (.int .i64 ((k : Int) + 1)))
    have HX3 := Lib.hid (HX.out.other ⟨pb, 1, none⟩ (by show pb ≠ _; omega) (.int .i64 ((k : Int) + 1)))
    clear p0 p1 pf x0 x1 x2 x3
    obtain ⟨p0, p1, pf, _⟩ := HP2.out
    obtain ⟨x0, x1, x2, x3, xf, xl⟩ := HX.out
    obtain ⟨z0, z1, z2, z3, zf, zl⟩ := HZ.out
    have n1 : ¬ pb = w.heap.size + 1 := by omega
    have n2 : ¬ pb = w.heap.size := by omega
    have n3 : ¬ w.heap.size + 1 = pb := by omega
    have n4 : ¬ w.heap.size = pb := by omega
    go_wp2_with fail
    refine bodyPost_ret (v := .agg #[.int .i64 xk, .string xt, .int .i64 xn, .int .i64 xa]) (by simp [results, Tryz.results73, go_sem, z0, z1, z2, z3, zf, zl, n1, n2, n3, n4]) rfl ?_
    refine ⟨rfl, grb_new (grb_new (grb_new (grb_new HG.out _ ?_ _) _ ?_ _) _ ?_ _) _ ?_ _, (((HP3.out.other _ ?_ _).other _ ?_ _).other _ ?_ _).other _ ?_ _⟩
    all_goals first | exact Nat.le_refl _ | (show w.heap.size ≠ pb; omega)
end Go.Proofs.YtohalocbghhenaaGreatDoor
