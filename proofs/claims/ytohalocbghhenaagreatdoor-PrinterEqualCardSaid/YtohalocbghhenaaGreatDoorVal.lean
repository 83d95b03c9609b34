/- Tokens and faults in blocks of the call's own. -/
import Derived.Test.YtohalocbghhenaaGreatDoorTit
import Derived.Test.YtohalocbghhenaaGreatDoorLexQ
set_option linter.unusedSimpArgs false
set_option linter.unusedVariables false
namespace Go.Proofs.YtohalocbghhenaaGreatDoor
open Go.RowKit

/-- a token in a block -/
structure TkAt (w : World) (b : Nat) (t : Tk) : Prop where
  c0 : w.cell? ⟨b, 0, none⟩ = some (.int .i64 t.k)
  c1 : w.cell? ⟨b, 1, none⟩ = some (.string t.t)
  c2 : w.cell? ⟨b, 2, none⟩ = some (.int .i64 t.n)
  c3 : w.cell? ⟨b, 3, none⟩ = some (.int .i64 t.a)
  f : ∀ k, w.frozen? ⟨b, k, none⟩ = false
  lt : b < w.heap.size
theorem TkAt.low {B : Nat} {W w1 : World} {b : Nat} {t : Tk} (h : TkAt W b t) (hb : Below B W w1) (hB : b < B) : TkAt w1 b t :=
  ⟨(hb.cell (p := ⟨b, 0, none⟩) hB).trans h.c0, (hb.cell (p := ⟨b, 1, none⟩) hB).trans h.c1, (hb.cell (p := ⟨b, 2, none⟩) hB).trans h.c2, (hb.cell (p := ⟨b, 3, none⟩) hB).trans h.c3, fun k => (hb.frozen (p := ⟨b, k, none⟩) hB).trans (h.f k), Nat.lt_of_lt_of_le h.lt hb.size⟩
theorem TkAt.keep {W w1 : World} {b : Nat} {t : Tk} (h : TkAt W b t) (hb : Below W.heap.size W w1) : TkAt w1 b t := h.low hb h.lt
theorem TkAt.other {w : World} {b : Nat} {t : Tk} (h : TkAt w b t) (a : Addr) (ha : a.block ≠ b) (v : Value) : TkAt (w.setCell a v) b t := by
  have o : ∀ k, (w.setCell a v).cell? ⟨b, k, none⟩ = w.cell? ⟨b, k, none⟩ := fun k => World.cell?_setCell_other w a ⟨b, k, none⟩ v (by intro e; apply ha; rw [e])
  exact ⟨(o 0).trans h.c0, (o 1).trans h.c1, (o 2).trans h.c2, (o 3).trans h.c3, fun k => by rw [World.frozen?_setCell]; exact h.f k, by simp; exact h.lt⟩
theorem tk_new (w : World) (t : Tk) (T : TypeId) : TkAt (w.alloc (.cells #[.int .i64 t.k, .string t.t, .int .i64 t.n, .int .i64 t.a] T)) w.heap.size t := by
  refine ⟨?_, ?_, ?_, ?_, fun k => ?_, ?_⟩
  all_goals simp [go_sem]
/-- a fault in a block -/
structure FtAt (w : World) (b : Nat) (c a : Int) : Prop where
  c0 : w.cell? ⟨b, 0, none⟩ = some (.int .i64 c)
  c1 : w.cell? ⟨b, 1, none⟩ = some (.int .i64 a)
  f : ∀ k, w.frozen? ⟨b, k, none⟩ = false
  lt : b < w.heap.size
theorem FtAt.low {B : Nat} {W w1 : World} {b : Nat} {c a : Int} (h : FtAt W b c a) (hb : Below B W w1) (hB : b < B) : FtAt w1 b c a :=
  ⟨(hb.cell (p := ⟨b, 0, none⟩) hB).trans h.c0, (hb.cell (p := ⟨b, 1, none⟩) hB).trans h.c1, fun k => (hb.frozen (p := ⟨b, k, none⟩) hB).trans (h.f k), Nat.lt_of_lt_of_le h.lt hb.size⟩
theorem FtAt.keep {W w1 : World} {b : Nat} {c a : Int} (h : FtAt W b c a) (hb : Below W.heap.size W w1) : FtAt w1 b c a := h.low hb h.lt
theorem FtAt.other {w : World} {b : Nat} {c a : Int} (h : FtAt w b c a) (p : Addr) (ha : p.block ≠ b) (v : Value) : FtAt (w.setCell p v) b c a := by
  have o : ∀ k, (w.setCell p v).cell? ⟨b, k, none⟩ = w.cell? ⟨b, k, none⟩ := fun k => World.cell?_setCell_other w p ⟨b, k, none⟩ v (by intro e; apply ha; rw [e])
  exact ⟨(o 0).trans h.c0, (o 1).trans h.c1, fun k => by rw [World.frozen?_setCell]; exact h.f k, by simp; exact h.lt⟩
theorem ft_new (w : World) (c a : Int) (T : TypeId) : FtAt (w.alloc (.cells #[.int .i64 c, .int .i64 a] T)) w.heap.size c a := by
  refine ⟨?_, ?_, fun k => ?_, ?_⟩
  all_goals simp [go_sem]
def fV (c a : Int) : Value := .agg #[.int .i64 c, .int .i64 a]
end Go.Proofs.YtohalocbghhenaaGreatDoor
/- Contracts of layer 9: validText, Valid. -/
namespace Go.Proofs.YtohalocbghhenaaGreatDoor
open Go.RowKit

theorem vt_1 (l : List UInt8) : vText 1 l = (wordB l && decide (l.length ≤ 32)) := rfl
theorem vt_3 (l : List UInt8) : vText 3 l = (titE l == 0) := rfl
theorem vt_4 (l : List UInt8) : vText 4 l = sigB l := rfl
theorem vt_5 (l : List UInt8) : vText 5 l = l.isEmpty := rfl
theorem vt_no {k : Int} (l : List UInt8) (h1 : k ≠ 1) (h3 : k ≠ 3) (h4 : k ≠ 4) (h5 : k ≠ 5) : vText k l = false := by
  unfold vText; rw [if_neg h1, if_neg h3, if_neg h4, if_neg h5]
set_option maxHeartbeats 2000000 in
set_option maxRecDepth 100000 in
theorem validText_any (k : Int) (s : ByteArray) (hs : s.size ≤ 1000000000) (w : World) (hT : Tabs w) : Calls Tryz.prog 87 #[.int .i64 k, .string s] w fun e w' => e = .returned (.bool (vText k s.data.toList)) ∧ Below w.heap.size w w' := by
  have HT := Lib.hid hT
  clear hT
  by_cases e1 : k = 1
  · subst e1
    have HW := Lib.hid (wordlike_any s hs w HT.out)
    have HR := Lib.hid (vt_1 s.data.toList)
    rw [list_size] at HR
    generalize vText 1 s.data.toList = r at *
    generalize wordB s.data.toList = b at *
    cases b with
    | false =>
      have hr : r = false := by rw [HR.out]; rfl
      subst hr
      clear HR
      go_enter Tryz.func87, Tryz.ntmps87
      go_wp2_with fail
      refine HW.out.mono ?_
      rintro e w1 ⟨rfl, hb1⟩
      go_wp2_with fail
      go_ret
      exact ⟨rfl, hb1⟩
    | true =>
      by_cases h : s.size ≤ 32
      · have hr : r = true := by rw [HR.out]; simp [h]
        have hl : (s.size : Int) ≤ 32 := by omega
        subst hr
        clear HR h
        go_enter Tryz.func87, Tryz.ntmps87
        go_wp2_with fail
        refine HW.out.mono ?_
        rintro e w1 ⟨rfl, hb1⟩
        go_wp2_with fail
        go_ret
        exact ⟨ret_bool (by first | (simp; done) | (simp; omega)), hb1⟩
      · have hr : r = false := by rw [HR.out]; simp [h]
        have hl : ¬ (s.size : Int) ≤ 32 := by omega
        subst hr
        clear HR h
        go_enter Tryz.func87, Tryz.ntmps87
        go_wp2_with fail
        refine HW.out.mono ?_
        rintro e w1 ⟨rfl, hb1⟩
        go_wp2_with fail
        go_ret
        exact ⟨ret_bool (by first | (simp; done) | (simp; omega)), hb1⟩
  · by_cases e3 : k = 3
    · subst e3
      have HW := Lib.hid (titled_any s hs w HT.out)
      have HR := Lib.hid (vt_3 s.data.toList)
      generalize vText 3 s.data.toList = r at *
      generalize titE s.data.toList = q at *
      go_enter Tryz.func87, Tryz.ntmps87
      go_wp2_with fail
      refine HW.out.mono ?_
      rintro e w1 ⟨rfl, rfl⟩
      go_wp2_with fail
      go_ret
      exact ⟨ret_bool (by rw [HR.out]), (by repeat (first | with_reducible exact Below.refl _ _ | (with_reducible refine Below.setCell ?_ (by first | exact Nat.le_refl _ | omega | (simp; done) | (simp; omega)) _) | (with_reducible refine Below.alloc ?_ (by first | exact Nat.le_refl _ | omega | (simp; done) | (simp; omega)) _) | with_reducible refine Below.drew ?_ | with_reducible refine bel_drewN ?_ _ | (with_reducible refine bel_by (by with_reducible assumption) (by first | exact Nat.le_refl _ | omega | (simp; done) | (simp; omega)) ?_)))⟩
    · by_cases e4 : k = 4
      · subst e4
        have HR := Lib.hid (vt_4 s.data.toList)
        have HG := Lib.hid (show sigB s.data.toList = (s.data.toList.length == 1 && s.data.toList.head?.map kB == some 8) from rfl)
        rw [list_size] at HG
        generalize vText 4 s.data.toList = r at *
        generalize sigB s.data.toList = g at *
        by_cases h : s.size = 1
        · have hp : 0 < s.size := by omega
          have HH := Lib.hid (head_byte hp)
          have HK := Lib.hid (kind_any (s[0]'hp) w HT.out)
          have k1 : (((s.size : Int)) == 1) = true := by simp; omega
          have HZ := Lib.hid (show r = (((kB (s[0]'hp) : Nat) : Int) == 8) by
            rw [HR.out, HG.out, HH.out, h]
            rw [Bool.eq_iff_iff]
            simp
            omega)
          clear HR HG HH h e1 e3
          generalize ((kB (s[0]'hp) : Nat) : Int) = q at *
          go_enter Tryz.func87, Tryz.ntmps87
          go_wp2_with fail
          refine HK.out.mono ?_
          rintro e w1 ⟨rfl, rfl⟩
          go_wp2_with fail
          go_ret
          exact ⟨ret_bool HZ.out.symm, (by repeat (first | with_reducible exact Below.refl _ _ | (with_reducible refine Below.setCell ?_ (by first | exact Nat.le_refl _ | omega | (simp; done) | (simp; omega)) _) | (with_reducible refine Below.alloc ?_ (by first | exact Nat.le_refl _ | omega | (simp; done) | (simp; omega)) _) | with_reducible refine Below.drew ?_ | with_reducible refine bel_drewN ?_ _ | (with_reducible refine bel_by (by with_reducible assumption) (by first | exact Nat.le_refl _ | omega | (simp; done) | (simp; omega)) ?_)))⟩
        · have k1 : (((s.size : Int)) == 1) = false := by simp; omega
          have HZ := Lib.hid (show r = false by
            rw [HR.out, HG.out]
            simp [h])
          clear HR HG h e1 e3
          go_enter Tryz.func87, Tryz.ntmps87
          go_wp2_with fail
          go_ret
          exact ⟨ret_bool HZ.out.symm, (by repeat (first | with_reducible exact Below.refl _ _ | (with_reducible refine Below.setCell ?_ (by first | exact Nat.le_refl _ | omega | (simp; done) | (simp; omega)) _) | (with_reducible refine Below.alloc ?_ (by first | exact Nat.le_refl _ | omega | (simp; done) | (simp; omega)) _) | with_reducible refine Below.drew ?_ | with_reducible refine bel_drewN ?_ _ | (with_reducible refine bel_by (by with_reducible assumption) (by first | exact Nat.le_refl _ | omega | (simp; done) | (simp; omega)) ?_)))⟩
      · by_cases e5 : k = 5
        · subst e5
          have HR := Lib.hid (vt_5 s.data.toList)
          generalize vText 5 s.data.toList = r at *
          by_cases h : s.size = 0
          · obtain ⟨k1, k2⟩ := str_empty h
            have HZ := Lib.hid (show r = true by rw [HR.out, size0 h]; rfl)
            clear HR h
            go_enter Tryz.func87, Tryz.ntmps87
            go_wp2_with fail
            go_ret
            exact ⟨ret_bool (by simp [HZ.out, k1, k2]), (by repeat (first | with_reducible exact Below.refl _ _ | (with_reducible refine Below.setCell ?_ (by first | exact Nat.le_refl _ | omega | (simp; done) | (simp; omega)) _) | (with_reducible refine Below.alloc ?_ (by first | exact Nat.le_refl _ | omega | (simp; done) | (simp; omega)) _) | with_reducible refine Below.drew ?_ | with_reducible refine bel_drewN ?_ _ | (with_reducible refine bel_by (by with_reducible assumption) (by first | exact Nat.le_refl _ | omega | (simp; done) | (simp; omega)) ?_)))⟩
          · obtain ⟨k1, k2⟩ := str_full (show 0 < s.size by omega)
            have HZ := Lib.hid (show r = false by
              rw [HR.out]
              cases hh : s.data.toList with
              | nil => have := list_size s; rw [hh] at this; simp at this; omega
              | cons c t => rfl)
            clear HR h
            go_enter Tryz.func87, Tryz.ntmps87
            go_wp2_with fail
            go_ret
            exact ⟨ret_bool (by simp [HZ.out, k1, k2]), (by repeat (first | with_reducible exact Below.refl _ _ | (with_reducible refine Below.setCell ?_ (by first | exact Nat.le_refl _ | omega | (simp; done) | (simp; omega)) _) | (with_reducible refine Below.alloc ?_ (by first | exact Nat.le_refl _ | omega | (simp; done) | (simp; omega)) _) | with_reducible refine Below.drew ?_ | with_reducible refine bel_drewN ?_ _ | (with_reducible refine bel_by (by with_reducible assumption) (by first | exact Nat.le_refl _ | omega | (simp; done) | (simp; omega)) ?_)))⟩
        · have HZ := Lib.hid (vt_no s.data.toList e1 e3 e4 e5)
          have k1 : (k == 1) = false := by simpa using e1
          have k3 : (k == 3) = false := by simpa using e3
          have k4 : (k == 4) = false := by simpa using e4
          have k5 : (k == 5) = false := by simpa using e5
          clear e1 e3 e4 e5
          go_enter Tryz.func87, Tryz.ntmps87
          go_wp2_with fail
          go_ret
          exact ⟨ret_bool HZ.out.symm, (by repeat (first | with_reducible exact Below.refl _ _ | (with_reducible refine Below.setCell ?_ (by first | exact Nat.le_refl _ | omega | (simp; done) | (simp; omega)) _) | (with_reducible refine Below.alloc ?_ (by first | exact Nat.le_refl _ | omega | (simp; done) | (simp; omega)) _) | with_reducible refine Below.drew ?_ | with_reducible refine bel_drewN ?_ _ | (with_reducible refine bel_by (by with_reducible assumption) (by first | exact Nat.le_refl _ | omega | (simp; done) | (simp; omega)) ?_)))⟩
end Go.Proofs.YtohalocbghhenaaGreatDoor
