/- The law of Valid and Spell: for every token. -/
import Derived.Test.YtmokeegebbmdhaaGreatDoorAwk
import Derived.Test.YtmokeegebbmdhaaGreatDoorRefI
set_option linter.unusedSimpArgs false
set_option linter.unusedVariables false
namespace Go.Proofs.YtmokeegebbmdhaaGreatDoor
open Go.RowKit

theorem tk_setA {w : World} {b : Nat} {t : Tk} (h : TkAt w b t) (x : Int) : TkAt (w.setCell ⟨b, 3, none⟩ (.int .i64 x)) b { t with a := x } := by
  obtain ⟨c0, c1, c2, c3, f, l⟩ := h
  refine ⟨?_, ?_, ?_, ?_, fun k => ?_, ?_⟩
  · rw [World.cell?_setCell_other w ⟨b, 3, none⟩ ⟨b, 0, none⟩ _ (by simp)]; exact c0
  · rw [World.cell?_setCell_other w ⟨b, 3, none⟩ ⟨b, 1, none⟩ _ (by simp)]; exact c1
  · rw [World.cell?_setCell_other w ⟨b, 3, none⟩ ⟨b, 2, none⟩ _ (by simp)]; exact c2
  · exact World.cell?_setCell_same _ _ _ c3
  · rw [World.frozen?_setCell]; exact f k
  · simp; exact l
theorem SlT.set {w : World} {a : Option Addr} {b off len cap : Nat} {L : List Tk} (h : SlT w a b off len cap L) (p : Addr) (hp : p.block ≠ b) (v : Value) : SlT (w.setCell p v) a b off len cap L := by
  have o : ∀ k, (w.setCell p v).cell? ⟨b, k, none⟩ = w.cell? ⟨b, k, none⟩ := fun k => World.cell?_setCell_other w p ⟨b, k, none⟩ v (by intro e; apply hp; rw [e])
  obtain ⟨h1, h2, h3, h4, h5, h6, h7, h8, h9⟩ := h
  exact ⟨h1, h2, fun h => by simp; exact h3 h, h4, h5, fun k hk => (o _).trans (h6 k hk), fun k hk => (o _).trans (h7 k hk), fun k hk => (o _).trans (h8 k hk), fun k hk => (o _).trans (h9 k hk)⟩
theorem undrew {B : Nat} {W w : World} (h : Below B W.drew w) : Below B W w := (Below.refl B W).drew.trans h
set_option maxHeartbeats 8000000 in
set_option maxRecDepth 100000 in
theorem spells_walk (t : Tk) (hs : t.t.size ≤ 9223372036854775807) (w : World) (hT : Tabs w) :
    Calls Tryz.prog 5 #[t.val] w fun e w' => e = .returned (.bool true) ∧ Below w.heap.size w w' := by
  have HA := Lib.hid (fun W hW => awake_any W hW)
  have HT := Lib.hid hT
  clear hT
  by_cases hz : 100 < t.t.size
  · obtain ⟨k, s, n, a⟩ := t
    simp only [Tk.val] at hs hz ⊢
    have k1 : decide ((s.size : Int) > 100) = true := decide_eq_true (by omega)
    have k2 : (100 : Int) < (s.size : Int) := by omega
    go_enter Tryz.func5, Tryz.ntmps5
    go_wp2_with fail
    refine (HA.out _ (HT.out.below (by repeat (first | with_reducible exact Below.refl _ _ | (with_reducible refine Below.setCell ?_ (by first | exact Nat.le_refl _ | omega | (simp; done) | (simp; omega)) _) | (with_reducible refine Below.alloc ?_ (by first | exact Nat.le_refl _ | omega | (simp; done) | (simp; omega)) _) | with_reducible refine Below.drew ?_ | with_reducible refine bel_drewN ?_ _ | (with_reducible refine bel_by (by with_reducible assumption) (by first | exact Nat.le_refl _ | omega | (simp; done) | (simp; omega)) ?_))))).mono ?_
    rintro e w1 ⟨rfl, hb1⟩
    have hz1 := bsize hb1
    simp at hz1
    have HB := Lib.hid (show Below w.heap.size w w1 from (by repeat (first | with_reducible exact Below.refl _ _ | (with_reducible refine Below.setCell ?_ (by first | exact Nat.le_refl _ | omega | (simp; done) | (simp; omega)) _) | (with_reducible refine Below.alloc ?_ (by first | exact Nat.le_refl _ | omega | (simp; done) | (simp; omega)) _) | with_reducible refine Below.drew ?_ | with_reducible refine bel_drewN ?_ _ | (with_reducible refine bel_by (by with_reducible assumption) (by first | exact Nat.le_refl _ | omega | (simp; done) | (simp; omega)) ?_))))
    clear hb1
    go_wp2_with fail
    go_ret
    exact ⟨rfl, HB.out⟩
  · have HSP := Lib.hid (fun W hW => spell_any t (by omega) W hW)
    have HV := Lib.hid (fun W hW => valid_any t (by omega) W hW)
    have HRV := Lib.hid (fun W hW => rvalid_any t (by omega) W hW)
    have HRS := Lib.hid (fun (x : Int) W hW => rSpell_any { t with a := x } (by show t.t.size ≤ _; omega) W hW)
    have HSO := Lib.hid (fun h => @spellS_ok t h)
    have HSN := Lib.hid (fun h => @spellS_no t h)
    have HLX := Lib.hid (fun h h5 => lexS_spell t h h5)
    cases hv : validT t with
    | false =>
      rw [hv] at HV HRV
      have hsp := HSN.out hv
      rw [hsp] at HSP
      obtain ⟨k, s, n, a⟩ := t
      simp only [Tk.val, bs] at hs hz HSP HV HRV ⊢
      have k1 : decide ((s.size : Int) > 100) = false := decide_eq_false (by omega)
      have k2 : ¬ (100 : Int) < (s.size : Int) := by omega
      clear HRS HSO HSN HLX hsp hv
      go_enter Tryz.func5, Tryz.ntmps5
      go_wp2_with fail
      refine (HSP.out _ (HT.out.below (by repeat (first | with_reducible exact Below.refl _ _ | (with_reducible refine Below.setCell ?_ (by first | exact Nat.le_refl _ | omega | (simp; done) | (simp; omega)) _) | (with_reducible refine Below.alloc ?_ (by first | exact Nat.le_refl _ | omega | (simp; done) | (simp; omega)) _) | with_reducible refine Below.drew ?_ | with_reducible refine bel_drewN ?_ _ | (with_reducible refine bel_by (by with_reducible assumption) (by first | exact Nat.le_refl _ | omega | (simp; done) | (simp; omega)) ?_))))).mono ?_
      rintro e w1 ⟨rfl, hb1⟩
      have hz1 := bsize hb1
      simp at hz1
      have HB1 := Lib.hid (show Below w.heap.size w w1 from (by repeat (first | with_reducible exact Below.refl _ _ | (with_reducible refine Below.setCell ?_ (by first | exact Nat.le_refl _ | omega | (simp; done) | (simp; omega)) _) | (with_reducible refine Below.alloc ?_ (by first | exact Nat.le_refl _ | omega | (simp; done) | (simp; omega)) _) | with_reducible refine Below.drew ?_ | with_reducible refine bel_drewN ?_ _ | (with_reducible refine bel_by (by with_reducible assumption) (by first | exact Nat.le_refl _ | omega | (simp; done) | (simp; omega)) ?_))))
      have HK1 := Lib.hid ((tk_new w ⟨k, s, n, a⟩ 32).keep hb1)
      obtain ⟨c0, c1, c2, c3, cf, cl⟩ := HK1.out
      clear hb1
      go_wp2_with fail
      go_cut [17, 18, 19, 20, 21] (fun s17 s18 s19 s20 s21 wx => s21 = .bool false ∧ Hid (Below w1.heap.size w1 wx))
      case first =>
        have hBB : Below w1.heap.size w1 w1 := Below.refl _ _
        go_region_held3 (fun w' => w'.cell? ⟨w.heap.size, 0, none⟩ = some (.int .i64 k) ∧ w'.cell? ⟨w.heap.size, 1, none⟩ = some (.string s) ∧ w'.cell? ⟨w.heap.size, 2, none⟩ = some (.int .i64 n) ∧ w'.cell? ⟨w.heap.size, 3, none⟩ = some (.int .i64 a))
          ((first | (simp [go_sem, c0, c1, c2, c3]; done)))
          (first
            | (go_at_call 14; (refine (HV.out _ ?tab).mono ?_); (case tab => exact HT.out.below (HB1.out.trans (Below.mono (B := w1.heap.size) (by repeat (first | with_reducible exact Below.refl _ _ | (with_reducible refine Below.setCell ?_ (by first | exact Nat.le_refl _ | omega | (simp; done) | (simp; omega)) _) | (with_reducible refine Below.alloc ?_ (by first | exact Nat.le_refl _ | omega | (simp; done) | (simp; omega)) _) | with_reducible refine Below.drew ?_ | with_reducible refine bel_drewN ?_ _ | (with_reducible refine bel_by (by with_reducible assumption) (by first | exact Nat.le_refl _ | omega | (simp; done) | (simp; omega)) ?_))) (by omega)))); rintro e v1 ⟨rfl, hb⟩; (repeat (with_reducible replace hb := undrew hb)); have c0 := (hb.cell (p := ⟨w.heap.size, 0, none⟩) cl).trans c0; have c1 := (hb.cell (p := ⟨w.heap.size, 1, none⟩) cl).trans c1; have c2 := (hb.cell (p := ⟨w.heap.size, 2, none⟩) cl).trans c2; have c3 := (hb.cell (p := ⟨w.heap.size, 3, none⟩) cl).trans c3; have hz := hb.size; have cl := Nat.lt_of_lt_of_le cl hz; have hBB := hBB.trans (Below.mono (B' := w1.heap.size) hb (by first | exact Nat.le_refl _ | exact hBB.size)); clear hb)
            | (go_at_call 15; (refine (HRV.out _ ?tab).mono ?_); (case tab => exact HT.out.below (HB1.out.trans (Below.mono (B := w1.heap.size) (by repeat (first | with_reducible exact Below.refl _ _ | (with_reducible refine Below.setCell ?_ (by first | exact Nat.le_refl _ | omega | (simp; done) | (simp; omega)) _) | (with_reducible refine Below.alloc ?_ (by first | exact Nat.le_refl _ | omega | (simp; done) | (simp; omega)) _) | with_reducible refine Below.drew ?_ | with_reducible refine bel_drewN ?_ _ | (with_reducible refine bel_by (by with_reducible assumption) (by first | exact Nat.le_refl _ | omega | (simp; done) | (simp; omega)) ?_))) (by omega)))); rintro e v2 ⟨rfl, hb⟩; (repeat (with_reducible replace hb := undrew hb)); have c0 := (hb.cell (p := ⟨w.heap.size, 0, none⟩) cl).trans c0; have c1 := (hb.cell (p := ⟨w.heap.size, 1, none⟩) cl).trans c1; have c2 := (hb.cell (p := ⟨w.heap.size, 2, none⟩) cl).trans c2; have c3 := (hb.cell (p := ⟨w.heap.size, 3, none⟩) cl).trans c3; have hz := hb.size; have cl := Nat.lt_of_lt_of_le cl hz; have hBB := hBB.trans (Below.mono (B' := w1.heap.size) hb (by first | exact Nat.le_refl _ | exact hBB.size)); clear hb))
        all_goals
          go_wp2_with fail
          go_meet
          exact ⟨rfl, Lib.hid (by repeat (first | with_reducible exact Below.refl _ _ | (with_reducible refine Below.setCell ?_ (by first | exact Nat.le_refl _ | omega | (simp; done) | (simp; omega)) _) | (with_reducible refine Below.alloc ?_ (by first | exact Nat.le_refl _ | omega | (simp; done) | (simp; omega)) _) | with_reducible refine Below.drew ?_ | with_reducible refine bel_drewN ?_ _ | (with_reducible refine bel_by (by with_reducible assumption) (by first | exact Nat.le_refl _ | omega | (simp; done) | (simp; omega)) ?_)))⟩
      obtain ⟨rfl, HBC⟩ := hcut
      generalize wc = w2 at *
      have HK2 := Lib.hid (HK1.out.keep HBC.out)
      have HB2 := Lib.hid (bel_by HBC.out (by omega) HB1.out)
      have HT2 := Lib.hid (HT.out.below HB2.out)
      clear c0 c1 c2 c3 cf cl HBC HK1
      obtain ⟨c0, c1, c2, c3, cf, cl⟩ := HK2.out
      go_wp2_with fail
      refine (HRV.out _ HT2.out).mono ?_
      rintro e w3 ⟨rfl, hb3⟩
      have hs3 := hb3.size
      have HB3 := Lib.hid (bel_by hb3 (by omega) HB2.out)
      have HK3 := Lib.hid (HK2.out.keep hb3)
      have HT3 := Lib.hid (HT.out.below HB3.out)
      clear hb3 c0 c1 c2 c3 cf cl HK2
      obtain ⟨c0, c1, c2, c3, cf, cl⟩ := HK3.out
      go_wp2_with fail
      refine (HA.out _ HT3.out).mono ?_
      rintro e w4 ⟨rfl, hb4⟩
      have HB4 := Lib.hid (bel_by hb4 (by omega) HB3.out)
      clear hb4
      go_wp2_with fail
      go_ret
      exact ⟨by first | rfl | (simp; done), HB4.out⟩
    | true =>
      rw [hv] at HV HRV
      have hsp := HSO.out hv
      rw [hsp] at HSP
      have hlx := HLX.out hv
      have hrs := @rsp_ok t hv
      have hshort := valid_short t hv
      by_cases h5 : t.k = 5
      · have hvt : spellT t = [] := by
          unfold validT at hv
          rw [if_neg (by omega), h5, vt_5, Bool.and_eq_true] at hv
          unfold spellT
          rw [if_neg (by omega), if_neg (by omega)]
          simpa using hv.2
        rw [hvt] at HSP
        obtain ⟨k, s, n, a⟩ := t
        simp only [Tk.val, bs] at hs hz HSP HV HRV h5 ⊢
        subst h5
        have k1 : decide ((s.size : Int) > 100) = false := decide_eq_false (by omega)
        have k2 : ¬ (100 : Int) < (s.size : Int) := by omega
        have HLE := Lib.hid (fun W hW => lex_any ⟨#[]⟩ W hW)
        rw [show lexS ⟨#[]⟩ = ([⟨5, bs [], 0, 0⟩], 0, 0) by decide +kernel] at HLE
        unfold LexPost fV at HLE
        simp only at HLE
        clear HRS HSO HSN HLX hsp hv hlx hrs hvt
        go_enter Tryz.func5, Tryz.ntmps5
        go_wp2_with fail
        refine (HSP.out _ (HT.out.below (by repeat (first | with_reducible exact Below.refl _ _ | (with_reducible refine Below.setCell ?_ (by first | exact Nat.le_refl _ | omega | (simp; done) | (simp; omega)) _) | (with_reducible refine Below.alloc ?_ (by first | exact Nat.le_refl _ | omega | (simp; done) | (simp; omega)) _) | with_reducible refine Below.drew ?_ | with_reducible refine bel_drewN ?_ _ | (with_reducible refine bel_by (by with_reducible assumption) (by first | exact Nat.le_refl _ | omega | (simp; done) | (simp; omega)) ?_))))).mono ?_
        rintro e w1 ⟨rfl, hb1⟩
        have hz1 := bsize hb1
        simp at hz1
        have HB1 := Lib.hid (show Below w.heap.size w w1 from (by repeat (first | with_reducible exact Below.refl _ _ | (with_reducible refine Below.setCell ?_ (by first | exact Nat.le_refl _ | omega | (simp; done) | (simp; omega)) _) | (with_reducible refine Below.alloc ?_ (by first | exact Nat.le_refl _ | omega | (simp; done) | (simp; omega)) _) | with_reducible refine Below.drew ?_ | with_reducible refine bel_drewN ?_ _ | (with_reducible refine bel_by (by with_reducible assumption) (by first | exact Nat.le_refl _ | omega | (simp; done) | (simp; omega)) ?_))))
        have HK1 := Lib.hid ((tk_new w ⟨5, s, n, a⟩ 32).keep hb1)
        obtain ⟨c0, c1, c2, c3, cf, cl⟩ := HK1.out
        clear hb1
        go_wp2_with fail
        go_cut [17, 18, 19, 20, 21] (fun s17 s18 s19 s20 s21 wx => s21 = .bool false ∧ Hid (Below w1.heap.size w1 wx))
        case first =>
          have hBB : Below w1.heap.size w1 w1 := Below.refl _ _
          go_region_held3 (fun w' => w'.cell? ⟨w.heap.size, 0, none⟩ = some (.int .i64 5) ∧ w'.cell? ⟨w.heap.size, 1, none⟩ = some (.string s) ∧ w'.cell? ⟨w.heap.size, 2, none⟩ = some (.int .i64 n) ∧ w'.cell? ⟨w.heap.size, 3, none⟩ = some (.int .i64 a))
            ((first | (simp [go_sem, c0, c1, c2, c3]; done)))
            (first
              | (go_at_call 14; (refine (HV.out _ ?tab).mono ?_); (case tab => exact HT.out.below (HB1.out.trans (Below.mono (B := w1.heap.size) (by repeat (first | with_reducible exact Below.refl _ _ | (with_reducible refine Below.setCell ?_ (by first | exact Nat.le_refl _ | omega | (simp; done) | (simp; omega)) _) | (with_reducible refine Below.alloc ?_ (by first | exact Nat.le_refl _ | omega | (simp; done) | (simp; omega)) _) | with_reducible refine Below.drew ?_ | with_reducible refine bel_drewN ?_ _ | (with_reducible refine bel_by (by with_reducible assumption) (by first | exact Nat.le_refl _ | omega | (simp; done) | (simp; omega)) ?_))) (by omega)))); rintro e v1 ⟨rfl, hb⟩; (repeat (with_reducible replace hb := undrew hb)); have c0 := (hb.cell (p := ⟨w.heap.size, 0, none⟩) cl).trans c0; have c1 := (hb.cell (p := ⟨w.heap.size, 1, none⟩) cl).trans c1; have c2 := (hb.cell (p := ⟨w.heap.size, 2, none⟩) cl).trans c2; have c3 := (hb.cell (p := ⟨w.heap.size, 3, none⟩) cl).trans c3; have hz := hb.size; have cl := Nat.lt_of_lt_of_le cl hz; have hBB := hBB.trans (Below.mono (B' := w1.heap.size) hb (by first | exact Nat.le_refl _ | exact hBB.size)); clear hb)
              | (go_at_call 15; (refine (HRV.out _ ?tab).mono ?_); (case tab => exact HT.out.below (HB1.out.trans (Below.mono (B := w1.heap.size) (by repeat (first | with_reducible exact Below.refl _ _ | (with_reducible refine Below.setCell ?_ (by first | exact Nat.le_refl _ | omega | (simp; done) | (simp; omega)) _) | (with_reducible refine Below.alloc ?_ (by first | exact Nat.le_refl _ | omega | (simp; done) | (simp; omega)) _) | with_reducible refine Below.drew ?_ | with_reducible refine bel_drewN ?_ _ | (with_reducible refine bel_by (by with_reducible assumption) (by first | exact Nat.le_refl _ | omega | (simp; done) | (simp; omega)) ?_))) (by omega)))); rintro e v2 ⟨rfl, hb⟩; (repeat (with_reducible replace hb := undrew hb)); have c0 := (hb.cell (p := ⟨w.heap.size, 0, none⟩) cl).trans c0; have c1 := (hb.cell (p := ⟨w.heap.size, 1, none⟩) cl).trans c1; have c2 := (hb.cell (p := ⟨w.heap.size, 2, none⟩) cl).trans c2; have c3 := (hb.cell (p := ⟨w.heap.size, 3, none⟩) cl).trans c3; have hz := hb.size; have cl := Nat.lt_of_lt_of_le cl hz; have hBB := hBB.trans (Below.mono (B' := w1.heap.size) hb (by first | exact Nat.le_refl _ | exact hBB.size)); clear hb))
          all_goals
            go_wp2_with fail
            go_meet
            exact ⟨rfl, Lib.hid (by repeat (first | with_reducible exact Below.refl _ _ | (with_reducible refine Below.setCell ?_ (by first | exact Nat.le_refl _ | omega | (simp; done) | (simp; omega)) _) | (with_reducible refine Below.alloc ?_ (by first | exact Nat.le_refl _ | omega | (simp; done) | (simp; omega)) _) | with_reducible refine Below.drew ?_ | with_reducible refine bel_drewN ?_ _ | (with_reducible refine bel_by (by with_reducible assumption) (by first | exact Nat.le_refl _ | omega | (simp; done) | (simp; omega)) ?_)))⟩
        obtain ⟨rfl, HBC⟩ := hcut
        generalize wc = w2 at *
        have HK2 := Lib.hid (HK1.out.keep HBC.out)
        have HB2 := Lib.hid (bel_by HBC.out (by omega) HB1.out)
        have HT2 := Lib.hid (HT.out.below HB2.out)
        clear c0 c1 c2 c3 cf cl HBC HK1
        obtain ⟨c0, c1, c2, c3, cf, cl⟩ := HK2.out
        go_wp2_with fail
        refine (HRV.out _ HT2.out).mono ?_
        rintro e w3 ⟨rfl, hb3⟩
        have hs3 := hb3.size
        have HB3 := Lib.hid (bel_by hb3 (by omega) HB2.out)
        have HK3 := Lib.hid (HK2.out.keep hb3)
        have HT3 := Lib.hid (HT.out.below HB3.out)
        clear hb3 c0 c1 c2 c3 cf cl HK2
        obtain ⟨c0, c1, c2, c3, cf, cl⟩ := HK3.out
        go_wp2_with fail
        refine (HLE.out _ HT3.out).mono ?_
        rintro e w4 ⟨v4, rfl, ho4, hb4⟩
        have hs4 := hb4.size
        have HB4 := Lib.hid (bel_by hb4 (by omega) HB3.out)
        have HB4a := Lib.hid (HB4.out.alloc (by omega) (.cells #[.int .i64 0, .int .i64 0] 26))
        have hlw : w.heap.size < w4.heap.size := by omega
        have HB4b := Lib.hid (show Below w.heap.size w ((w4.setCell ⟨w.heap.size, 3, none⟩ (.int .i64 0)).alloc (.cells #[.int .i64 0, .int .i64 0] 26)) from (HB4.out.setCell (Nat.le_refl _) _).alloc (by simp; omega) _)
        clear c0 c1 c2 c3 cf cl
        obtain ⟨c0, c1, c2, c3, cf, cl⟩ := HK3.out.keep hb4
        clear hb4 ho4
        go_wp2_with fail
        refine (HA.out _ (HT.out.below (by first | exact HB4b.out | exact HB4a.out))).mono ?_
        rintro e w5 ⟨rfl, hb5⟩
        have HB5 := Lib.hid (bel_by hb5 (by simp; omega) HB4b.out)
        clear hb5
        go_wp2_with fail
        go_ret
        exact ⟨by first | rfl | (simp; done), HB5.out⟩
      · have hlx5 := hlx h5
        have hrs5 := hrs h5
        obtain ⟨D, hD⟩ : ∃ D, bs (spellT t) = D := ⟨_, rfl⟩
        have hDl : spellT t = D.data.toList := by rw [← hD, bs_data]
        have hDz : D.size ≤ 42 := by rw [← list_size, ← hDl]; exact spell_len t hv
        have HLE := Lib.hid (fun W hW => lex_any D W hW)
        have hRS := HRS.out 0
        rw [show rspL { t with a := (0 : Int) } = rspL t from rfl, hrs5, hD] at hRS
        have HRSD := Lib.hid hRS
        rw [hD, hDl, list_size] at hlx5
        rw [hlx5] at HLE
        simp only [hD] at HSP
        unfold LexPost fV at HLE
        simp only [zeroA] at HLE
        clear HRS HSO HSN HLX hsp hv hlx hrs hlx5 hrs5 hD hDl hRS
        obtain ⟨k, s, n, a⟩ := t
        simp only [Tk.val] at hs hz HSP HV HRV HRSD HLE h5 ⊢
        have q5 : (k == 5) = false := by simpa using h5
        have k1 : decide ((s.size : Int) > 100) = false := decide_eq_false (by omega)
        have k2 : ¬ (100 : Int) < (s.size : Int) := by omega
        clear h5
        go_enter Tryz.func5, Tryz.ntmps5
        go_wp2_with fail
        refine (HSP.out _ (HT.out.below (by repeat (first | with_reducible exact Below.refl _ _ | (with_reducible refine Below.setCell ?_ (by first | exact Nat.le_refl _ | omega | (simp; done) | (simp; omega)) _) | (with_reducible refine Below.alloc ?_ (by first | exact Nat.le_refl _ | omega | (simp; done) | (simp; omega)) _) | with_reducible refine Below.drew ?_ | with_reducible refine bel_drewN ?_ _ | (with_reducible refine bel_by (by with_reducible assumption) (by first | exact Nat.le_refl _ | omega | (simp; done) | (simp; omega)) ?_))))).mono ?_
        rintro e w1 ⟨rfl, hb1⟩
        have hz1 := bsize hb1
        simp at hz1
        have HB1 := Lib.hid (show Below w.heap.size w w1 from (by repeat (first | with_reducible exact Below.refl _ _ | (with_reducible refine Below.setCell ?_ (by first | exact Nat.le_refl _ | omega | (simp; done) | (simp; omega)) _) | (with_reducible refine Below.alloc ?_ (by first | exact Nat.le_refl _ | omega | (simp; done) | (simp; omega)) _) | with_reducible refine Below.drew ?_ | with_reducible refine bel_drewN ?_ _ | (with_reducible refine bel_by (by with_reducible assumption) (by first | exact Nat.le_refl _ | omega | (simp; done) | (simp; omega)) ?_))))
        have HK1 := Lib.hid ((tk_new w ⟨k, s, n, a⟩ 32).keep hb1)
        obtain ⟨c0, c1, c2, c3, cf, cl⟩ := HK1.out
        clear hb1
        go_wp2_with fail
        go_cut [17, 18, 19, 20, 21] (fun s17 s18 s19 s20 s21 wx => s21 = .bool false ∧ Hid (Below w1.heap.size w1 wx))
        case first =>
          have hBB : Below w1.heap.size w1 w1 := Below.refl _ _
          go_region_held3 (fun w' => w'.cell? ⟨w.heap.size, 0, none⟩ = some (.int .i64 k) ∧ w'.cell? ⟨w.heap.size, 1, none⟩ = some (.string s) ∧ w'.cell? ⟨w.heap.size, 2, none⟩ = some (.int .i64 n) ∧ w'.cell? ⟨w.heap.size, 3, none⟩ = some (.int .i64 a))
            ((first | (simp [go_sem, c0, c1, c2, c3]; done)))
            (first
              | (go_at_call 14; (refine (HV.out _ ?tab).mono ?_); (case tab => exact HT.out.below (HB1.out.trans (Below.mono (B := w1.heap.size) (by repeat (first | with_reducible exact Below.refl _ _ | (with_reducible refine Below.setCell ?_ (by first | exact Nat.le_refl _ | omega | (simp; done) | (simp; omega)) _) | (with_reducible refine Below.alloc ?_ (by first | exact Nat.le_refl _ | omega | (simp; done) | (simp; omega)) _) | with_reducible refine Below.drew ?_ | with_reducible refine bel_drewN ?_ _ | (with_reducible refine bel_by (by with_reducible assumption) (by first | exact Nat.le_refl _ | omega | (simp; done) | (simp; omega)) ?_))) (by omega)))); rintro e v1 ⟨rfl, hb⟩; (repeat (with_reducible replace hb := undrew hb)); have c0 := (hb.cell (p := ⟨w.heap.size, 0, none⟩) cl).trans c0; have c1 := (hb.cell (p := ⟨w.heap.size, 1, none⟩) cl).trans c1; have c2 := (hb.cell (p := ⟨w.heap.size, 2, none⟩) cl).trans c2; have c3 := (hb.cell (p := ⟨w.heap.size, 3, none⟩) cl).trans c3; have hz := hb.size; have cl := Nat.lt_of_lt_of_le cl hz; have hBB := hBB.trans (Below.mono (B' := w1.heap.size) hb (by first | exact Nat.le_refl _ | exact hBB.size)); clear hb)
              | (go_at_call 15; (refine (HRV.out _ ?tab).mono ?_); (case tab => exact HT.out.below (HB1.out.trans (Below.mono (B := w1.heap.size) (by repeat (first | with_reducible exact Below.refl _ _ | (with_reducible refine Below.setCell ?_ (by first | exact Nat.le_refl _ | omega | (simp; done) | (simp; omega)) _) | (with_reducible refine Below.alloc ?_ (by first | exact Nat.le_refl _ | omega | (simp; done) | (simp; omega)) _) | with_reducible refine Below.drew ?_ | with_reducible refine bel_drewN ?_ _ | (with_reducible refine bel_by (by with_reducible assumption) (by first | exact Nat.le_refl _ | omega | (simp; done) | (simp; omega)) ?_))) (by omega)))); rintro e v2 ⟨rfl, hb⟩; (repeat (with_reducible replace hb := undrew hb)); have c0 := (hb.cell (p := ⟨w.heap.size, 0, none⟩) cl).trans c0; have c1 := (hb.cell (p := ⟨w.heap.size, 1, none⟩) cl).trans c1; have c2 := (hb.cell (p := ⟨w.heap.size, 2, none⟩) cl).trans c2; have c3 := (hb.cell (p := ⟨w.heap.size, 3, none⟩) cl).trans c3; have hz := hb.size; have cl := Nat.lt_of_lt_of_le cl hz; have hBB := hBB.trans (Below.mono (B' := w1.heap.size) hb (by first | exact Nat.le_refl _ | exact hBB.size)); clear hb))
          all_goals
            go_wp2_with fail
            go_meet
            exact ⟨rfl, Lib.hid (by repeat (first | with_reducible exact Below.refl _ _ | (with_reducible refine Below.setCell ?_ (by first | exact Nat.le_refl _ | omega | (simp; done) | (simp; omega)) _) | (with_reducible refine Below.alloc ?_ (by first | exact Nat.le_refl _ | omega | (simp; done) | (simp; omega)) _) | with_reducible refine Below.drew ?_ | with_reducible refine bel_drewN ?_ _ | (with_reducible refine bel_by (by with_reducible assumption) (by first | exact Nat.le_refl _ | omega | (simp; done) | (simp; omega)) ?_)))⟩
        obtain ⟨rfl, HBC⟩ := hcut
        generalize wc = w2 at *
        have HK2 := Lib.hid (HK1.out.keep HBC.out)
        have HB2 := Lib.hid (bel_by HBC.out (by omega) HB1.out)
        have HT2 := Lib.hid (HT.out.below HB2.out)
        clear c0 c1 c2 c3 cf cl HBC HK1
        obtain ⟨c0, c1, c2, c3, cf, cl⟩ := HK2.out
        go_wp2_with fail
        refine (HRV.out _ HT2.out).mono ?_
        rintro e w3 ⟨rfl, hb3⟩
        have hs3 := hb3.size
        have HB3 := Lib.hid (bel_by hb3 (by omega) HB2.out)
        have HK3 := Lib.hid (HK2.out.keep hb3)
        have HT3 := Lib.hid (HT.out.below HB3.out)
        clear hb3 c0 c1 c2 c3 cf cl HK2
        obtain ⟨c0, c1, c2, c3, cf, cl⟩ := HK3.out
        go_wp2_with fail
        refine (HLE.out _ HT3.out).mono ?_
        rintro e w4 ⟨v4, rfl, ho4, hb4⟩
        obtain ⟨a4, b4, cap4, rfl, sl4⟩ := (show ∃ a b cap, v4 = .slice a 2 cap ∧ SlT w4 a b 0 2 cap [⟨k, s, n, 0⟩, ⟨5, bs [], 0, (D.size : Int)⟩] from slt_own ho4)
        obtain rfl := sl4.ha (by decide)
        have hb4g : w3.heap.size ≤ b4 := (ho4.lt b4 rfl).1
        have hcap := sl4.hcap
        have hmax := sl4.hmax
        unfold maxLen at hmax
        have hs4 := hb4.size
        have HB4 := Lib.hid (bel_by hb4 (by omega) HB3.out)
        have hlw : w.heap.size < w4.heap.size := by omega
        have HB5 := Lib.hid (show Below w.heap.size w ((w4.setCell ⟨w.heap.size, 3, none⟩ (.int .i64 0)).alloc (.cells #[.int .i64 0, .int .i64 0] 26)) from (HB4.out.setCell (Nat.le_refl _) _).alloc (by simp; omega) _)
        have HK5 := Lib.hid ((tk_setA (HK3.out.keep hb4) 0).keep ((Below.refl _ _).alloc (Nat.le_refl _) (.cells #[.int .i64 0, .int .i64 0] 26)))
        have HS5 := Lib.hid ((sl4.set ⟨w.heap.size, 3, none⟩ (by simp; omega) (.int .i64 0)).keep ((Below.refl _ _).alloc (Nat.le_refl _) (.cells #[.int .i64 0, .int .i64 0] 26)))
        have hf5 := ft_new (w4.setCell ⟨w.heap.size, 3, none⟩ (.int .i64 0)) 0 0 26
        have hsz : (w4.setCell ⟨w.heap.size, 3, none⟩ (.int .i64 0)).heap.size = w4.heap.size := by simp
        rw [hsz] at hf5
        have HF5 := Lib.hid hf5
        clear c0 c1 c2 c3 cf cl hf5 hsz
        obtain ⟨c0, c1, c2, c3, cf, cl⟩ := HK3.out.keep hb4
        clear hb4 ho4 sl4
        go_wp2_with fail
        clear c0 c1 c2 c3 cf cl
        generalize (w4.setCell ⟨w.heap.size, 3, none⟩ (.int .i64 0)).alloc (.cells #[.int .i64 0, .int .i64 0] 26) = W5 at *
        obtain ⟨c0, c1, c2, c3, cf, cl⟩ := HK5.out
        obtain ⟨f0, f1, ff, fl⟩ := HF5.out
        have sl := HS5.out.hb (by decide)
        have l0 : W5.cell? ⟨b4, 0, none⟩ = some (.int .i64 k) := HS5.out.c0 0 (by simp)
        have l1 : W5.cell? ⟨b4, 1, none⟩ = some (.string s) := HS5.out.c1 0 (by simp)
        have l2 : W5.cell? ⟨b4, 2, none⟩ = some (.int .i64 n) := HS5.out.c2 0 (by simp)
        have l3 : W5.cell? ⟨b4, 3, none⟩ = some (.int .i64 0) := HS5.out.c3 0 (by simp)
        have l7 : W5.cell? ⟨b4, 7, none⟩ = some (.int .i64 (D.size : Int)) := HS5.out.c3 1 (by simp)
        have hBB : Below W5.heap.size W5 W5 := Below.refl _ _
        have hbw5 := HB5.out.size
        go_region_held3 (fun w' => w'.cell? ⟨w.heap.size, 0, none⟩ = some (.int .i64 k) ∧ w'.cell? ⟨w.heap.size, 1, none⟩ = some (.string s) ∧ w'.cell? ⟨w.heap.size, 2, none⟩ = some (.int .i64 n) ∧ w'.cell? ⟨w.heap.size, 3, none⟩ = some (.int .i64 0) ∧ w'.cell? ⟨w4.heap.size, 0, none⟩ = some (.int .i64 0) ∧ w'.cell? ⟨w4.heap.size, 1, none⟩ = some (.int .i64 0) ∧ w'.cell? ⟨b4, 0, none⟩ = some (.int .i64 k) ∧ w'.cell? ⟨b4, 1, none⟩ = some (.string s) ∧ w'.cell? ⟨b4, 2, none⟩ = some (.int .i64 n) ∧ w'.cell? ⟨b4, 3, none⟩ = some (.int .i64 0) ∧ w'.cell? ⟨b4, 7, none⟩ = some (.int .i64 (D.size : Int)))
          ((first | (simp [go_sem, c0, c1, c2, c3, f0, f1, l0, l1, l2, l3, l7]; done)))
          (first
            | (go_at_call 7; (refine (HA.out _ ?tab).mono ?_); (case tab => exact HT.out.below (HB5.out.trans (Below.mono (B := W5.heap.size) (by repeat (first | with_reducible exact Below.refl _ _ | (with_reducible refine Below.setCell ?_ (by first | exact Nat.le_refl _ | omega | (simp; done) | (simp; omega)) _) | (with_reducible refine Below.alloc ?_ (by first | exact Nat.le_refl _ | omega | (simp; done) | (simp; omega)) _) | with_reducible refine Below.drew ?_ | with_reducible refine bel_drewN ?_ _ | (with_reducible refine bel_by (by with_reducible assumption) (by first | exact Nat.le_refl _ | omega | (simp; done) | (simp; omega)) ?_))) (by omega)))); rintro e v1 ⟨rfl, hb⟩; (repeat (with_reducible replace hb := undrew hb)); have c0 := (hb.cell (p := ⟨w.heap.size, 0, none⟩) cl).trans c0; have c1 := (hb.cell (p := ⟨w.heap.size, 1, none⟩) cl).trans c1; have c2 := (hb.cell (p := ⟨w.heap.size, 2, none⟩) cl).trans c2; have c3 := (hb.cell (p := ⟨w.heap.size, 3, none⟩) cl).trans c3; have f0 := (hb.cell (p := ⟨w4.heap.size, 0, none⟩) fl).trans f0; have f1 := (hb.cell (p := ⟨w4.heap.size, 1, none⟩) fl).trans f1; have l0 := (hb.cell (p := ⟨b4, 0, none⟩) sl).trans l0; have l1 := (hb.cell (p := ⟨b4, 1, none⟩) sl).trans l1; have l2 := (hb.cell (p := ⟨b4, 2, none⟩) sl).trans l2; have l3 := (hb.cell (p := ⟨b4, 3, none⟩) sl).trans l3; have l7 := (hb.cell (p := ⟨b4, 7, none⟩) sl).trans l7; have hz := hb.size; have cl := Nat.lt_of_lt_of_le cl hz; have fl := Nat.lt_of_lt_of_le fl hz; have sl := Nat.lt_of_lt_of_le sl hz; have hBB := hBB.trans (Below.mono (B' := W5.heap.size) hb (by first | exact Nat.le_refl _ | exact hBB.size)); clear hb)
            | (go_at_call 16; (refine (HRSD.out _ ?tab).mono ?_); (case tab => exact HT.out.below (HB5.out.trans (Below.mono (B := W5.heap.size) (by repeat (first | with_reducible exact Below.refl _ _ | (with_reducible refine Below.setCell ?_ (by first | exact Nat.le_refl _ | omega | (simp; done) | (simp; omega)) _) | (with_reducible refine Below.alloc ?_ (by first | exact Nat.le_refl _ | omega | (simp; done) | (simp; omega)) _) | with_reducible refine Below.drew ?_ | with_reducible refine bel_drewN ?_ _ | (with_reducible refine bel_by (by with_reducible assumption) (by first | exact Nat.le_refl _ | omega | (simp; done) | (simp; omega)) ?_))) (by omega)))); rintro e v2 ⟨rfl, hb⟩; (repeat (with_reducible replace hb := undrew hb)); have c0 := (hb.cell (p := ⟨w.heap.size, 0, none⟩) cl).trans c0; have c1 := (hb.cell (p := ⟨w.heap.size, 1, none⟩) cl).trans c1; have c2 := (hb.cell (p := ⟨w.heap.size, 2, none⟩) cl).trans c2; have c3 := (hb.cell (p := ⟨w.heap.size, 3, none⟩) cl).trans c3; have f0 := (hb.cell (p := ⟨w4.heap.size, 0, none⟩) fl).trans f0; have f1 := (hb.cell (p := ⟨w4.heap.size, 1, none⟩) fl).trans f1; have l0 := (hb.cell (p := ⟨b4, 0, none⟩) sl).trans l0; have l1 := (hb.cell (p := ⟨b4, 1, none⟩) sl).trans l1; have l2 := (hb.cell (p := ⟨b4, 2, none⟩) sl).trans l2; have l3 := (hb.cell (p := ⟨b4, 3, none⟩) sl).trans l3; have l7 := (hb.cell (p := ⟨b4, 7, none⟩) sl).trans l7; have hz := hb.size; have cl := Nat.lt_of_lt_of_le cl hz; have fl := Nat.lt_of_lt_of_le fl hz; have sl := Nat.lt_of_lt_of_le sl hz; have hBB := hBB.trans (Below.mono (B' := W5.heap.size) hb (by first | exact Nat.le_refl _ | exact hBB.size)); clear hb))
        all_goals
          go_wp2_with fail
          go_ret
          exact ⟨by first | rfl | (simp; done), HB5.out.trans (Below.mono (B := W5.heap.size) (by repeat (first | with_reducible exact Below.refl _ _ | (with_reducible refine Below.setCell ?_ (by first | exact Nat.le_refl _ | omega | (simp; done) | (simp; omega)) _) | (with_reducible refine Below.alloc ?_ (by first | exact Nat.le_refl _ | omega | (simp; done) | (simp; omega)) _) | with_reducible refine Below.drew ?_ | with_reducible refine bel_drewN ?_ _ | (with_reducible refine bel_by (by with_reducible assumption) (by first | exact Nat.le_refl _ | omega | (simp; done) | (simp; omega)) ?_))) (by omega))⟩
end Go.Proofs.YtmokeegebbmdhaaGreatDoor
