/- Contract of layer 4: Natural. -/
import Derived.Test.YtflpehpjemlphaaDoorOrder
set_option linter.unusedSimpArgs false
set_option linter.unusedVariables false
namespace Go.Proofs.YtflpehpjemlphaaDoor
open Go.RowKit

theorem tokC_kind0 {a b : Tok} (h : tokC a b = 0) : a.1 = b.1 := by
  rcases Int.lt_trichotomy a.1 b.1 with h1 | h1 | h1
  · rw [tok_lt h1] at h; omega
  · exact h1
  · rw [tok_gt h1] at h; omega
theorem lex_first {a b : List UInt8} (h : tokC (tokOf a) (tokOf b) ≠ 0) : lexC tokC (toks a) (toks b) = tokC (tokOf a) (tokOf b) := by
  by_cases ha : a = []
  · by_cases hb : b = []
    · subst ha hb; exact absurd (tot_tok.refl _) h
    · have k : tokC (tokOf a) (tokOf b) = -1 := tok_lt (by
        have := kind_ge hb
        subst ha
        show (-1 : Int) < kindOf b
        omega)
      rw [k, toks_cons hb]
      subst ha
      rfl
  · by_cases hb : b = []
    · have k : tokC (tokOf a) (tokOf b) = 1 := tok_gt (by
        have := kind_ge ha
        subst hb
        show (-1 : Int) < kindOf a
        omega)
      rw [k, toks_cons ha]
      subst hb
      rfl
    · rw [toks_cons ha, toks_cons hb, lexC, if_neg h]
theorem lex_end {a b : List UInt8} (h : tokC (tokOf a) (tokOf b) = 0) (hk : kindOf a = -1) : lexC tokC (toks a) (toks b) = 0 := by
  have ha := kind_nil.1 hk
  have hb : b = [] := kind_nil.1 ((tokC_kind0 h).symm.trans hk)
  subst ha hb
  rfl
theorem lex_next {a b : List UInt8} (h : tokC (tokOf a) (tokOf b) = 0) (hk : kindOf a ≠ -1) : lexC tokC (toks a) (toks b) = lexC tokC (toks (restOf a)) (toks (restOf b)) ∧ a ≠ [] := by
  have ha : a ≠ [] := fun e => hk (kind_nil.2 e)
  have hb : b ≠ [] := fun e => hk ((tokC_kind0 h).trans (kind_nil.2 e))
  rw [toks_cons ha, toks_cons hb, lexC, if_pos h]
  exact ⟨rfl, ha⟩
theorem num_len (l : List UInt8) : (numOf l).length ≤ l.length := by
  unfold numOf
  have h1 := (List.dropWhile_sublist (· == (48 : UInt8)) (l := l.takeWhile dig)).length_le
  have h2 := (List.takeWhile_sublist dig (l := l)).length_le
  omega
theorem rest_le (l : List UInt8) : (restOf l).length ≤ l.length := by
  by_cases h : l = []
  · subst h; simp [restOf]
  · have := rest_lt h; omega
theorem PieceAt.but {w w' : World} {b c : Nat} {s : ByteArray} (h : PieceAt w b s) (hb : But c w w') (hne : b ≠ c) : PieceAt w' b s := by
  have hblk := hb.block b h.lt hne
  exact ⟨(World.cell?_of_block hblk).trans h.c, (World.frozen?_of_block (a := ⟨b, 0, none⟩) hblk).trans h.f, Nat.lt_of_lt_of_le h.lt hb.size⟩
theorem PieceAt.below {w w' : World} {b : Nat} {s : ByteArray} (h : PieceAt w b s) (hb : Below w.heap.size w w') : PieceAt w' b s := by
  have hblk := hb.block b h.lt
  exact ⟨(World.cell?_of_block hblk).trans h.c, (World.frozen?_of_block (a := ⟨b, 0, none⟩) hblk).trans h.f, Nat.lt_of_lt_of_le h.lt hb.size⟩
theorem But.below {b B : Nat} {w w1 w' : World} (h : But b w1 w') (k : Below B w w1) (hB : B ≤ b) (hs : B ≤ w1.heap.size) : Below B w w' :=
  k.trans ⟨h.os, h.tape, h.output, h.size, fun i hi => h.block i (by omega) (by omega)⟩

def pieceOf (w : World) (b : Nat) : Nat := match w.cell? ⟨b, 0, none⟩ with | some (.string s) => s.size | _ => 0
theorem PieceAt.of {w : World} {b : Nat} {s : ByteArray} (h : PieceAt w b s) : pieceOf w b = s.size := by
  unfold pieceOf; rw [h.c]
set_option maxHeartbeats 1000000 in
set_option maxRecDepth 100000 in
theorem natural_any (a b : ByteArray) (ha : a.size ≤ 4611686018427387904) (hb : b.size ≤ 4611686018427387904) (w : World) :
    Calls Tryd.prog 25 #[.string a, .string b] w fun e w' => e = .returned (.int .i64 (natC a.data.toList b.data.toList)) ∧ Below w.heap.size w w' := by
  have HN := Lib.hid (show natC a.data.toList b.data.toList = if lexC tokC (toks a.data.toList) (toks b.data.toList) = 0 then Lib.compareBytes a.data.toList b.data.toList else lexC tokC (toks a.data.toList) (toks b.data.toList) from rfl)
  obtain ⟨r, hr⟩ : ∃ r, natC a.data.toList b.data.toList = r := ⟨_, rfl⟩
  obtain ⟨x, hx⟩ : ∃ x, lexC tokC (toks a.data.toList) (toks b.data.toList) = x := ⟨_, rfl⟩
  rw [hr, hx] at HN
  rw [hr]
  have HX := Lib.hid hx
  clear hr hx
  go_enter Tryd.func25, Tryd.ntmps25
  go_wp2_with fail
  refine (pieces_any a _).mono ?_
  rintro e w1 ⟨rfl, hp1, hb1⟩
  have HP1 := Lib.hid hp1
  have HB1 := Lib.hid hb1
  have hs1 : w.heap.size < w1.heap.size := hp1.lt
  clear hp1 hb1
  go_wp2_with fail
  refine (pieces_any b _).mono ?_
  rintro e w2 ⟨rfl, hp2, hb2⟩
  have HP2 := Lib.hid hp2
  have HA2 := Lib.hid (HP1.out.below hb2)
  have HB2 := Lib.hid (HB1.out.trans (hb2.mono (Nat.le_of_lt hs1)))
  have hne : w1.heap.size ≠ w.heap.size := by omega
  have hge : w.heap.size ≤ w1.heap.size := by omega
  clear hp2 hb2 HP1 HB1
  generalize w1.heap.size = gb at *
  generalize hga : w.heap.size = ga at *
  have HGA := Lib.hid hga
  clear hga
  go_wp2_with fail
  go_loopw [9] (fun _ wr => ∃ (la lb : List UInt8), Hid (PieceAt wr ga (bs la)) ∧ Hid (PieceAt wr gb (bs lb)) ∧ la.length ≤ 4611686018427387904 ∧ lb.length ≤ 4611686018427387904 ∧ Hid (Below ga w wr) ∧ Hid (lexC tokC (toks la) (toks lb) = x)) (fun _ wr => pieceOf wr ga)
  case atStart => exact ⟨a.data.toList, b.data.toList, Lib.hid (by rw [bs_list]; exact HA2.out), Lib.hid (by rw [bs_list]; exact HP2.out), by rw [list_size]; exact ha, by rw [list_size]; exact hb, HB2, HX⟩
  case round =>
    obtain ⟨la, lb, hA, hB, hla, hlb, hW, hI⟩ := hrel
    have HM := Lib.hid (show pieceOf wr ga = la.length by rw [hA.out.of, bs_size])
    go_wp2_with fail
    refine (piece_any ga (bs la) (by rw [bs_size]; exact hla) _ hA.out).mono ?_
    rintro e w3 ⟨rfl, hA3, hbut3⟩
    have HA3 := Lib.hid hA3
    have HB3 := Lib.hid (hB.out.but hbut3 hne)
    have HW3 := Lib.hid (hbut3.below hW.out (Nat.le_refl _) (Nat.le_of_lt hA.out.lt))
    clear hA3 hbut3 hA hB hW
    rw [bs_data] at *
    go_wp2_with fail
    refine (piece_any gb (bs lb) (by rw [bs_size]; exact hlb) _ HB3.out).mono ?_
    rintro e w4 ⟨rfl, hB4, hbut4⟩
    have HB4 := Lib.hid hB4
    have HA4 := Lib.hid (HA3.out.but hbut4 (Ne.symm hne))
    have HW4 := Lib.hid (hbut4.below HW3.out hge (Nat.le_of_lt HA3.out.lt))
    clear hB4 hbut4 HA3 HB3 HW3
    rw [bs_data] at *
    go_wp2_with fail
    have hlt4 := HA4.out.lt
    have HBZ : ∃ W5 : World, (w4.alloc (.cells #[.int .i64 (kindOf la), .string (bs (numOf la))] 46)).alloc (.cells #[.int .i64 (kindOf lb), .string (bs (numOf lb))] 46) = W5 ∧ Below w4.heap.size w4 W5 ∧ W5.cell? ⟨w4.heap.size, 0, none⟩ = some (.int .i64 (kindOf la)) ∧ w4.heap.size < W5.heap.size :=
      ⟨_, rfl, (by repeat (first | with_reducible exact Below.refl _ _ | (with_reducible refine Below.setCell ?_ (by first | exact Nat.le_refl _ | omega | (simp; done) | (simp; omega)) _) | (with_reducible refine Below.alloc ?_ (by first | exact Nat.le_refl _ | omega | (simp; done) | (simp; omega)) _) | with_reducible refine Below.drew ?_ | with_reducible refine bel_drewN ?_ _ | (with_reducible refine bel_by (by with_reducible assumption) (by first | exact Nat.le_refl _ | omega | (simp; done) | (simp; omega)) ?_))), by simp [go_sem], by simp; omega⟩
    obtain ⟨W5, e5, hb5, hc5, hz5⟩ := HBZ
    rw [e5]
    have HA5 := Lib.hid (HA4.out.below hb5)
    have HB5 := Lib.hid (HB4.out.below hb5)
    have HW5 := Lib.hid (HW4.out.trans (hb5.mono (Nat.le_of_lt hlt4)))
    clear e5 hb5 HA4 HB4 HW4
    refine (order_any _ _ _ _ (Nat.le_trans (num_len la) hla) (Nat.le_trans (num_len lb) hlb) _).mono ?_
    rintro e w6 ⟨rfl, hb6⟩
    have hc6 : w6.cell? ⟨w4.heap.size, 0, none⟩ = some (.int .i64 (kindOf la)) := (hb6.cell (p := ⟨w4.heap.size, 0, none⟩) hz5).trans hc5
    have HA6 := Lib.hid (HA5.out.below hb6)
    have HB6 := Lib.hid (HB5.out.below hb6)
    have HW6 := Lib.hid (HW5.out.trans (hb6.mono (Nat.le_of_lt HA5.out.lt)))
    clear hb6 hc5 hz5 HA5 HB5 HW5
    have HK := Lib.hid (show (kindOf la, numOf la) = tokOf la from rfl)
    have HK2 := Lib.hid (show (kindOf lb, numOf lb) = tokOf lb from rfl)
    obtain ⟨c, hc⟩ : ∃ c, tokC (kindOf la, numOf la) (kindOf lb, numOf lb) = c := ⟨_, rfl⟩
    rw [hc]
    have hct : tokC (tokOf la) (tokOf lb) = c := hc
    clear HK HK2 hc
    by_cases h0 : c = 0
    · subst h0
      by_cases hk : kindOf la = -1
      · have hl := lex_end hct hk
        have HF := Lib.hid (show r = Lib.compareBytes a.data.toList b.data.toList by rw [HN.out, ← hI.out, hl]; rfl)
        have k1 : (kindOf la == -1) = true := by rw [hk]; rfl
        generalize kindOf la = kk at *
        clear hl hct hk hI HN HX
        go_wp2_with fail
        refine (Tryd.strings_Compare a b _).mono ?_
        rintro e w7 ⟨rfl, rfl⟩
        rw [← HF.out]
        go_wp2
        go_ret
        exact ⟨rfl, by rw [HGA.out]; exact HW6.out⟩
      · have hl := lex_next hct hk
        have HF := Lib.hid (hl.1.symm.trans hI.out)
        have k1 : (kindOf la == -1) = false := by simpa using hk
        have m1 := rest_lt hl.2
        have m2 := rest_le lb
        have hz : pieceOf w6 ga = (restOf la).length := by rw [HA6.out.of, bs_size]
        have HZ := Lib.hid hz
        generalize kindOf la = kk at *
        clear hl hct hk hI HN HX hz
        go_wp2
        go_roundw
        case rel => exact ⟨restOf la, restOf lb, HA6, HB6, by omega, by omega, HW6, HF⟩
        case measure => rw [HZ.out, HM.out]; omega
    · have hl := lex_first (by rw [hct]; exact h0)
      have HF := Lib.hid (show r = c by
        have e : x = c := by rw [← hI.out, hl, hct]
        rw [HN.out, e, if_neg h0])
      have k1 : (c != 0) = true := by simpa using h0
      clear hl hct h0 hI HN HX
      go_wp2
      go_ret
      exact ⟨by rw [HF.out]; rfl, by rw [HGA.out]; exact HW6.out⟩
end Go.Proofs.YtflpehpjemlphaaDoor
