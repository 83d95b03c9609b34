/- Contract of layer 9: Join. -/
import Derived.Test.YtmokeegebbmdhaaGreatDoorSpl
import Derived.Test.YtmokeegebbmdhaaGreatDoorLex
set_option linter.unusedSimpArgs false
set_option linter.unusedVariables false
namespace Go.Proofs.YtmokeegebbmdhaaGreatDoor
open Go.RowKit

theorem infoS : (Tryz.prog.info? 9).map (fun i => (i.zero, i.size, i.bytes)) = some (some (.string ⟨#[]⟩), 1, 16) := by kernel_rfl
def spV (t : Tk) : Value := .string (bs (spellT t))
theorem str_cell (w : World) (v : ByteArray) : ∀ j u, ([Value.string v] : List Value)[j]? = some u → (w.alloc (.cells #[.string v] 9)).cell? ((⟨w.heap.size, 0, none⟩ : Addr).add j) = some u := by
  intro j u hu
  match j, hu with
  | 0, hu =>
    simp at hu; subst hu
    show (w.alloc (.cells #[.string v] 9)).cell? ⟨w.heap.size, 0, none⟩ = _
    simp [go_sem]
  | j + 1, hu => simp at hu
theorem okJ_drop (L : List Tk) (k : Nat) (h : k < L.length) : okJ (L.drop k) = ((validT (L[k]'h) && ((L[k]'h).k != 5 || decide (k + 1 = L.length))) && okJ (L.drop (k + 1))) := by
  rw [List.drop_eq_getElem_cons h]
  have hd : (L.drop (k + 1)).isEmpty = decide (k + 1 = L.length) := by
    rw [Bool.eq_iff_iff, List.isEmpty_iff, decide_eq_true_eq, List.drop_eq_nil_iff]
    omega
  show ((validT _ && ((L[k]'h).k != 5 || (L.drop (k + 1)).isEmpty)) && okJ (L.drop (k + 1))) = _
  rw [hd]
theorem real_take (L : List Tk) (k : Nat) (h : k < L.length) : real (L.take (k + 1)) = real (L.take k) ++ (if (L[k]'h).k != 5 then [L[k]'h] else []) := by
  unfold real
  rw [List.take_succ_eq_append_getElem h, List.filter_append]
  congr 1
  cases he : (L[k]'h).k != 5 <;> simp [List.filter_cons, he]
theorem real_len (L : List Tk) : (real L).length ≤ L.length := List.length_filter_le _ _
theorem real_sum (L : List Tk) (h : ∀ t ∈ L, validT t = true) : (jnT L).length ≤ 43 * L.length := by
  refine Nat.le_trans (jnT_len L) ?_
  induction L with
  | nil => simp
  | cons t r ih =>
    have := ih (fun u hu => h u (by simp [hu]))
    have h2 := spell_len t (h t (by simp))
    simp only [List.map_cons, List.sum_cons, List.length_cons]
    omega
theorem okJ_valid : ∀ (L : List Tk), okJ L = true → ∀ t ∈ L, validT t = true
  | [], _, t, ht => by simp at ht
  | u :: r, h, t, ht => by
    simp only [okJ, Bool.and_eq_true] at h
    rcases List.mem_cons.1 ht with rfl | ht
    · exact h.1.1
    · exact okJ_valid r h.2 t ht
theorem spellS_ok {t : Tk} (h : validT t = true) : spellS t = (spellT t, 0) := by unfold spellS; rw [if_pos h]
theorem spellS_no {t : Tk} (h : validT t = false) : spellS t = ([], 1) := by unfold spellS; rw [if_neg (by simp [h])]
/-- strings that the call has gathered, joined -/
theorem join_any {w : World} {base : Nat} {v : Value} {L : List Tk} (hown : w.ownsRow base 9 1 v L.length (L.map spV)) (hn : L.length ≤ 1000000) (hl : (jnT L).length ≤ 100000000) :
    Calls Tryz.prog 27 #[v, .string ⟨#[32]⟩] w fun e w' => e = .returned (.string (bs (jnT L))) ∧ Below w.heap.size w w' := by
  have hcell := hown
  rcases hown.2 with ⟨rfl, h0⟩ | ⟨g, cap, cur, rfl, hg, hb, h1, h2, h3, h4⟩
  · have : L = [] := List.eq_nil_of_length_eq_zero h0
    subst this
    refine (Tryz.strings_Join_none none 0 ⟨#[32]⟩ w).mono ?_
    rintro e w' ⟨rfl, rfl⟩
    exact ⟨rfl, Below.refl _ _⟩
  · have hgs : g < w.heap.size := (Array.getElem?_eq_some_iff.1 hb).1
    have hj : (L.map fun t => bs (spellT t)).map (·.data.toList) = L.map spellT := by
      rw [List.map_map]
      apply List.map_congr_left
      intro t _
      exact bs_data _
    have hjj : Lib.join ((L.map fun t => bs (spellT t)).map (·.data.toList)) (⟨#[32]⟩ : ByteArray).data.toList = jnT L := by
      rw [hj]; exact jnT_join L
    have := Tryz.strings_Join g 0 cap (L.map fun t => bs (spellT t)) ⟨#[32]⟩ w (fun j x hx => by
      have hj : j < L.length := by
        have := (List.getElem?_eq_some_iff.1 hx).1
        simpa using this
      rw [Nat.zero_add, hcell.cellAt j (by omega)]
      have hx2 : ∃ t, L[j]? = some t ∧ bs (spellT t) = x := by simpa [List.getElem?_map, Option.map_eq_some_iff] using hx
      obtain ⟨t, ht, rfl⟩ := hx2
      rw [List.getElem?_map, ht]; rfl) hgs (by simp; omega) (by simpa using h1) (by rw [hjj]; omega)
    rw [hjj, List.length_map] at this
    exact this
set_option maxHeartbeats 4000000 in
set_option maxRecDepth 100000 in
theorem joinT_any {w : World} {a : Option Addr} {b o n c : Nat} {L : List Tk} (hA : SlT w a b o n c L) (hn : n ≤ 1000000) (hz : ∀ t ∈ L, t.t.size ≤ 1000000) (hT : Tabs w) :
    Calls Tryz.prog 17 #[.slice a n c] w fun e w' => e = .returned (.tuple #[.string (bs (joinS L).1), .int .i64 (joinS L).2]) ∧ Below w.heap.size w w' := by
  have HL := Lib.hid hA.hl
  have HA := Lib.hid hA
  have HT := Lib.hid hT
  have HSP := Lib.hid (fun (t : Tk) (ht : t ∈ L) (W : World) hW => spell_any t (by have := hz t ht; omega) W hW)
  have HJ := Lib.hid (show joinS L = if okJ L then (if 65536 < (jnT (real L)).length then ([], 6) else (jnT (real L), 0)) else ([], 1) from rfl)
  have HOV := Lib.hid (okJ_valid L)
  obtain ⟨iz, hi, hz0, hz1', hz2⟩ := info_parts infoS
  generalize joinS L = R at *
  clear hA hz hT
  go_enter Tryz.func17, Tryz.ntmps17
  go_wp2_with fail
  go_loopw [4, 12] (fun s4 s12 wr => ∃ (k : Nat), k ≤ n ∧ s12 = .int .i64 (k : Int) ∧ Hid (wr.ownsRow w.heap.size 9 1 s4 (real (L.take k)).length ((real (L.take k)).map spV)) ∧ Hid (Below w.heap.size w wr) ∧ Hid (okJ L = okJ (L.drop k))) (fun _ s12 _ => (n - (intOf s12)).toNat)
  case atStart => exact ⟨0, Nat.zero_le _, rfl, Lib.hid (World.ownsRow_nil _ _ _ _), Lib.hid (Below.refl _ _), Lib.hid rfl⟩
  case round =>
    obtain ⟨k, hk, rfl, HO, HB, HK⟩ := hrel
    by_cases hlt : k < n
    · have hl : (k : Int) < (n : Int) := by omega
      have hkL : k < L.length := by rw [HL.out]; exact hlt
      have SA := HA.out.keep HB.out
      obtain rfl := SA.ha (by omega)
      have ba := SA.hb (by omega)
      have ca0 := SA.c0 k hkL
      have ca1 := SA.c1 k hkL
      have ca2 := SA.c2 k hkL
      have ca3 := SA.c3 k hkL
      have HD := Lib.hid (okJ_drop L k hkL)
      have HRT := Lib.hid (real_take L k hkL)
      have HSK := Lib.hid (HSP.out (L[k]'hkL) (List.getElem_mem hkL))
      have hrl : (real (L.take k)).length ≤ 1000000 := by
        have := real_len (L.take k)
        rw [List.length_take] at this; omega
      clear SA
      generalize L[k]'hkL = x at *
      obtain ⟨xk, xt, xn, xa⟩ := x
      simp only [Tk.val] at ca0 ca1 ca2 ca3 HSK HRT HD
      cases hv : validT ⟨xk, xt, xn, xa⟩ with
      | false =>
        rw [hv] at HD
        have HZ := Lib.hid (show R = ([], 1) by
          rw [HJ.out, HK.out, HD.out]; rfl)
        rw [spellS_no hv] at HSK
        clear HD HRT HJ HK HOV HO hv
        go_wp2_with fail
        refine (HSK.out _ (HT.out.below ((HB.out).alloc HB.out.size _))).mono ?_
        rintro e w1 ⟨rfl, hb1⟩
        have hz1 := bsize hb1
        simp at hz1
        have hbw := HB.out
        have hbs := HB.out.size
        have HB1 := Lib.hid (show Below w.heap.size w w1 from (by repeat (first | with_reducible exact Below.refl _ _ | (with_reducible refine Below.setCell ?_ (by first | exact Nat.le_refl _ | omega | (simp; done) | (simp; omega)) _) | (with_reducible refine Below.alloc ?_ (by first | exact Nat.le_refl _ | omega | (simp; done) | (simp; omega)) _) | with_reducible refine Below.drew ?_ | with_reducible refine bel_drewN ?_ _ | (with_reducible refine bel_by (by with_reducible assumption) (by first | exact Nat.le_refl _ | omega | (simp; done) | (simp; omega)) ?_))))
        obtain ⟨z0, z1, z2, z3, zf, zl⟩ := (tk_new wr ⟨xk, xt, xn, xa⟩ 32).keep hb1
        clear hb1 hbw hbs
        go_wp2_with fail
        go_ret2
        exact ⟨by rw [HZ.out]; rfl, HB1.out⟩
      | true =>
        rw [hv] at HD
        rw [spellS_ok hv] at HSK
        have HSV := Lib.hid (show spV ⟨xk, xt, xn, xa⟩ = .string (bs (spellT ⟨xk, xt, xn, xa⟩)) from rfl)
        obtain ⟨D, hD⟩ : ∃ D, bs (spellT ⟨xk, xt, xn, xa⟩) = D := ⟨_, rfl⟩
        simp only [hD] at HSK HSV
        clear hD hv
        by_cases h5 : xk = 5
        · subst h5
          by_cases hlast : k + 1 = n
          · have hgl : ¬ (k : Int) < (n : Int) - 1 := by omega
            have HK2 := Lib.hid (show okJ L = okJ (L.drop (k + 1)) by
              rw [HK.out, HD.out]
              have : decide (k + 1 = L.length) = true := decide_eq_true (by rw [HL.out]; exact hlast)
              rw [this]; rfl)
            have HR2 := Lib.hid (show real (L.take (k + 1)) = real (L.take k) by rw [HRT.out]; simp)
            clear HD HRT HK
            go_wp2_with fail
            refine (HSK.out _ (HT.out.below ((HB.out).alloc HB.out.size _))).mono ?_
            rintro e w1 ⟨rfl, hb1⟩
            have hz1 := bsize hb1
            simp at hz1
            have hbw := HB.out
            have hbs := HB.out.size
            have HB1 := Lib.hid (show Below w.heap.size w w1 from (by repeat (first | with_reducible exact Below.refl _ _ | (with_reducible refine Below.setCell ?_ (by first | exact Nat.le_refl _ | omega | (simp; done) | (simp; omega)) _) | (with_reducible refine Below.alloc ?_ (by first | exact Nat.le_refl _ | omega | (simp; done) | (simp; omega)) _) | with_reducible refine Below.drew ?_ | with_reducible refine bel_drewN ?_ _ | (with_reducible refine bel_by (by with_reducible assumption) (by first | exact Nat.le_refl _ | omega | (simp; done) | (simp; omega)) ?_))))
            obtain ⟨z0, z1, z2, z3, zf, zl⟩ := (tk_new wr ⟨5, xt, xn, xa⟩ 32).keep hb1
            have HO1 := Lib.hid (own_below (HO.out.alloc (.cells #[.int .i64 5, .string xt, .int .i64 xn, .int .i64 xa] 32)) hb1)
            clear hb1 hbw hbs HB HO
            go_wp2_with fail
            go_roundw
            case rel => exact ⟨k + 1, by omega, by go_num, (by rw [HR2.out]; exact HO1), HB1, HK2⟩
            case measure => simp [intOf]; omega
          · have hgl : (k : Int) < (n : Int) - 1 := by omega
            have HZ := Lib.hid (show R = ([], 1) by
              have hd : decide (k + 1 = L.length) = false := decide_eq_false (by rw [HL.out]; exact hlast)
              rw [HJ.out, HK.out, HD.out, hd]; rfl)
            clear HD HRT HJ HK HOV HO
            go_wp2_with fail
            refine (HSK.out _ (HT.out.below ((HB.out).alloc HB.out.size _))).mono ?_
            rintro e w1 ⟨rfl, hb1⟩
            have hz1 := bsize hb1
            simp at hz1
            have hbw := HB.out
            have hbs := HB.out.size
            have HB1 := Lib.hid (show Below w.heap.size w w1 from (by repeat (first | with_reducible exact Below.refl _ _ | (with_reducible refine Below.setCell ?_ (by first | exact Nat.le_refl _ | omega | (simp; done) | (simp; omega)) _) | (with_reducible refine Below.alloc ?_ (by first | exact Nat.le_refl _ | omega | (simp; done) | (simp; omega)) _) | with_reducible refine Below.drew ?_ | with_reducible refine bel_drewN ?_ _ | (with_reducible refine bel_by (by with_reducible assumption) (by first | exact Nat.le_refl _ | omega | (simp; done) | (simp; omega)) ?_))))
            obtain ⟨z0, z1, z2, z3, zf, zl⟩ := (tk_new wr ⟨5, xt, xn, xa⟩ 32).keep hb1
            clear hb1 hbw hbs
            go_wp2_with fail
            go_ret2
            exact ⟨by rw [HZ.out]; rfl, HB1.out⟩
        · have h5b : (xk != 5) = true := by simpa using h5
          have h5c : (xk == 5) = false := by simpa using h5
          rw [h5b] at HD HRT
          have HK2 := Lib.hid (show okJ L = okJ (L.drop (k + 1)) by
            rw [HK.out, HD.out]; rfl)
          have HR2 := Lib.hid (show real (L.take (k + 1)) = real (L.take k) ++ [⟨xk, xt, xn, xa⟩] by rw [HRT.out]; rfl)
          clear HD HRT HK h5
          go_wp2_with fail
          refine (HSK.out _ (HT.out.below ((HB.out).alloc HB.out.size _))).mono ?_
          rintro e w1 ⟨rfl, hb1⟩
          have hz1 := bsize hb1
          simp at hz1
          have hbw := HB.out
          have hbs := HB.out.size
          have HB1 := Lib.hid (show Below w.heap.size w w1 from (by repeat (first | with_reducible exact Below.refl _ _ | (with_reducible refine Below.setCell ?_ (by first | exact Nat.le_refl _ | omega | (simp; done) | (simp; omega)) _) | (with_reducible refine Below.alloc ?_ (by first | exact Nat.le_refl _ | omega | (simp; done) | (simp; omega)) _) | with_reducible refine Below.drew ?_ | with_reducible refine bel_drewN ?_ _ | (with_reducible refine bel_by (by with_reducible assumption) (by first | exact Nat.le_refl _ | omega | (simp; done) | (simp; omega)) ?_))))
          obtain ⟨z0, z1, z2, z3, zf, zl⟩ := (tk_new wr ⟨xk, xt, xn, xa⟩ 32).keep hb1
          have HO1 := Lib.hid (((own_below (HO.out.alloc (.cells #[.int .i64 xk, .string xt, .int .i64 xn, .int .i64 xa] 32)) hb1)).alloc (.cells #[.string D] 9))
          have HB2 := Lib.hid (HB1.out.alloc (by omega) (.cells #[.string D] 9))
          have HCE := Lib.hid (str_cell w1 D)
          clear hb1 hbw HB HO
          go_wp2_with (at_builtin; go_loud (refine wpList_append_own _ rfl _ _ 50 rfl w.heap.size 9 iz (.string ⟨#[]⟩) 1 16 Tryz.underlying50 hi hz0 hz1' hz2 rfl (by decide) _ _ _ rfl HO1.out ⟨w1.heap.size, 0, none⟩ 1 1 [.string D] rfl rfl HCE.out ?n1 ?n2 ?n3 ?n4 ?_))
          case n1 => intro u hu; simp only [List.mem_cons, List.not_mem_nil, or_false] at hu; subst hu; rfl
          case n2 => unfold maxLen; omega
          case n3 => omega
          case n4 => simp; omega
          intro v' w7 ho hg _
          have HO7 := Lib.hid ho
          have HB7 := Lib.hid (HB2.out.grown hg (by simp; omega) (fun g hk => ((HO1.out.lt g hk).1)))
          clear ho hg HCE HO1 HB2 HB1 z0 z1 z2 z3 zf zl hbs
          go_wp2_with fail
          go_roundw
          case rel =>
            refine ⟨k + 1, by omega, by go_num, Lib.hid ?_, HB7, HK2⟩
            rw [HR2.out, List.length_append, List.map_append]
            have := HO7.out
            rw [← HSV.out] at this
            exact this
          case measure => simp [intOf]; omega
    · obtain rfl : k = n := by omega
      have hl : ¬ (k : Int) < (k : Int) := by omega
      have htk : L.take k = L := by rw [← HL.out, List.take_length]
      have hdk : L.drop k = [] := by rw [← HL.out, List.drop_length]
      rw [htk] at HO
      rw [hdk] at HK
      have hok : okJ L = true := HK.out
      have hrn := real_len L
      rw [HL.out] at hrn
      have hrs := real_sum (real L) (fun t ht => HOV.out hok t ((List.mem_filter.1 ht).1))
      have HJN := Lib.hid (join_any HO.out (by omega) (by omega))
      have hJ := HJ.out
      rw [if_pos hok] at hJ
      have hbl := bs_size (jnT (real L))
      rw [← hbl] at hJ hrs
      have HBS := Lib.hid (bs_data (jnT (real L)))
      clear htk hdk HO HK hok HOV HSP HJ hbl
      obtain ⟨J, hJJ⟩ : ∃ J, bs (jnT (real L)) = J := ⟨_, rfl⟩
      rw [hJJ] at HJN hJ hrs
      have HJJ := Lib.hid hJJ
      clear hJJ
      by_cases h6 : 65536 < J.size
      · rw [if_pos h6] at hJ
        subst hJ
        have k1 : decide ((J.size : Int) > 65536) = true := decide_eq_true (by omega)
        go_wp2_with fail
        refine HJN.out.mono ?_
        rintro e w1 ⟨rfl, hb1⟩
        have hbw := HB.out
        have hbs := HB.out.size
        have HB1 := Lib.hid (show Below w.heap.size w w1 from (by repeat (first | with_reducible exact Below.refl _ _ | (with_reducible refine Below.setCell ?_ (by first | exact Nat.le_refl _ | omega | (simp; done) | (simp; omega)) _) | (with_reducible refine Below.alloc ?_ (by first | exact Nat.le_refl _ | omega | (simp; done) | (simp; omega)) _) | with_reducible refine Below.drew ?_ | with_reducible refine bel_drewN ?_ _ | (with_reducible refine bel_by (by with_reducible assumption) (by first | exact Nat.le_refl _ | omega | (simp; done) | (simp; omega)) ?_))))
        clear hb1 hbw hbs
        go_wp2_with fail
        go_ret2
        exact ⟨rfl, HB1.out⟩
      · rw [if_neg h6] at hJ
        subst hJ
        have k1 : decide ((J.size : Int) > 65536) = false := decide_eq_false (by omega)
        go_wp2_with fail
        refine HJN.out.mono ?_
        rintro e w1 ⟨rfl, hb1⟩
        have hbw := HB.out
        have hbs := HB.out.size
        have HB1 := Lib.hid (show Below w.heap.size w w1 from (by repeat (first | with_reducible exact Below.refl _ _ | (with_reducible refine Below.setCell ?_ (by first | exact Nat.le_refl _ | omega | (simp; done) | (simp; omega)) _) | (with_reducible refine Below.alloc ?_ (by first | exact Nat.le_refl _ | omega | (simp; done) | (simp; omega)) _) | with_reducible refine Below.drew ?_ | with_reducible refine bel_drewN ?_ _ | (with_reducible refine bel_by (by with_reducible assumption) (by first | exact Nat.le_refl _ | omega | (simp; done) | (simp; omega)) ?_))))
        clear hb1 hbw hbs
        go_wp2_with fail
        go_ret2
        exact ⟨by rw [HJJ.out]; rfl, HB1.out⟩
end Go.Proofs.YtmokeegebbmdhaaGreatDoor
