/- Contract of the reference of layer 11: is. -/
import Derived.Test.YtohalocbghhenaaGreatDoorRefI
import Derived.Test.YtohalocbghhenaaGreatDoorRSg
import Derived.BigQuiet
import Derived.Test.YtohalocbghhenaaGreatDoorPyl
import Derived.Test.YtohalocbghhenaaGreatDoorQdp
import Derived.Test.YtohalocbghhenaaGreatDoorApp
set_option linter.unusedSimpArgs false
set_option linter.unusedVariables false
namespace Go.Proofs.YtohalocbghhenaaGreatDoor
open Go.RowKit

/-- a sign that is one of so many bytes -/
def isB (t : Tk) (l : List UInt8) : Bool := l.any (sgn t)
theorem isB_take {t : Tk} {l : List UInt8} {i : Nat} (h : i < l.length) : isB t (l.take (i + 1)) = (isB t (l.take i) || sgn t (l[i]'h)) := by
  unfold isB
  rw [List.take_succ_eq_append_getElem h, List.any_append]
  simp
theorem isB_hit {t : Tk} {l : List UInt8} {i : Nat} (h : i < l.length) (hs : sgn t (l[i]'h) = true) : isB t l = true := by
  unfold isB
  rw [List.any_eq_true]
  exact ⟨_, List.getElem_mem h, hs⟩
theorem one_byte {x : ByteArray} {i : Nat} (h : i < x.data.toList.length) : x.extract i (i + 1) = bs [x.data.toList[i]'h] := by
  apply bs_inj
  rw [bs_data]
  simp at h
  simp [List.take_one, List.drop_eq_getElem_cons, h]
set_option maxHeartbeats 2000000 in
set_option maxRecDepth 100000 in
theorem ris_any (t : Tk) (x : ByteArray) (hx : x.size ≤ 1000) (w : World) : Calls Tryz.prog 32 #[t.val, .string x] w fun e w' => e = .returned (.bool (isB t x.data.toList)) ∧ Below w.heap.size w w' := by
  have HL := Lib.hid (list_size x)
  have HTK := Lib.hid (fun i (h : i < x.data.toList.length) => isB_take (t := t) h)
  have HHI := Lib.hid (fun i (h : i < x.data.toList.length) => isB_hit (t := t) h)
  have HON := Lib.hid (fun i (h : i < x.data.toList.length) => one_byte (x := x) h)
  have HSG := Lib.hid (fun c => show sgn t c = (t.k == 4 && decide (t.t = bs [c])) from rfl)
  have HAL := Lib.hid (show isB t (x.data.toList.take x.size) = isB t x.data.toList by rw [← list_size, List.take_length])
  have HK := Lib.hid (tk_new w t 51)
  have HB := Lib.hid ((Below.refl w.heap.size w).alloc (Nat.le_refl _) (.cells #[.int .i64 t.k, .string t.t, .int .i64 t.n, .int .i64 t.a] 51))
  have HZ := Lib.hid (show isB t (x.data.toList.take 0) = false from rfl)
  generalize x.data.toList = l at *
  obtain ⟨k, s, n, a⟩ := t
  simp only [Tk.val] at HK HB ⊢
  go_enter Tryz.func32, Tryz.ntmps32
  go_wp2_with fail
  go_loopw [5] (fun s5 wr => ∃ i : Nat, i ≤ x.size ∧ s5 = .int .i64 (i : Int) ∧ Hid (isB ⟨k, s, n, a⟩ (l.take i) = false) ∧ Hid (TkAt wr w.heap.size ⟨k, s, n, a⟩) ∧ Hid (Below w.heap.size w wr)) (fun s5 _ => (x.size - (intOf s5)).toNat)
  case atStart => exact ⟨0, Nat.zero_le _, rfl, HZ, HK, HB⟩
  case round =>
    obtain ⟨i, hi, rfl, HF, HKi, HBi⟩ := hrel
    by_cases hlt : i < x.size
    · have hl : (i : Int) < (x.size : Int) := by omega
      have hil : i < l.length := by rw [HL.out]; exact hlt
      have hon := HON.out i hil
      have htk := HTK.out i hil
      have hhi := HHI.out i hil
      have hsg := HSG.out (l[i]'hil)
      generalize l[i]'hil = c at *
      obtain ⟨z0, z1, z2, z3, zf, zl⟩ := HKi.out
      by_cases h4 : k = 4
      · subst h4
        have g4 : ((4 : Int) == 4) = true := rfl
        by_cases he : s = bs [c]
        · have hb : sgn ⟨4, s, n, a⟩ c = true := by rw [hsg]; simp [he]
          have HH := Lib.hid (hhi hb)
          have hq : (s.toList == (bs [c]).toList) = true := by rw [str_beq, he]; simp
          clear HTK HHI HON HSG HAL htk hhi hsg hb
          go_wp2_with fail
          go_quiet (fail)
          go_wp2_with fail
          go_ret
          exact ⟨ret_bool HH.out.symm, bel_drewN HBi.out _⟩
        · have hb : sgn ⟨4, s, n, a⟩ c = false := by rw [hsg]; simp [he]
          have HH := Lib.hid (show isB ⟨4, s, n, a⟩ (l.take (i + 1)) = false by rw [htk, HF.out, hb]; rfl)
          have hq : (s.toList == (bs [c]).toList) = false := by rw [str_beq]; simp [he]
          clear HTK HHI HON HSG HAL htk hhi hsg hb
          go_wp2_with fail
          go_quiet (fail)
          go_wp2_with fail
          go_roundw
          case rel => exact ⟨i + 1, by omega, by go_num, HH, Lib.hid (HKi.out.keep (bel_drewN (Below.refl _ _) _)), Lib.hid (bel_drewN HBi.out _)⟩
          case measure => simp [intOf]; omega
      · have g4 : (k == 4) = false := by simpa using h4
        have hb : sgn ⟨k, s, n, a⟩ c = false := by rw [hsg]; simp [h4]
        have HH := Lib.hid (show isB ⟨k, s, n, a⟩ (l.take (i + 1)) = false by rw [htk, HF.out, hb]; rfl)
        clear HTK HHI HON HSG HAL htk hhi hsg hb hon
        go_wp2_with fail
        go_quiet (fail)
        go_wp2_with fail
        go_roundw
        case rel => exact ⟨i + 1, by omega, by go_num, HH, Lib.hid (HKi.out.keep (bel_drewN (Below.refl _ _) _)), Lib.hid (bel_drewN HBi.out _)⟩
        case measure => simp [intOf]; omega
    · have hl : ¬ (i : Int) < (x.size : Int) := by omega
      obtain rfl : i = x.size := by omega
      have he := HF.out
      rw [HAL.out] at he
      clear HTK HHI HON HSG HAL
      go_wp2_with fail
      go_ret
      exact ⟨ret_bool (by first | (simp; done) | simpa using he.symm), HBi.out⟩
end Go.Proofs.YtohalocbghhenaaGreatDoor
/- Contract of the reference of layer 11: Line. -/
namespace Go.Proofs.YtohalocbghhenaaGreatDoor
open Go.RowKit

theorem isB_open (q : Tk) : isB q [40] = sgn q 40 := by simp [isB]
theorem isB_close (t : Tk) : isB t [41, 44] = (sgn t 41 || sgn t 44) := by simp [isB]
set_option maxHeartbeats 4000000 in
set_option maxRecDepth 100000 in
theorem rline_any (wd : ByteArray) (xs : List Tk) (bl : Bool) (av : Int) (aa ak : Option Addr) (ba oa la ca kl ck : Nat) (hv : ∀ t ∈ xs, validT t = true ∧ t.k ≠ 5) (hz : ∀ t ∈ xs, t.t.size ≤ 1000000000) (hn : xs.length ≤ 1000000) (h1 : wd.size ≤ 1000000)
    (w : World) (hx : SlT w aa ba oa la ca xs) (hT : Tabs w) :
    Calls Tryz.prog 14 #[.agg #[.string wd, .slice aa la ca, .bool bl, .slice ak kl ck, .int .i64 av]] w fun e w' => e = .returned (.string (bs (headS wd xs bl))) ∧ Below w.heap.size w w' := by
  have HX := Lib.hid hx
  have HT := Lib.hid hT
  have HSP := Lib.hid (fun (t : Tk) (ht : t ∈ xs) (W : World) hW => show Calls Tryz.prog 33 #[t.val] W (fun e w' => e = .returned (.string (bs (spellT t))) ∧ Below W.heap.size W w') from by
    have := rSpell_any t (hz t ht) W hW
    rw [rsp_ok (hv t ht).1 (hv t ht).2] at this
    exact this)
  have HV := Lib.hid (fun t ht => (hv t ht).1)
  have HLN := Lib.hid hx.hl
  have HBD := Lib.hid (fun k => show (bs (wd.data.toList ++ at0L (xs.take k))).size ≤ 50000000 by
    have h3 := at0L_bound (xs := xs.take k) (fun t ht => (hv t (List.mem_of_mem_take ht)).1)
    rw [bs_size, List.length_append, list_size]
    have h4 : (xs.take k).length ≤ 1000000 := by rw [List.length_take]; omega
    omega)
  have HS0 := Lib.hid (show wd = bs (wd.data.toList ++ at0L (xs.take 0)) by apply bs_inj; rw [bs_data]; simp [at0L])
  have HN1 := Lib.hid (fun k (h : k < xs.length) (hg : gapB xs k = true) => show (bs (wd.data.toList ++ at0L (xs.take k)) ++ ⟨#[32]⟩) ++ bs (spellT (xs[k]'h)) = bs (wd.data.toList ++ at0L (xs.take (k + 1))) by
    apply bs_inj
    rw [bs_data, at0L_step h, if_pos hg]
    simp [bs_data])
  have HN0 := Lib.hid (fun k (h : k < xs.length) (hg : gapB xs k = false) => show bs (wd.data.toList ++ at0L (xs.take k)) ++ bs (spellT (xs[k]'h)) = bs (wd.data.toList ++ at0L (xs.take (k + 1))) by
    apply bs_inj
    rw [bs_data, at0L_step h, if_neg (by simp [hg])]
    simp [bs_data])
  have HE1 := Lib.hid (show bs (wd.data.toList ++ at0L (xs.take la)) ++ (if bl then ⟨#[32, 123]⟩ else ⟨#[59]⟩) = bs (headS wd xs bl) by
    apply bs_inj
    rw [bs_data, List.take_of_length_le (by rw [hx.hl]; exact Nat.le_refl _)]
    unfold headS
    cases bl <;> simp [bs_data])
  have hla : la ≤ 1000000 := by have := hx.hl; omega
  clear hx hT hz hv
  obtain ⟨G, hG⟩ : ∃ G : Nat → ByteArray, G = fun k => bs (wd.data.toList ++ at0L (xs.take k)) := ⟨_, rfl⟩
  have HBD2 := Lib.hid (show ∀ k, (G k).size ≤ 50000000 by rw [hG]; exact HBD.out)
  have HS2 := Lib.hid (show wd = G 0 by rw [hG]; exact HS0.out)
  have HN12 := Lib.hid (show ∀ k (h : k < xs.length), gapB xs k = true → (G k ++ ⟨#[32]⟩) ++ bs (spellT (xs[k]'h)) = G (k + 1) by rw [hG]; exact HN1.out)
  have HN02 := Lib.hid (show ∀ k (h : k < xs.length), gapB xs k = false → G k ++ bs (spellT (xs[k]'h)) = G (k + 1) by rw [hG]; exact HN0.out)
  have HE2 := Lib.hid (show G la ++ (if bl then ⟨#[32, 123]⟩ else ⟨#[59]⟩) = bs (headS wd xs bl) by rw [hG]; exact HE1.out)
  clear HBD HS0 HN1 HN0 HE1 hG
  generalize bs (headS wd xs bl) = R at *
  have HC0 := Lib.hid (cl_new w wd (.slice aa la ca) (.slice ak kl ck) bl av 25)
  have HB0 := Lib.hid ((Below.refl w.heap.size w).alloc (Nat.le_refl _) (.cells #[.string wd, .slice aa la ca, .bool bl, .slice ak kl ck, .int .i64 av] 25))
  obtain ⟨c0, c1, c2, c3, c4, cf, cl⟩ := HC0.out
  go_enter Tryz.func14, Tryz.ntmps14
  go_wp2_with fail
  clear c0 c1 c2 c3 c4 cf cl
  go_loopw [3, 4] (fun s3 s4 wr => ∃ (k : Nat), k ≤ la ∧ s4 = .int .i64 (k : Int) ∧ s3 = .string (G k) ∧ Hid (ClAt wr w.heap.size wd (.slice aa la ca) bl (.slice ak kl ck) av) ∧ Hid (Below w.heap.size w wr)) (fun _ s4 _ => (la - (intOf s4)).toNat)
  case atStart => exact ⟨0, Nat.zero_le _, rfl, congrArg Value.string HS2.out, HC0, HB0⟩
  case round =>
    obtain ⟨k, hk, rfl, rfl, HC, HB⟩ := hrel
    obtain ⟨c0, c1, c2, c3, c4, cf, cl⟩ := HC.out
    by_cases hlt : k < la
    · have hl : (k : Int) < (la : Int) := by omega
      have hkL : k < xs.length := by rw [HLN.out]; exact hlt
      have SA := HX.out.keep HB.out
      obtain rfl := SA.ha (by omega)
      have ba0 := SA.hb (by omega)
      have ca0 := SA.c0 k hkL
      have ca1 := SA.c1 k hkL
      have ca2 := SA.c2 k hkL
      have ca3 := SA.c3 k hkL
      have HSK := Lib.hid (HSP.out (xs[k]'hkL) (List.getElem_mem hkL))
      have HDL := Lib.hid (show (bs (spellT (xs[k]'hkL))).size ≤ 100 by rw [bs_size]; exact Nat.le_trans (spell_len _ (HV.out _ (List.getElem_mem hkL))) (by decide))
      have HX1 := Lib.hid (HN12.out k hkL)
      have HX0 := Lib.hid (HN02.out k hkL)
      have HGS := Lib.hid (fun (j : Nat) (h : k = j + 1) => (by subst h; exact gapB_succ hkL : gapB xs k = !adjB (xs[j]'(by omega)) (xs[k]'hkL)))
      have HGZ := Lib.hid (fun (h : k = 0) => (by subst h; rfl : gapB xs k = true))
      have HIC := Lib.hid (fun W => ris_any (xs[k]'hkL) ⟨#[41, 44]⟩ (by decide) W)
      have hd1 := HDL.out
      have hg1 := HBD2.out k
      have hg2 := HBD2.out (k + 1)
      generalize bs (spellT (xs[k]'hkL)) = D at *
      rcases Nat.eq_zero_or_pos k with h0 | h0
      · have HNX := Lib.hid (HX1.out (HGZ.out h0))
        generalize xs[k]'hkL = x at *
        obtain ⟨xk, xt, xn, xa⟩ := x
        simp only [Tk.val] at ca0 ca1 ca2 ca3 HSK
        have hkb : ((k : Int) == 0) = true := by rw [h0]; rfl
        clear HX1 HX0 HGS HGZ HIC SA HSP HV HN12 HN02 HBD2 HE2 h0
        have HGK := Lib.hid (show G (k + 1) = G (k + 1) from rfl)
        generalize G k = G0 at *
        have hs1 : (G0 ++ (⟨#[32]⟩ : ByteArray)).size ≤ 60000000 := by rw [ByteArray.size_append]; have e1 : (⟨#[32]⟩ : ByteArray).size = 1 := rfl; omega
        go_wp2_with fail
        refine (HSK.out _ (HT.out.below HB.out)).mono ?_
        rintro e w1 ⟨rfl, hb1⟩
        have HB1 := Lib.hid (HB.out.trans (hb1.mono HB.out.size))
        have HC1 := Lib.hid (HC.out.keep hb1)
        clear hb1
        go_wp2_with fail
        go_roundw
        case rel => exact ⟨k + 1, by omega, by go_num, by rw [← HNX.out], HC1, HB1⟩
        case measure => simp [intOf]; omega
      · obtain ⟨j, rfl⟩ : ∃ j, k = j + 1 := ⟨k - 1, by omega⟩
        have hgs := HGS.out j rfl
        have hjL : j < xs.length := by omega
        have p0 := SA.c0 j hjL
        have p1 := SA.c1 j hjL
        have p2 := SA.c2 j hjL
        have p3 := SA.c3 j hjL
        have HIO := Lib.hid (fun W => ris_any (xs[j]'hjL) ⟨#[40]⟩ (by decide) W)
        have HAD := Lib.hid (show adjB (xs[j]'hjL) (xs[j + 1]'hkL) = (isB (xs[j]'hjL) [40] || isB (xs[j + 1]'hkL) [41, 44]) by rw [isB_open, isB_close]; rfl)
        clear SA HGS HGZ HSP HV HN12 HN02 HBD2 HE2
        generalize xs[j]'hjL = y at *
        generalize xs[j + 1]'hkL = x at *
        obtain ⟨xk, xt, xn, xa⟩ := x
        obtain ⟨yk, yt, yn, ya⟩ := y
        simp only [Tk.val] at ca0 ca1 ca2 ca3 p0 p1 p2 p3 HSK HIC HIO
        generalize isB ⟨xk, xt, xn, xa⟩ [41, 44] = A2 at *
        generalize isB ⟨yk, yt, yn, ya⟩ [40] = A1 at *
        generalize adjB ⟨yk, yt, yn, ya⟩ ⟨xk, xt, xn, xa⟩ = A at *
        have had := HAD.out
        have hkb : (((j + 1 : Nat) : Int) == 0) = false := by simp; omega
        have hkm : ((j + 1 : Nat) : Int) - 1 = (j : Int) := by omega
        have hj0 : (0 : Int) ≤ (j : Int) := by omega
        have hjl : (j : Int) < (la : Int) := by omega
        generalize hGK : G (j + 1) = G0 at *
        have hs1 : (G0 ++ (⟨#[32]⟩ : ByteArray)).size ≤ 60000000 := by rw [ByteArray.size_append]; have e1 : (⟨#[32]⟩ : ByteArray).size = 1 := rfl; omega
        generalize HK : ((j + 1 : Nat) : Int) = K at *
        have hKT : K.toNat = j + 1 := by omega
        have hK0 : (0 : Int) ≤ K := by omega
        go_wp2_with fail
        refine (HIO.out _).mono ?_
        rintro e w1 ⟨rfl, hb1⟩
        have HB1 := Lib.hid (HB.out.trans (hb1.mono HB.out.size))
        have HC1 := Lib.hid (HC.out.keep hb1)
        have ca0' := (hb1.cell (p := ⟨ba, oa + (j + 1) * 4, none⟩) ba0).trans ca0
        have ca1' := (hb1.cell (p := ⟨ba, oa + (j + 1) * 4 + 1, none⟩) ba0).trans ca1
        have ca2' := (hb1.cell (p := ⟨ba, oa + (j + 1) * 4 + 2, none⟩) ba0).trans ca2
        have ca3' := (hb1.cell (p := ⟨ba, oa + (j + 1) * 4 + 3, none⟩) ba0).trans ca3
        have ba1 : ba < w1.heap.size := Nat.lt_of_lt_of_le ba0 hb1.size
        clear hb1 c0 c1 c2 c3 c4 cf cl ca0 ca1 ca2 ca3 p0 p1 p2 p3 HIO
        obtain ⟨c0, c1, c2, c3, c4, cf, cl⟩ := HC1.out
        cases A1 with
        | true =>
          simp only [Bool.true_or] at had
          subst had
          have HNX := Lib.hid (HX0.out hgs)
          clear HX1 HX0 HAD hgs HIC
          go_wp2_with fail
          refine (HSK.out _ (HT.out.below HB1.out)).mono ?_
          rintro e w2 ⟨rfl, hb2⟩
          have HB2 := Lib.hid (HB1.out.trans (hb2.mono HB1.out.size))
          have HC2 := Lib.hid (HC1.out.keep hb2)
          clear hb2
          go_wp2_with fail
          clear hKT hK0
          subst HK
          go_roundw
          case rel => exact ⟨j + 1 + 1, by omega, by go_num, by rw [← HNX.out], HC2, HB2⟩
          case measure => simp [intOf]; omega
        | false =>
          simp only [Bool.false_or] at had
          subst had
          go_wp2_with fail
          refine (HIC.out _).mono ?_
          rintro e w2 ⟨rfl, hb2⟩
          have HB2 := Lib.hid (HB1.out.trans (hb2.mono HB1.out.size))
          have HC2 := Lib.hid (HC1.out.keep hb2)
          have ca0 := (hb2.cell (p := ⟨ba, oa + (j + 1) * 4, none⟩) ba1).trans ca0'
          have ca1 := (hb2.cell (p := ⟨ba, oa + (j + 1) * 4 + 1, none⟩) ba1).trans ca1'
          have ca2 := (hb2.cell (p := ⟨ba, oa + (j + 1) * 4 + 2, none⟩) ba1).trans ca2'
          have ca3 := (hb2.cell (p := ⟨ba, oa + (j + 1) * 4 + 3, none⟩) ba1).trans ca3'
          clear hb2 c0 c1 c2 c3 c4 cf cl ca0' ca1' ca2' ca3' HIC
          obtain ⟨c0, c1, c2, c3, c4, cf, cl⟩ := HC2.out
          cases A with
          | true =>
            have HNX := Lib.hid (HX0.out hgs)
            clear HX1 HX0 HAD hgs
            go_wp2_with fail
            refine (HSK.out _ (HT.out.below HB2.out)).mono ?_
            rintro e w3 ⟨rfl, hb3⟩
            have HB3 := Lib.hid (HB2.out.trans (hb3.mono HB2.out.size))
            have HC3 := Lib.hid (HC2.out.keep hb3)
            clear hb3
            go_wp2_with fail
            clear hKT hK0
            subst HK
            go_roundw
            case rel => exact ⟨j + 1 + 1, by omega, by go_num, by rw [← HNX.out], HC3, HB3⟩
            case measure => simp [intOf]; omega
          | false =>
            have HNX := Lib.hid (HX1.out hgs)
            clear HX1 HX0 HAD hgs
            go_wp2_with fail
            refine (HSK.out _ (HT.out.below HB2.out)).mono ?_
            rintro e w3 ⟨rfl, hb3⟩
            have HB3 := Lib.hid (HB2.out.trans (hb3.mono HB2.out.size))
            have HC3 := Lib.hid (HC2.out.keep hb3)
            clear hb3
            go_wp2_with fail
            clear hKT hK0
            subst HK
            go_roundw
            case rel => exact ⟨j + 1 + 1, by omega, by go_num, by rw [← HNX.out], HC3, HB3⟩
            case measure => simp [intOf]; omega
    · have hl : ¬ (k : Int) < (la : Int) := by omega
      obtain rfl : k = la := by omega
      have he := HE2.out
      have hg1 := HBD2.out k
      generalize G k = Gk at *
      cases bl with
      | false =>
        simp only [Bool.false_eq_true, if_false] at he
        subst he
        go_wp2_with fail
        go_ret
        exact ⟨rfl, HB.out⟩
      | true =>
        simp only [if_true] at he
        subst he
        go_wp2_with fail
        go_ret
        exact ⟨rfl, HB.out⟩
end Go.Proofs.YtohalocbghhenaaGreatDoor
/- Contract of the reference of layer 11: lines. -/
namespace Go.Proofs.YtohalocbghhenaaGreatDoor
open Go.RowKit

/-- the lines of entries, each with its indentation -/
def refL : Cls → List (List UInt8)
  | .nil => []
  | .cons w xs b k _ r => headS w xs b :: ((if b then (refL k).map (fun l => 32 :: 32 :: l) ++ [[125]] else []) ++ refL r)
theorem refL_lin : ∀ (c : Cls) (d : Nat), (refL c).flatMap (fun l => indS d ++ (l ++ [10])) = linS c d
  | .nil, _ => rfl
  | .cons w xs b k a r, d => by
    have hr := refL_lin r d
    have hk := refL_lin k (d + 1)
    have hi : ∀ l : List UInt8, indS (d + 1) ++ l = indS d ++ 32 :: 32 :: l := fun l => by
      have : indS (d + 1) = indS d ++ [32, 32] := by
        unfold indS
        rw [show 2 * (d + 1) = 2 * d + 1 + 1 by omega, List.replicate_succ', List.replicate_succ', List.append_assoc]
        rfl
      rw [this]; simp
    simp only [hi] at hk
    cases b with
    | false => simp [refL, linS, hr]
    | true =>
      have hm : ((refL k).map (fun l => 32 :: 32 :: l)).flatMap (fun l => indS d ++ (l ++ [10])) = linS k (d + 1) := by
        rw [List.flatMap_map]
        exact hk
      simp [refL, linS, hr, hm]
theorem refL_len : ∀ (c : Cls), formed c = true → (refL c).length = c.count + blocks c
  | .nil, _ => rfl
  | .cons w xs b k a r, hf => by
    simp only [formed, Bool.and_eq_true] at hf
    obtain ⟨⟨⟨⟨f1, f2⟩, f3⟩, f4⟩, f5⟩ := hf
    have hr := refL_len r f5
    have hk := refL_len k f4
    cases b with
    | false =>
      have : k = .nil := Cls.len_nil (by simpa using f3)
      subst this
      simp [refL, blocks, Cls.count, hr]; omega
    | true => simp [refL, blocks, Cls.count, hr, hk]; omega
theorem refL_le : ∀ (c : Cls), (refL c).length ≤ 2 * c.count
  | .nil => Nat.le_refl _
  | .cons w xs b k a r => by
    have hr := refL_le r
    have hk := refL_le k
    cases b <;> simp [refL, Cls.count] <;> omega
theorem refL_bound : ∀ (c : Cls), lok c → ∀ l ∈ refL c, l.length ≤ 50000000 + 2 * c.count
  | .nil, _, l, h => by simp [refL] at h
  | .cons wd xs bl k a r, hl, l, h => by
    obtain ⟨l1, l2, l3, l4, l5, l6⟩ := hl
    simp only [refL, List.mem_cons, List.mem_append] at h
    simp only [Cls.count]
    rcases h with rfl | h | h
    · have := @head_len wd xs bl l1 l2 l4; omega
    · cases bl with
      | false => simp at h
      | true =>
        simp only [if_true, List.mem_append, List.mem_map, List.mem_singleton] at h
        rcases h with ⟨m, hm, rfl⟩ | rfl
        · have := refL_bound k l5 m hm
          simp only [List.length_cons]; omega
        · simp; omega
    · have := refL_bound r l6 l h; omega
theorem formed_get : ∀ (c : Cls) (i : Nat) {wd : ByteArray} {xs : List Tk} {bl : Bool} {k : Cls} {a : Int} {r : Cls}, formed c = true → c.drop i = .cons wd xs bl k a r → (∀ t ∈ xs, validT t = true ∧ t.k ≠ 5) ∧ formed k = true
  | .nil, 0, _, _, _, _, _, _, _, h => by simp [Cls.drop] at h
  | .nil, _ + 1, _, _, _, _, _, _, _, h => by simp [Cls.drop] at h
  | .cons _ _ _ _ _ _, 0, _, _, _, _, _, _, hf, h => by
    simp only [Cls.drop, Cls.cons.injEq] at h
    obtain ⟨rfl, rfl, rfl, rfl, rfl, rfl⟩ := h
    simp only [formed, Bool.and_eq_true] at hf
    obtain ⟨⟨⟨⟨f1, f2⟩, f3⟩, f4⟩, f5⟩ := hf
    refine ⟨fun t ht => ?_, f4⟩
    have := List.all_eq_true.1 f2 t ht
    rw [Bool.and_eq_true] at this
    refine ⟨this.1, fun e => ?_⟩
    have h2 := this.2
    simp [atmB, e] at h2
  | .cons _ _ _ _ _ r', i + 1, _, _, _, _, _, _, hf, h => by
    simp only [formed, Bool.and_eq_true] at hf
    exact formed_get r' i hf.2 h
theorem infoS : (Tryz.prog.info? 9).map (fun i => (i.zero, i.size, i.bytes)) = some (some (.string ⟨#[]⟩), 1, 16) := by kernel_rfl
def strV (l : List UInt8) : Value := .string (bs l)
def RlC (n : Nat) : Prop := ∀ (c : Cls), c.count < n → c.count ≤ 1000000 → formed c = true → lok c → ∀ (w : World) (F : Nat → Prop) (a : Option Addr) (b o cap : Nat), SlC w F a b o c.len cap c → Tabs w →
    Calls Tryz.prog 40 #[.slice a c.len cap] w fun e w' => ∃ v, e = .returned v ∧ w'.ownsRow w.heap.size 9 1 v (refL c).length ((refL c).map strV) ∧ Below w.heap.size w w'
theorem cell_one (w : World) (T : TypeId) (S : ByteArray) : ∀ j u, [Value.string S][j]? = some u → (w.alloc (.cells #[.string S] T)).cell? ((⟨w.heap.size, 0, none⟩ : Addr).add j) = some u := by
  intro j u hu
  match j, hu with
  | 0, hu =>
    simp at hu
    rw [← hu]
    simp [go_sem]
  | j + 1, hu => simp at hu
theorem refL_drop {c : Cls} {i : Nat} {wd : ByteArray} {xs : List Tk} {bl : Bool} {k : Cls} {a : Int} {r : Cls} (h : c.drop i = .cons wd xs bl k a r) : refL (c.drop i) = headS wd xs bl :: ((if bl then (refL k).map (fun l => 32 :: 32 :: l) ++ [[125]] else []) ++ refL (c.drop (i + 1))) := by
  rw [drop_next c i h, h]; rfl
set_option maxHeartbeats 4000000 in
set_option maxRecDepth 100000 in
theorem rlines_any : ∀ n : Nat, RlC n
  | 0 => fun _ h => absurd h (Nat.not_lt_zero _)
  | n + 1 => fun c hc hcm hf hlk w F a b o cap hA hT => by
    have IH := Lib.hid (rlines_any n)
    have HA := Lib.hid hA.here
    have HT := Lib.hid hT
    have HM := Lib.hid (fun i wd xs bl k a r => @drop_count c i wd xs bl k a r)
    have HD := Lib.hid (fun i wd xs bl k a r => @refL_drop c i wd xs bl k a r)
    have HK := Lib.hid (fun i wd xs bl k a r => @lok_drop c i wd xs bl k a r hlk)
    have HG := Lib.hid (fun i wd xs bl k a r => @formed_get c i wd xs bl k a r hf)
    have HE := Lib.hid (show refL (c.drop c.len) = [] by rw [drop_all]; rfl)
    have HZ := Lib.hid (show refL c = [] ++ refL (c.drop 0) by rw [drop_zero]; rfl)
    have hlen := refL_le c
    have hlc : c.len ≤ 1000000 := by have := kidsN_le c 0; omega
    obtain ⟨iz, hi, hz0, hz1, hz2⟩ := info_parts infoS
    obtain ⟨N, hN⟩ : ∃ N, c.count = N := ⟨_, rfl⟩
    obtain ⟨l, hl⟩ : ∃ l, c.len = l := ⟨_, rfl⟩
    obtain ⟨D, hD⟩ : ∃ D, refL c = D := ⟨_, rfl⟩
    rw [hN] at HM hc hlen hcm
    rw [hl] at HA HE hlc ⊢
    rw [hD] at HZ hlen ⊢
    have HLN := Lib.hid hl
    clear hA hN hl hD hT hf hlk
    have HO0 := Lib.hid (World.ownsRow_made (e := 9) (size := 1) (base := w.heap.size) w #[] 0 (Nat.le_refl _) (Nat.zero_le _) rfl)
    have HB0 := Lib.hid ((Below.refl w.heap.size w).alloc (Nat.le_refl _) (.cells #[] 9))
    go_enter Tryz.func40, Tryz.ntmps40
    go_wp2_with fail
    go_loopw [3, 4] (fun s3 s4 wr => ∃ (i : Nat) (acc : List (List UInt8)) (g y : Nat), i ≤ l ∧ s3 = .slice (some ⟨g, 0, none⟩) acc.length y ∧ s4 = .int .i64 (i : Int) ∧ Hid (Below w.heap.size w wr) ∧ Hid (wr.ownsRow w.heap.size 9 1 (.slice (some ⟨g, 0, none⟩) acc.length y) acc.length (acc.map strV)) ∧ Hid (D = acc ++ refL (c.drop i))) (fun _ s4 _ => (l - (intOf s4)).toNat)
    case atStart => exact ⟨0, [], _, _, Nat.zero_le _, rfl, rfl, HB0, HO0, HZ⟩
    case round =>
      obtain ⟨i, acc, g, y, hi', rfl, rfl, HB, HO, HTK⟩ := hrel
      by_cases hlt : i < l
      · have hlz : (i : Int) < (l : Int) := by omega
        have SA := HA.out
        obtain ⟨rfl, bb, _⟩ := SA.2.2.2.1 (by omega)
        obtain ⟨wd, xs, bl, kd, av, rest, aa, xb, oa, la, ca, ak, bk, ok, ck, hd, e0, e1, e2, e3, e4, SX, _, SK⟩ := AtC.get i (by rw [HLN.out]; exact hlt) SA.2.2.2.2
        have hkc := HM.out _ _ _ _ _ _ _ hd
        have htk := HTK.out
        rw [HD.out _ _ _ _ _ _ _ hd] at htk
        have hle := congrArg List.length htk
        simp only [List.length_append, List.length_cons] at hle
        obtain ⟨k1, k2, k3, k4, k5⟩ := HK.out _ _ _ _ _ _ _ hd
        obtain ⟨q1, q2⟩ := HG.out _ _ _ _ _ _ _ hd
        have hs1 := HB.out.size
        have HLI := Lib.hid (rline_any wd xs bl av aa ak xb oa la ca kd.len ck q1 k3 k4 k1 wr (SX.keep HB.out) (HT.out.below HB.out))
        have HIK := Lib.hid (fun W (hB : Below w.heap.size w W) => IH.out kd (by omega) (by omega) q2 k5 W _ ak bk ok ck (SK.low (fun x hx => hx.2) hB) (HT.out.below hB))
        have HKB := Lib.hid (fun j (h : j < (refL kd).length) => show (bs ((refL kd)[j]'h)).size ≤ 60000000 by
          rw [bs_size]
          have := refL_bound kd k5 _ (List.getElem_mem h)
          omega)
        have HTX := Lib.hid htk
        clear SA SX SK hd HTK htk IH HM HD HK HG
        obtain ⟨S, hS⟩ : ∃ S, bs (headS wd xs bl) = S := ⟨_, rfl⟩
        rw [hS] at HLI
        have HSV := Lib.hid (show Value.string S = strV (headS wd xs bl) by rw [← hS]; rfl)
        clear hS
        generalize headS wd xs bl = hd at *
        have c0 := (HB.out.cell (p := ⟨b, _, none⟩) bb).trans e0
        have c1 := (HB.out.cell (p := ⟨b, _, none⟩) bb).trans e1
        have c2 := (HB.out.cell (p := ⟨b, _, none⟩) bb).trans e2
        have c3 := (HB.out.cell (p := ⟨b, _, none⟩) bb).trans e3
        have c4 := (HB.out.cell (p := ⟨b, _, none⟩) bb).trans e4
        go_wp2_with fail
        refine HLI.out.mono ?_
        rintro e w1 ⟨rfl, hb1⟩
        have HB1 := Lib.hid (HB.out.trans (hb1.mono hs1))
        have HO1 := Lib.hid (own_below HO.out hb1)
        have hs2 := HB1.out.size
        have HO1a := Lib.hid (HO1.out.alloc (.cells #[.string S] 9))
        have HB1a := Lib.hid (HB1.out.alloc hs2 (.cells #[.string S] 9))
        have HCE1 := Lib.hid (cell_one w1 9 S)
        clear hb1 HLI HO HB HO1 HB1 c0 c1 c2 c3 c4
        go_wp2_with (at_builtin; go_loud (refine wpList_append_blk _ rfl _ _ 68 rfl w.heap.size 9 iz (.string ⟨#[]⟩) 1 16 Tryz.underlying68 hi hz0 hz1 hz2 rfl (by decide) _ _ _ rfl HO1a.out ⟨w1.heap.size, 0, none⟩ 1 1 [.string S] rfl rfl HCE1.out ?n1 ?n2 ?n3 ?n4 (by decide) ?_))
        case n1 => intro u hu; simp only [List.mem_cons, List.not_mem_nil, or_false] at hu; rcases hu with rfl; rfl
        case n2 => unfold maxLen; omega
        case n3 => omega
        case n4 => first | omega | (simp; omega)
        intro v1 w2 ho2 hg2 _
        obtain ⟨g1, y1, rfl⟩ : ∃ g y, v1 = .slice (some ⟨g, 0, none⟩) (acc.length + 1) y := by
          rcases ho2.2 with ⟨_, h0⟩ | ⟨g, y, cu, rfl, _⟩
          · omega
          · exact ⟨g, y, rfl⟩
        have HB2 := Lib.hid (HB1a.out.grown hg2 (by simp; omega) (fun k hk => (HO1a.out.lt k hk).1))
        have HO2 := Lib.hid ho2
        clear ho2 hg2 HO1a HB1a HCE1 hs2
        have c0 := (HB2.out.cell (p := ⟨b, _, none⟩) bb).trans e0
        have c1 := (HB2.out.cell (p := ⟨b, _, none⟩) bb).trans e1
        have c2 := (HB2.out.cell (p := ⟨b, _, none⟩) bb).trans e2
        have c3 := (HB2.out.cell (p := ⟨b, _, none⟩) bb).trans e3
        have c4 := (HB2.out.cell (p := ⟨b, _, none⟩) bb).trans e4
        cases bl with
        | false =>
          clear HIK HKB
          go_wp2_with fail
          go_roundw
          case rel =>
            refine ⟨i + 1, acc ++ [hd], g1, y1, by omega, by simp, by go_num, HB2, Lib.hid ?_, Lib.hid ?_⟩
            · have := HO2.out
              rw [HSV.out] at this
              simpa using this
            · rw [HTX.out]; simp
          case measure => simp [intOf]; omega
        | true =>
          have HX2 := Lib.hid (HIK.out _ HB2.out)
          clear HIK
          simp only [if_true, List.length_append, List.length_map, List.length_cons, List.length_nil] at hle
          simp only [if_true] at HTX
          generalize refL kd = KT at *
          generalize kd.len = z at *
          have hs2 := HB2.out.size
          have hg1 := (HO2.out.lt g1 rfl).2
          go_wp2_with fail
          refine HX2.out.mono ?_
          rintro e w3 ⟨vk, rfl, hok, hbk⟩
          obtain ⟨avk, cvk, rfl, hnk⟩ := own_form2 hok
          have HB3 := Lib.hid (HB2.out.trans (Below.mono hbk hs2))
          have HO3 := Lib.hid (own_below HO2.out hbk)
          have HK3 := Lib.hid hok
          have HNE := Lib.hid (show (Value.slice avk KT.length cvk).ownBlock ≠ some g1 from fun h => by
            have := (hok.lt g1 h).1
            omega)
          clear hok hbk HB2 HO2 HX2 c0 c1 c2 c3 c4
          have hcz : KT.length ≤ 2000000 := by omega
          go_wp2_with fail
          go_loopw [3, 6] (fun s3 s6 wr => ∃ (j g' y' : Nat), j ≤ KT.length ∧ s3 = .slice (some ⟨g', 0, none⟩) (acc.length + 1 + j) y' ∧ s6 = .int .i64 (j : Int) ∧ Hid (Below w.heap.size w wr) ∧ Hid (wr.ownsRow w.heap.size 9 1 (.slice (some ⟨g', 0, none⟩) (acc.length + 1 + j) y') (acc.length + 1 + j) ((acc.map strV ++ [.string S]) ++ (KT.take j).map (fun l => strV (32 :: 32 :: l)))) ∧ Hid (wr.ownsRow w2.heap.size 9 1 (.slice avk KT.length cvk) KT.length (KT.map strV)) ∧ Hid ((Value.slice avk KT.length cvk).ownBlock ≠ some g')) (fun _ s6 _ => (KT.length - (intOf s6)).toNat)
          case atStart => exact ⟨0, g1, y1, Nat.zero_le _, rfl, rfl, HB3, Lib.hid (by simpa using HO3.out), HK3, HNE⟩
          case round =>
            obtain ⟨j, g', y', hj, rfl, rfl, HBi, HOi, HKi, HNi⟩ := hrel
            by_cases hlj : j < KT.length
            · have hljz : (j : Int) < (KT.length : Int) := by omega
              obtain ⟨bkk, rfl, hbk2⟩ : ∃ bkk, avk = some ⟨bkk, 0, none⟩ ∧ wr.cell? ⟨bkk, j, none⟩ = some (.string (bs (KT[j]'hlj))) := by
                rcases HKi.out.2 with ⟨_, h0⟩ | ⟨gk, yk, cu, hv, _⟩
                · omega
                · simp only [Value.slice.injEq] at hv
                  obtain ⟨rfl, _⟩ := hv
                  refine ⟨gk, rfl, ?_⟩
                  have := HKi.out.cells (g := gk) rfl j (strV (KT[j]'hlj)) (by simp [hlj])
                  rw [Addr.add_lit] at this
                  simpa [strV] using this
              have hkb := HKB.out j hlj
              have htk : (KT.take (j + 1)).map (fun l => strV (32 :: 32 :: l)) = (KT.take j).map (fun l => strV (32 :: 32 :: l)) ++ [.string (⟨#[32, 32]⟩ ++ bs (KT[j]'hlj))] := by
                rw [List.take_succ_eq_append_getElem hlj, List.map_append]
                simp only [List.map_cons, List.map_nil]
                rw [show strV (32 :: 32 :: KT[j]'hlj) = Value.string (⟨#[32, 32]⟩ ++ bs (KT[j]'hlj)) from congrArg Value.string (by apply bs_inj; simp [bs_data])]
              have HTJ := Lib.hid htk
              clear htk
              generalize bs (KT[j]'hlj) = X at *
              have hsx : ((⟨#[32, 32]⟩ : ByteArray) ++ X).size ≤ 70000000 := by rw [ByteArray.size_append]; have e1 : (⟨#[32, 32]⟩ : ByteArray).size = 2 := rfl; omega
              have hsi := HBi.out.size
              have HOia := Lib.hid (HOi.out.alloc (.cells #[.string (⟨#[32, 32]⟩ ++ X)] 9))
              have HKia := Lib.hid (HKi.out.alloc (.cells #[.string (⟨#[32, 32]⟩ ++ X)] 9))
              have HBia := Lib.hid (HBi.out.alloc hsi (.cells #[.string (⟨#[32, 32]⟩ ++ X)] 9))
              have HCEi := Lib.hid (cell_one wr 9 (⟨#[32, 32]⟩ ++ X))
              have hbb : bkk < wr.heap.size := (HKi.out.lt bkk rfl).2
              clear HKB
              go_wp2_with (at_builtin; go_loud (refine wpList_append_blk _ rfl _ _ 68 rfl w.heap.size 9 iz (.string ⟨#[]⟩) 1 16 Tryz.underlying68 hi hz0 hz1 hz2 rfl (by decide) _ _ _ rfl HOia.out ⟨wr.heap.size, 0, none⟩ 1 1 [.string (⟨#[32, 32]⟩ ++ X)] rfl rfl HCEi.out ?n1 ?n2 ?n3 ?n4 (by decide) ?_))
              case n1 => intro u hu; simp only [List.mem_cons, List.not_mem_nil, or_false] at hu; rcases hu with rfl; rfl
              case n2 => unfold maxLen; omega
              case n3 => omega
              case n4 => first | omega | (simp; omega)
              intro v5 w5 ho5 hg5 hw5
              obtain ⟨g5, y5, rfl⟩ : ∃ g y, v5 = .slice (some ⟨g, 0, none⟩) (acc.length + 1 + j + 1) y := by
                rcases ho5.2 with ⟨_, h0⟩ | ⟨g, y, cu, rfl, _⟩
                · omega
                · exact ⟨g, y, rfl⟩
              have HB5 := Lib.hid (HBia.out.grown hg5 (by simp; omega) (fun k hk => (HOia.out.lt k hk).1))
              have HO5 := Lib.hid ho5
              have HK5 := Lib.hid (HKia.out.kept hg5 (Or.inr HNi.out))
              have HN5 := Lib.hid (show (Value.slice (some ⟨bkk, 0, none⟩) KT.length cvk).ownBlock ≠ some g5 from fun h => by
                rcases hw5 with h5 | h5
                · have e : g5 = g' := Option.some.inj h5
                  exact HNi.out (h.trans (congrArg some e))
                · have := h5 g5 rfl
                  have e : bkk = g5 := Option.some.inj h
                  try simp only [World.size_alloc] at this
                  try simp at this
                  omega)
              clear ho5 hg5 hw5 HOia HKia HBia HCEi HBi HOi HKi HNi
              go_wp2_with fail
              go_roundw
              case rel =>
                refine ⟨j + 1, g5, y5, by omega, rfl, by go_num, HB5, Lib.hid ?_, HK5, HN5⟩
                have := HO5.out
                rw [HTJ.out]
                have e2 : acc.length + 1 + (j + 1) = acc.length + 1 + j + 1 := rfl
                rw [e2]
                simpa only [List.append_assoc, List.map_take, List.cons_append, List.nil_append, List.singleton_append] using this
              case measure => simp [intOf]; omega
            · have hljz : ¬ (j : Int) < (KT.length : Int) := by omega
              obtain rfl : j = KT.length := by omega
              have hsi := HBi.out.size
              have HOia := Lib.hid (HOi.out.alloc (.cells #[.string ⟨#[125]⟩] 9))
              have HBia := Lib.hid (HBi.out.alloc hsi (.cells #[.string ⟨#[125]⟩] 9))
              have HCEi := Lib.hid (cell_one wr 9 ⟨#[125]⟩)
              clear HKB HKi HNi
              go_wp2_with (at_builtin; go_loud (refine wpList_append_blk _ rfl _ _ 68 rfl w.heap.size 9 iz (.string ⟨#[]⟩) 1 16 Tryz.underlying68 hi hz0 hz1 hz2 rfl (by decide) _ _ _ rfl HOia.out ⟨wr.heap.size, 0, none⟩ 1 1 [.string ⟨#[125]⟩] rfl rfl HCEi.out ?n1 ?n2 ?n3 ?n4 (by decide) ?_))
              case n1 => first | rfl | (intro u hu; simp only [List.mem_cons, List.not_mem_nil, or_false] at hu; rcases hu with rfl; rfl)
              case n2 => unfold maxLen; omega
              case n3 => omega
              case n4 => first | omega | (simp; omega)
              intro v6 w6 ho6 hg6 _
              obtain ⟨g6, y6, rfl⟩ : ∃ g y, v6 = .slice (some ⟨g, 0, none⟩) (acc.length + 1 + KT.length + 1) y := by
                rcases ho6.2 with ⟨_, h0⟩ | ⟨g, y, cu, rfl, _⟩
                · omega
                · exact ⟨g, y, rfl⟩
              have HB6 := Lib.hid (HBia.out.grown hg6 (by simp; omega) (fun k hk => (HOia.out.lt k hk).1))
              have HO6 := Lib.hid ho6
              clear ho6 hg6 HOia HBia HCEi HBi HOi
              go_wp2_with fail
              go_roundw
              case rel =>
                refine ⟨i + 1, acc ++ (hd :: (KT.map (fun l => 32 :: 32 :: l) ++ [[125]])), g6, y6, by omega, by simp [Nat.add_assoc, Nat.add_comm, Nat.add_left_comm], by go_num, HB6, Lib.hid ?_, Lib.hid ?_⟩
                · have := HO6.out
                  rw [HSV.out] at this
                  try rw [List.take_length] at this
                  have e125 : strV [125] = .string ⟨#[125]⟩ := rfl
                  simpa [e125, Nat.add_assoc, Nat.add_comm, Nat.add_left_comm, List.append_assoc, Function.comp_def] using this
                · rw [HTX.out]; simp
              case measure => simp [intOf]; omega
      · have hlz : ¬ (i : Int) < (l : Int) := by omega
        obtain rfl : i = l := by omega
        have hq : D = acc := by have := HTK.out; rw [HE.out] at this; simpa using this
        subst hq
        clear HTK HE HZ HD
        go_wp2_with fail
        go_ret
        exact ⟨_, rfl, HO.out, HB.out⟩
end Go.Proofs.YtohalocbghhenaaGreatDoor
