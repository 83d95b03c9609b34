/- Text and the reference's Text; the text of a fraction is read as the fraction. -/
import Derived.Test.YtfdalnkdeeminaaDoorTxtC
import Derived.Test.YtfdalnkdeeminaaDoorFld
import Derived.Test.YtfdalnkdeeminaaDoorRefF
set_option linter.unusedSimpArgs false
set_option linter.unusedVariables false
namespace Go.Proofs.YtfdalnkdeeminaaDoor
open Go.RowKit

theorem fmt_any (n : Int) (h0 : -9223372036854775808 ≤ n) (h1 : n ≤ 9223372036854775807) (w : World) (ht : TabW w) :
    Calls Tryd.prog 68 #[.int .i64 n, .int .i64 10] w fun e w' => e = .returned (.string ⟨(Lib.itoa n).toArray⟩) ∧ Below w.heap.size w w' := by
  refine (Tryd.strconv_FormatInt_10 n h0 h1 w ht).mono ?_
  rintro e w' ⟨rfl, k, os, hw⟩
  exact ⟨rfl, by rw [hw]; exact below_grow k os⟩

theorem dig_of (k : Nat) (h : k < 10) : isDig (UInt8.ofNat (48 + k)) = true ∧ ((UInt8.ofNat (48 + k)).toNat : Int) - 48 = k := by
  have : (UInt8.ofNat (48 + k)).toNat = 48 + k := by simp; omega
  unfold isDig
  rw [this]
  simp only [decide_eq_true_eq]
  omega
theorem dec_facts (u : Nat) : AllDig (Lib.decDigits u) ∧ numL (Lib.decDigits u) = u ∧ 1 ≤ (Lib.decDigits u).length ∧ ∀ k, u < 10 ^ k → 1 ≤ k → (Lib.decDigits u).length ≤ k := by
  induction u using Nat.strongRecOn with
  | ind u ih =>
    by_cases h : u < 10
    · obtain ⟨d1, d2⟩ := dig_of u h
      rw [Lib.decDigits, dif_pos h]
      refine ⟨fun c hc => by rw [List.mem_singleton.1 hc]; exact d1, ?_, by simp, fun k _ hk => by simpa using hk⟩
      show (0 : Int) * 10 + (((UInt8.ofNat (48 + u)).toNat : Int) - 48) = u
      omega
    · obtain ⟨i1, i2, i3, i4⟩ := ih (u / 10) (by omega)
      obtain ⟨d1, d2⟩ := dig_of (u % 10) (by omega)
      rw [Lib.decDigits, dif_neg h]
      refine ⟨fun c hc => ?_, ?_, by simp, fun k hk h1 => ?_⟩
      · rcases List.mem_append.1 hc with h' | h'
        · exact i1 c h'
        · rw [List.mem_singleton.1 h']; exact d1
      · rw [numL_snoc, i2, d2]; omega
      · rw [List.length_append, List.length_singleton]
        obtain ⟨m, rfl⟩ : ∃ m, k = m + 1 := ⟨k - 1, by omega⟩
        have h2 : 1 ≤ m := by
          rcases Nat.eq_zero_or_pos m with h' | h'
          · subst h'; simp at hk; omega
          · exact h'
        have := i4 m (by rw [Nat.pow_succ] at hk; omega) h2
        omega
/-- the text of a fraction -/
def textL (n d : Int) : List UInt8 := if d = 1 then Lib.itoa n else Lib.itoa n ++ 47 :: Lib.itoa d
def textS (n d : Int) : ByteArray := if vldI n d = true then ⟨(textL n d).toArray⟩ else ⟨#[]⟩
theorem itoa_parts (n : Int) : Lib.itoa n = (if n < 0 then [45] else []) ++ Lib.decDigits n.natAbs := by
  unfold Lib.itoa
  by_cases h : n < 0
  · rw [if_pos h, if_pos h]; rfl
  · rw [if_neg h, if_neg h, show n.toNat = n.natAbs from by omega]; rfl
theorem itoa_len {n : Int} (h0 : -9223372036854775808 ≤ n) (h1 : n ≤ 9223372036854775807) : (Lib.itoa n).length ≤ 20 := by
  rw [itoa_parts, List.length_append]
  have := (dec_facts n.natAbs).2.2.2 19 (by omega) (by omega)
  split <;> simp <;> omega
theorem ba_ext {a b : ByteArray} (h : a.data.toList = b.data.toList) : a = b := ByteArray.ext (Array.toList_inj.1 h)
theorem text_cat (n d : Int) : (⟨(Lib.itoa n).toArray⟩ : ByteArray) ++ ⟨#[47]⟩ ++ ⟨(Lib.itoa d).toArray⟩ = ⟨(Lib.itoa n ++ 47 :: Lib.itoa d).toArray⟩ := by
  apply ba_ext
  rw [Joins.data_append, Joins.data_append]
  simp
theorem text_cat2 (n d : Int) : (⟨(Lib.itoa n).toArray⟩ : ByteArray) ++ (⟨#[47]⟩ ++ ⟨(Lib.itoa d).toArray⟩) = ⟨(Lib.itoa n ++ 47 :: Lib.itoa d).toArray⟩ := by
  apply ba_ext
  rw [Joins.data_append, Joins.data_append]
  simp
theorem vld_cond {n d : Int} (hv : vldI n d = true) : -9223372036854775808 ≤ n ∧ n ≤ 9223372036854775807 ∧ -9223372036854775808 ≤ d ∧ d ≤ 9223372036854775807 := by
  obtain ⟨a, b, c, d, _⟩ := vldI_out hv
  omega

set_option maxHeartbeats 1000000 in
set_option maxRecDepth 100000 in
/-- fraction.Text -/
theorem text_any (n d : Int) (h1 : -9223372036854775808 ≤ n) (h1' : n ≤ 9223372036854775807) (h2 : -9223372036854775808 ≤ d) (h2' : d ≤ 9223372036854775807) (w : World) (ht : TabW w) :
    Calls Tryd.prog 40 #[.agg #[.int .i64 n, .int .i64 d]] w fun e w' => e = .returned (.string (textS n d)) ∧ Below w.heap.size w w' := by
  have HV := fun W => valid_any n d h1 h1' h2 h2' W
  have HT := Lib.hid ht
  clear ht
  have HF1 := Lib.hid (fun W (ht : TabW W) => fmt_any n h1 h1' W ht)
  have HF2 := Lib.hid (fun W (ht : TabW W) => fmt_any d h2 h2' W ht)
  have l1 : (⟨(Lib.itoa n).toArray⟩ : ByteArray).size ≤ 20 := itoa_len h1 h1'
  have l2 : (⟨(Lib.itoa d).toArray⟩ : ByteArray).size ≤ 20 := itoa_len h2 h2'
  have HC := Lib.hid (text_cat n d)
  unfold textS textL
  generalize (Lib.itoa n ++ 47 :: Lib.itoa d) = X at *
  generalize hX : (⟨(Lib.itoa n).toArray⟩ : ByteArray) = x at *
  have HX := Lib.hid hX
  clear hX
  generalize (⟨(Lib.itoa d).toArray⟩ : ByteArray) = y at *
  cases hv : vldI n d with
  | false =>
    rw [hv] at HV
    have HVV := Lib.hid HV
    clear HV hv h1 h1' h2 h2'
    go_enter Tryd.func40, Tryd.ntmps40
    go_wp2_with fail
    refine (HVV.out _).mono ?_
    rintro e w1 ⟨rfl, hb1⟩
    have hz1 := bsize hb1
    simp at hz1
    go_wp2
    go_ret
    exact ⟨rfl, (by repeat (first | with_reducible exact Below.refl _ _ | (with_reducible refine Below.setCell ?_ (by first | exact Nat.le_refl _ | omega | (simp; done) | (simp; omega)) _) | (with_reducible refine Below.alloc ?_ (by first | exact Nat.le_refl _ | omega | (simp; done) | (simp; omega)) _) | with_reducible refine Below.drew ?_ | with_reducible refine bel_drewN ?_ _ | (with_reducible refine bel_by (by with_reducible assumption) (by first | exact Nat.le_refl _ | omega | (simp; done) | (simp; omega)) ?_)))⟩
  | true =>
    rw [hv] at HV
    have HVV := Lib.hid HV
    clear HV hv h1 h1' h2 h2'
    rw [if_pos rfl]
    by_cases hd : d = 1
    · rw [if_pos hd]
      have hd' : (d == 1) = true := by simpa using hd
      clear hd
      go_enter Tryd.func40, Tryd.ntmps40
      go_wp2_with fail
      refine (HVV.out _).mono ?_
      rintro e w1 ⟨rfl, hb1⟩
      obtain ⟨hc1, hf1⟩ := bcell hb1
      have hz1 := bsize hb1
      simp at hz1
      have hbW : Below w.heap.size w w1 := (by repeat (first | with_reducible exact Below.refl _ _ | (with_reducible refine Below.setCell ?_ (by first | exact Nat.le_refl _ | omega | (simp; done) | (simp; omega)) _) | (with_reducible refine Below.alloc ?_ (by first | exact Nat.le_refl _ | omega | (simp; done) | (simp; omega)) _) | with_reducible refine Below.drew ?_ | with_reducible refine bel_drewN ?_ _ | (with_reducible refine bel_by (by with_reducible assumption) (by first | exact Nat.le_refl _ | omega | (simp; done) | (simp; omega)) ?_)))
      have ht1 : TabW w1 := HT.out.below hbW
      have k0 : w.heap.size < w1.heap.size := by omega
      have c0 : w1.cell? ⟨w.heap.size, 0, none⟩ = some (.int .i64 n) := by simp [go_sem, hc1, k0]
      have c1 : w1.cell? ⟨w.heap.size, 1, none⟩ = some (.int .i64 d) := by simp [go_sem, hc1, k0]
      have HT1 := Lib.hid ht1
      clear hc1 hf1 hb1 hz1 ht1
      go_wp2_with fail
      refine (HF1.out _ HT1.out).mono ?_
      rintro e w2 ⟨rfl, hb2⟩
      have hz2 := bsize hb2
      have c0 := (hb2.cell (p := ⟨w.heap.size, 0, none⟩) k0).trans c0
      have c1 := (hb2.cell (p := ⟨w.heap.size, 1, none⟩) k0).trans c1
      go_wp2
      go_ret
      exact ⟨by rw [HX.out]; rfl, (by repeat (first | with_reducible exact Below.refl _ _ | (with_reducible refine Below.setCell ?_ (by first | exact Nat.le_refl _ | omega | (simp; done) | (simp; omega)) _) | (with_reducible refine Below.alloc ?_ (by first | exact Nat.le_refl _ | omega | (simp; done) | (simp; omega)) _) | with_reducible refine Below.drew ?_ | with_reducible refine bel_drewN ?_ _ | (with_reducible refine bel_by (by with_reducible assumption) (by first | exact Nat.le_refl _ | omega | (simp; done) | (simp; omega)) ?_)))⟩
    · rw [if_neg hd]
      have hd' : (d == 1) = false := by simpa using hd
      clear hd
      go_enter Tryd.func40, Tryd.ntmps40
      go_wp2_with fail
      refine (HVV.out _).mono ?_
      rintro e w1 ⟨rfl, hb1⟩
      obtain ⟨hc1, hf1⟩ := bcell hb1
      have hz1 := bsize hb1
      simp at hz1
      have hbW : Below w.heap.size w w1 := (by repeat (first | with_reducible exact Below.refl _ _ | (with_reducible refine Below.setCell ?_ (by first | exact Nat.le_refl _ | omega | (simp; done) | (simp; omega)) _) | (with_reducible refine Below.alloc ?_ (by first | exact Nat.le_refl _ | omega | (simp; done) | (simp; omega)) _) | with_reducible refine Below.drew ?_ | with_reducible refine bel_drewN ?_ _ | (with_reducible refine bel_by (by with_reducible assumption) (by first | exact Nat.le_refl _ | omega | (simp; done) | (simp; omega)) ?_)))
      have ht1 : TabW w1 := HT.out.below hbW
      have k0 : w.heap.size < w1.heap.size := by omega
      have c0 : w1.cell? ⟨w.heap.size, 0, none⟩ = some (.int .i64 n) := by simp [go_sem, hc1, k0]
      have c1 : w1.cell? ⟨w.heap.size, 1, none⟩ = some (.int .i64 d) := by simp [go_sem, hc1, k0]
      have HT1 := Lib.hid ht1
      clear hc1 hf1 hb1 hz1 ht1
      go_wp2_with fail
      refine (HF1.out _ HT1.out).mono ?_
      rintro e w2 ⟨rfl, hb2⟩
      have hz2 := bsize hb2
      have c0 := (hb2.cell (p := ⟨w.heap.size, 0, none⟩) k0).trans c0
      have c1 := (hb2.cell (p := ⟨w.heap.size, 1, none⟩) k0).trans c1
      have ht2 : TabW w2 := HT1.out.below hb2
      have HT2 := Lib.hid ht2
      have k1 : w.heap.size < w2.heap.size := by omega
      clear ht2
      go_wp2_with fail
      refine (HF2.out _ HT2.out).mono ?_
      rintro e w3 ⟨rfl, hb3⟩
      have hz3 := bsize hb3
      go_wp2
      go_ret
      exact ⟨by first | (rw [← HC.out]; rfl) | (simp [← HC.out]; done), (by repeat (first | with_reducible exact Below.refl _ _ | (with_reducible refine Below.setCell ?_ (by first | exact Nat.le_refl _ | omega | (simp; done) | (simp; omega)) _) | (with_reducible refine Below.alloc ?_ (by first | exact Nat.le_refl _ | omega | (simp; done) | (simp; omega)) _) | with_reducible refine Below.drew ?_ | with_reducible refine bel_drewN ?_ _ | (with_reducible refine bel_by (by with_reducible assumption) (by first | exact Nat.le_refl _ | omega | (simp; done) | (simp; omega)) ?_)))⟩

set_option maxHeartbeats 1000000 in
set_option maxRecDepth 100000 in
/-- the reference's Text -/
theorem rtext_any (n d : Int) (h1 : -9223372036854775808 ≤ n) (h1' : n ≤ 9223372036854775807) (h2 : -9223372036854775808 ≤ d) (h2' : d ≤ 9223372036854775807) (w : World) (ht : TabW w) :
    Calls Tryd.prog 41 #[.agg #[.int .i64 n, .int .i64 d]] w fun e w' => e = .returned (.string (textS n d)) ∧ Below w.heap.size w w' := by
  have HV := fun W => rvalid_any n d h1 h1' h2 h2' W
  have HT := Lib.hid ht
  clear ht
  have HF1 := Lib.hid (fun W (ht : TabW W) => fmt_any n h1 h1' W ht)
  have HF2 := Lib.hid (fun W (ht : TabW W) => fmt_any d h2 h2' W ht)
  have l1 : (⟨(Lib.itoa n).toArray⟩ : ByteArray).size ≤ 20 := itoa_len h1 h1'
  have l2 : (⟨(Lib.itoa d).toArray⟩ : ByteArray).size ≤ 20 := itoa_len h2 h2'
  have HC := Lib.hid (text_cat2 n d)
  unfold textS textL
  generalize (Lib.itoa n ++ 47 :: Lib.itoa d) = X at *
  generalize hX : (⟨(Lib.itoa n).toArray⟩ : ByteArray) = x at *
  have HX := Lib.hid hX
  clear hX
  generalize (⟨(Lib.itoa d).toArray⟩ : ByteArray) = y at *
  cases hv : vldI n d with
  | false =>
    rw [hv] at HV
    have HVV := Lib.hid HV
    clear HV hv h1 h1' h2 h2'
    go_enter Tryd.func41, Tryd.ntmps41
    go_wp2_with fail
    refine (HVV.out _).mono ?_
    rintro e w1 ⟨rfl, hb1⟩
    have hz1 := bsize hb1
    simp at hz1
    go_wp2
    go_ret
    exact ⟨rfl, (by repeat (first | with_reducible exact Below.refl _ _ | (with_reducible refine Below.setCell ?_ (by first | exact Nat.le_refl _ | omega | (simp; done) | (simp; omega)) _) | (with_reducible refine Below.alloc ?_ (by first | exact Nat.le_refl _ | omega | (simp; done) | (simp; omega)) _) | with_reducible refine Below.drew ?_ | with_reducible refine bel_drewN ?_ _ | (with_reducible refine bel_by (by with_reducible assumption) (by first | exact Nat.le_refl _ | omega | (simp; done) | (simp; omega)) ?_)))⟩
  | true =>
    rw [hv] at HV
    have HVV := Lib.hid HV
    clear HV hv h1 h1' h2 h2'
    rw [if_pos rfl]
    by_cases hd : d = 1
    · rw [if_pos hd]
      have hd' : (d != 1) = false := by simpa using hd
      clear hd
      go_enter Tryd.func41, Tryd.ntmps41
      go_wp2_with fail
      refine (HVV.out _).mono ?_
      rintro e w1 ⟨rfl, hb1⟩
      obtain ⟨hc1, hf1⟩ := bcell hb1
      have hz1 := bsize hb1
      simp at hz1
      have hbW : Below w.heap.size w w1 := (by repeat (first | with_reducible exact Below.refl _ _ | (with_reducible refine Below.setCell ?_ (by first | exact Nat.le_refl _ | omega | (simp; done) | (simp; omega)) _) | (with_reducible refine Below.alloc ?_ (by first | exact Nat.le_refl _ | omega | (simp; done) | (simp; omega)) _) | with_reducible refine Below.drew ?_ | with_reducible refine bel_drewN ?_ _ | (with_reducible refine bel_by (by with_reducible assumption) (by first | exact Nat.le_refl _ | omega | (simp; done) | (simp; omega)) ?_)))
      have ht1 : TabW w1 := HT.out.below hbW
      have k0 : w.heap.size < w1.heap.size := by omega
      have c0 : w1.cell? ⟨w.heap.size, 0, none⟩ = some (.int .i64 n) := by simp [go_sem, hc1, k0]
      have c1 : w1.cell? ⟨w.heap.size, 1, none⟩ = some (.int .i64 d) := by simp [go_sem, hc1, k0]
      have HT1 := Lib.hid ht1
      clear hc1 hf1 hb1 hz1 ht1
      go_wp2_with fail
      refine (HF1.out _ HT1.out).mono ?_
      rintro e w2 ⟨rfl, hb2⟩
      have hz2 := bsize hb2
      have c0 := (hb2.cell (p := ⟨w.heap.size, 0, none⟩) k0).trans c0
      have c1 := (hb2.cell (p := ⟨w.heap.size, 1, none⟩) k0).trans c1
      go_wp2
      go_ret
      exact ⟨by rw [HX.out]; rfl, (by repeat (first | with_reducible exact Below.refl _ _ | (with_reducible refine Below.setCell ?_ (by first | exact Nat.le_refl _ | omega | (simp; done) | (simp; omega)) _) | (with_reducible refine Below.alloc ?_ (by first | exact Nat.le_refl _ | omega | (simp; done) | (simp; omega)) _) | with_reducible refine Below.drew ?_ | with_reducible refine bel_drewN ?_ _ | (with_reducible refine bel_by (by with_reducible assumption) (by first | exact Nat.le_refl _ | omega | (simp; done) | (simp; omega)) ?_)))⟩
    · rw [if_neg hd]
      have hd' : (d != 1) = true := by simpa using hd
      clear hd
      go_enter Tryd.func41, Tryd.ntmps41
      go_wp2_with fail
      refine (HVV.out _).mono ?_
      rintro e w1 ⟨rfl, hb1⟩
      obtain ⟨hc1, hf1⟩ := bcell hb1
      have hz1 := bsize hb1
      simp at hz1
      have hbW : Below w.heap.size w w1 := (by repeat (first | with_reducible exact Below.refl _ _ | (with_reducible refine Below.setCell ?_ (by first | exact Nat.le_refl _ | omega | (simp; done) | (simp; omega)) _) | (with_reducible refine Below.alloc ?_ (by first | exact Nat.le_refl _ | omega | (simp; done) | (simp; omega)) _) | with_reducible refine Below.drew ?_ | with_reducible refine bel_drewN ?_ _ | (with_reducible refine bel_by (by with_reducible assumption) (by first | exact Nat.le_refl _ | omega | (simp; done) | (simp; omega)) ?_)))
      have ht1 : TabW w1 := HT.out.below hbW
      have k0 : w.heap.size < w1.heap.size := by omega
      have c0 : w1.cell? ⟨w.heap.size, 0, none⟩ = some (.int .i64 n) := by simp [go_sem, hc1, k0]
      have c1 : w1.cell? ⟨w.heap.size, 1, none⟩ = some (.int .i64 d) := by simp [go_sem, hc1, k0]
      have HT1 := Lib.hid ht1
      clear hc1 hf1 hb1 hz1 ht1
      go_wp2_with fail
      refine (HF1.out _ HT1.out).mono ?_
      rintro e w2 ⟨rfl, hb2⟩
      have hz2 := bsize hb2
      have c0 := (hb2.cell (p := ⟨w.heap.size, 0, none⟩) k0).trans c0
      have c1 := (hb2.cell (p := ⟨w.heap.size, 1, none⟩) k0).trans c1
      have ht2 : TabW w2 := HT1.out.below hb2
      have HT2 := Lib.hid ht2
      have k1 : w.heap.size < w2.heap.size := by omega
      clear ht2
      go_wp2_with fail
      refine (HF2.out _ HT2.out).mono ?_
      rintro e w3 ⟨rfl, hb3⟩
      have hz3 := bsize hb3
      go_wp2
      go_ret
      exact ⟨by first | (rw [← HC.out]; rfl) | (simp [← HC.out]; done), (by repeat (first | with_reducible exact Below.refl _ _ | (with_reducible refine Below.setCell ?_ (by first | exact Nat.le_refl _ | omega | (simp; done) | (simp; omega)) _) | (with_reducible refine Below.alloc ?_ (by first | exact Nat.le_refl _ | omega | (simp; done) | (simp; omega)) _) | with_reducible refine Below.drew ?_ | with_reducible refine bel_drewN ?_ _ | (with_reducible refine bel_by (by with_reducible assumption) (by first | exact Nat.le_refl _ | omega | (simp; done) | (simp; omega)) ?_)))⟩

-- the text is read as the fraction
theorem bnd_self {n d : Int} (hv : vldI n d = true) : bndI (decide (n < 0)) (absI n) d = (n, d, 0) := by
  have g := vld_good hv
  unfold bndI
  rw [sg_abs, Fr.bnd_rat _ _ (by have := g.1; omega)]
  exact Fr.ofR_toR g
theorem textS_size {n d : Int} (h1 : -9223372036854775808 ≤ n) (h1' : n ≤ 9223372036854775807) (h2 : -9223372036854775808 ≤ d) (h2' : d ≤ 9223372036854775807) : (textS n d).size ≤ 100 := by
  have l1 := itoa_len h1 h1'
  have l2 := itoa_len h2 h2'
  unfold textS
  split
  · show (textL n d).length ≤ 100
    unfold textL
    split
    · omega
    · rw [List.length_append, List.length_cons]; omega
  · decide
theorem parse_text {n d : Int} (hv : vldI n d = true) : parseS (textS n d) = (n, d, 0) := by
  obtain ⟨v1, v2, v3, v4, _⟩ := vldI_out hv
  obtain ⟨a1, a2, a3, a4⟩ := dec_facts n.natAbs
  obtain ⟨b1, b2, b3, b4⟩ := dec_facts d.natAbs
  have a5 := a4 19 (by omega) (by omega)
  have b5 := b4 19 (by omega) (by omega)
  have hL : (textS n d).data.toList = (if n < 0 then [45] else []) ++ (Lib.decDigits n.natAbs ++ (if d = 1 then [] else 47 :: Lib.decDigits d.natAbs)) := by
    unfold textS textL
    rw [if_pos hv, itoa_parts n, itoa_parts d, if_neg (show ¬ d < 0 by omega)]
    by_cases hd : d = 1 <;> simp [hd]
  unfold parseS
  rw [hL]
  have e1 : numL (Lib.decDigits n.natAbs) = absI n := a2
  have e2 : numL (Lib.decDigits d.natAbs) = d := by rw [b2]; omega
  have hB := bnd_self hv
  generalize hD : Lib.decDigits n.natAbs = D at *
  generalize Lib.decDigits d.natAbs = E at *
  have hstrip : Lib.hasPrefix ((if n < 0 then [45] else []) ++ (D ++ (if d = 1 then [] else 47 :: E))) [45] = decide (n < 0) ∧ Lib.trimPrefix ((if n < 0 then [45] else []) ++ (D ++ (if d = 1 then [] else 47 :: E))) [45] = D ++ (if d = 1 then [] else 47 :: E) := by
    by_cases h : n < 0
    · rw [if_pos h]
      unfold Lib.trimPrefix Lib.hasPrefix
      simp [h, List.isPrefixOf]
    · rw [if_neg h]
      cases D with
      | nil => simp at a3
      | cons c D' =>
        have hc := isDig_out (a1 c (by simp))
        have hne : (45 : UInt8) ≠ c := by
          intro e
          rw [← e] at hc
          have : ((45 : UInt8).toNat : Int) = 45 := rfl
          omega
        have hf : Lib.hasPrefix (c :: D' ++ (if d = 1 then [] else 47 :: E)) [45] = false := by
          unfold Lib.hasPrefix
          simp [List.isPrefixOf, hne]
        unfold Lib.trimPrefix
        rw [List.nil_append, hf]
        simp [h]
  rw [hstrip.1, hstrip.2]
  have hr : runL (D ++ (if d = 1 then [] else 47 :: E)) = D.length := by
    refine runL_take _ _ (by simp) (by rw [List.take_left]; exact a1) ?_
    by_cases hd : d = 1
    · left; simp [hd]
    · right
      refine ⟨by simp [hd], ?_⟩
      simp [hd]
      decide
  unfold parseL
  rw [hr, if_pos ⟨a3, a5⟩, List.drop_left, List.take_left]
  by_cases hd : d = 1
  · subst hd
    simp only [if_true]
    rw [e1]
    exact hB
  · simp only [if_neg hd]
    have hrE := runL_self b1
    rw [hrE, List.drop_length, List.take_length, if_pos (show 1 ≤ E.length ∧ E.length ≤ 19 ∧ ([] : List UInt8) = [] from ⟨b3, b5, rfl⟩), if_pos (show (47 : UInt8).toNat = 47 from rfl), e2, if_neg (by omega), e1]
    exact hB
end Go.Proofs.YtfdalnkdeeminaaDoor
