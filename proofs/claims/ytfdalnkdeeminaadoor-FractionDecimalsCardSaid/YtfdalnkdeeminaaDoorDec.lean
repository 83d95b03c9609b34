/- Decimal and the reference's Decimal. -/
import Derived.Test.YtfdalnkdeeminaaDoorFmt
import Derived.Test.YtfdalnkdeeminaaDoorEgC
import Derived.Test.YtfdalnkdeeminaaDoorTxtE
set_option linter.unusedSimpArgs false
set_option linter.unusedVariables false
namespace Go.Proofs.YtfdalnkdeeminaaDoor
open Go.RowKit

/-- the digits with zeros before them, so many that k can stand behind the point -/
def padL (k : Nat) (ds : List UInt8) : List UInt8 := List.replicate (k + 1 - ds.length) 48 ++ ds
def padB (k : Nat) (n : Int) : ByteArray := ⟨(padL k (Lib.decDigits n.natAbs)).toArray⟩
def pntB (k : Nat) (P : ByteArray) : ByteArray := if 0 < k then P.extract 0 (P.size - k) ++ ⟨#[46]⟩ ++ P.extract (P.size - k) P.size else P
def sgnB (n : Int) (Q : ByteArray) : ByteArray := if n < 0 then ⟨#[45]⟩ ++ Q else Q
def decB (n : Int) (k : Nat) : ByteArray := sgnB n (pntB k (padB k n))
theorem padL_length (k : Nat) (ds : List UInt8) : (padL k ds).length = max (k + 1) ds.length := by
  unfold padL
  rw [List.length_append, List.length_replicate]
  omega
theorem padB_size (k : Nat) (n : Int) (h0 : -9223372036854775808 ≤ n) (h1 : n ≤ 9223372036854775807) (hk : k ≤ 6) : k + 1 ≤ (padB k n).size ∧ (padB k n).size ≤ 26 := by
  have e : (padB k n).size = (padL k (Lib.decDigits n.natAbs)).length := by simp [padB, ByteArray.size]
  have := (dec_facts n.natAbs).2.2.2 19 (by omega) (by omega)
  rw [e, padL_length]
  omega
theorem rep48 (c : Nat) : Lib.repeatL [48] c = List.replicate c 48 := by
  induction c with
  | zero => rfl
  | succ c ih =>
    show [48] ++ Lib.repeatL [48] c = _
    rw [ih]
    rfl
theorem pad_long (k : Nat) (n : Int) (h : k + 1 ≤ (Lib.decDigits n.natAbs).length) : (⟨(Lib.decDigits n.natAbs).toArray⟩ : ByteArray) = padB k n := by
  unfold padB padL
  rw [show k + 1 - (Lib.decDigits n.natAbs).length = 0 from by omega]
  rfl
theorem pad_short (k : Nat) (n : Int) (c : Nat) (h : c = k + 1 - (Lib.decDigits n.natAbs).length) : (⟨(Lib.repeatL [48] c).toArray⟩ : ByteArray) ++ ⟨(Lib.decDigits n.natAbs).toArray⟩ = padB k n := by
  apply ba_ext
  rw [Joins.data_append]
  unfold padB padL
  rw [rep48, h]
theorem pnt_yes {k : Nat} {P : ByteArray} (h : 0 < k) : P.extract 0 (P.size - k) ++ ⟨#[46]⟩ ++ P.extract (P.size - k) P.size = pntB k P := by unfold pntB; rw [if_pos h]
theorem pnt_no {k : Nat} {P : ByteArray} (h : ¬ 0 < k) : P = pntB k P := by unfold pntB; rw [if_neg h]
theorem pnt_size {k : Nat} {P : ByteArray} (h : P.size ≤ 26) : (pntB k P).size ≤ 80 := by
  unfold pntB
  have h46 : (⟨#[46]⟩ : ByteArray).size = 1 := rfl
  split
  · simp; omega
  · omega

set_option maxHeartbeats 2000000 in
set_option maxRecDepth 100000 in
/-- fraction.Decimal of a number of digits that is not permitted -/
theorem dec_no (n d : Int) (hd : ¬ (0 ≤ d ∧ d ≤ 6)) (w : World) :
    Calls Tryd.prog 36 #[.int .i64 n, .int .i64 d] w fun e w' => e = .returned (.tuple #[.string ⟨#[]⟩, .int .i64 1]) ∧ Below w.heap.size w w' := by
  have HV := fun W => validDigits_any d W
  rw [decide_eq_false hd] at HV
  have HVV := Lib.hid HV
  clear HV hd
  go_enter Tryd.func36, Tryd.ntmps36
  go_wp2_with fail
  refine (HVV.out _).mono ?_
  rintro e w1 ⟨rfl, rfl⟩
  go_wp2
  go_ret2
  exact ⟨rfl, (by repeat (first | with_reducible exact Below.refl _ _ | (with_reducible refine Below.setCell ?_ (by first | exact Nat.le_refl _ | omega | (simp; done) | (simp; omega)) _) | (with_reducible refine Below.alloc ?_ (by first | exact Nat.le_refl _ | omega | (simp; done) | (simp; omega)) _) | with_reducible refine Below.drew ?_ | with_reducible refine bel_drewN ?_ _ | (with_reducible refine bel_by (by with_reducible assumption) (by first | exact Nat.le_refl _ | omega | (simp; done) | (simp; omega)) ?_)))⟩

set_option maxHeartbeats 4000000 in
set_option maxRecDepth 100000 in
/-- fraction.Decimal -/
theorem dec_any (n : Int) (k : Nat) (h0 : -9223372036854775808 ≤ n) (h1 : n ≤ 9223372036854775807) (hk : k ≤ 6) (w : World) (ht : TabW w) :
    Calls Tryd.prog 36 #[.int .i64 n, .int .i64 (k : Int)] w fun e w' => e = .returned (.tuple #[.string (decB n k), .int .i64 0]) ∧ Below w.heap.size w w' := by
  have HV := fun W => validDigits_any (k : Int) W
  rw [decide_eq_true (show 0 ≤ (k : Int) ∧ (k : Int) ≤ 6 by omega)] at HV
  have HVV := Lib.hid HV
  have HM := Lib.hid (fun W => magnitude_any n h0 h1 W)
  have ha := absI_1 h0 h1
  have HF := fun W (ht : TabW W) => ufmt_any (absI n) (absI_0 n) (by omega) W ht
  rw [show (absI n).natAbs = n.natAbs from by unfold absI; omega] at HF
  have HFF := Lib.hid HF
  have HT := Lib.hid ht
  obtain ⟨P1, P2⟩ := padB_size k n h0 h1 hk
  have hdl := (dec_facts n.natAbs).2.2.2 19 (by omega) (by omega)
  have hdz : (⟨(Lib.decDigits n.natAbs).toArray⟩ : ByteArray).size = (Lib.decDigits n.natAbs).length := by simp [ByteArray.size]
  have HL := Lib.hid (pad_long k n)
  have HS := Lib.hid (pad_short k n)
  have HR := Lib.hid (fun (c : Nat) (hc : c ≤ 7) (W : World) => Tryd.strings_Repeat ⟨#[48]⟩ c W (by omega) (by show 1 * c ≤ _; omega))
  unfold decB
  have hQ2 : (pntB k (padB k n)).size ≤ 80 := pnt_size P2
  clear HV HF ht ha
  generalize absI n = m at *
  rw [← hdz] at hdl
  have HDL := Lib.hid hdz
  clear hdz
  generalize hD0 : (⟨(Lib.decDigits n.natAbs).toArray⟩ : ByteArray) = D0 at *
  clear hD0
  generalize hPP : padB k n = P at *
  clear hPP
  have HY := Lib.hid (fun h => pnt_yes (k := k) (P := P) h)
  have HN := Lib.hid (fun h => pnt_no (k := k) (P := P) h)
  generalize hQQ : pntB k P = Q at *
  clear hQQ
  have HSG := Lib.hid (show sgnB n Q = if n < 0 then ⟨#[45]⟩ ++ Q else Q from rfl)
  generalize sgnB n Q = R at *
  go_enter Tryd.func36, Tryd.ntmps36
  go_wp2_with fail
  refine (HVV.out _).mono ?_
  rintro e w1 ⟨rfl, rfl⟩
  go_wp2_with fail
  refine (HM.out _).mono ?_
  rintro e w1 ⟨rfl, rfl⟩
  go_wp2_with fail
  refine (HFF.out _ HT.out).mono ?_
  rintro e w1 ⟨rfl, hb1⟩
  go_upto_if 21 with fail
  go_cut [6, 7] (fun s6 s7 wx => s6 = .string P ∧ s7 = .int .i64 ((k : Int) + 1 - (D0.size : Int)) ∧ Below w.heap.size w wx)
  case first =>
    by_cases hlen : D0.size ≤ k
    · obtain ⟨c, hc⟩ : ∃ c : Nat, c = k + 1 - D0.size := ⟨_, rfl⟩
      have hci : (k : Int) + 1 - (D0.size : Int) = (c : Int) := by omega
      have hc0 : (0 : Int) < (c : Int) := by omega
      have HE := Lib.hid (HS.out c (by rw [hc, HDL.out]))
      have HRR := Lib.hid (HR.out c (by omega))
      clear hc
      go_wp2_with fail
      refine (HRR.out _).mono ?_
      rintro e w2 ⟨rfl, hb2⟩
      have hz1 := bsize hb1
      have hz : ((⟨(Lib.repeatL [48] c).toArray⟩ : ByteArray)).size ≤ 7 := by
        rw [rep48]; simp [ByteArray.size]; omega
      have e48 : (Lib.repeatL (⟨#[48]⟩ : ByteArray).data.toList c) = Lib.repeatL [48] c := rfl
      rw [e48]
      generalize (⟨(Lib.repeatL [48] c).toArray⟩ : ByteArray) = z at *
      have HCI := Lib.hid hci
      go_wp2_with fail
      go_meet
      exact ⟨congrArg Value.string HE.out, by rw [HCI.out], (by repeat (first | with_reducible exact Below.refl _ _ | (with_reducible refine Below.setCell ?_ (by first | exact Nat.le_refl _ | omega | (simp; done) | (simp; omega)) _) | (with_reducible refine Below.alloc ?_ (by first | exact Nat.le_refl _ | omega | (simp; done) | (simp; omega)) _) | with_reducible refine Below.drew ?_ | with_reducible refine bel_drewN ?_ _ | (with_reducible refine bel_by (by with_reducible assumption) (by first | exact Nat.le_refl _ | omega | (simp; done) | (simp; omega)) ?_)))⟩
    · have hci : ¬ (0 : Int) < (k : Int) + 1 - (D0.size : Int) := by omega
      have HE := Lib.hid (HL.out (by rw [← HDL.out]; omega))
      go_wp2_with fail
      go_meet
      exact ⟨congrArg Value.string HE.out, rfl, (by repeat (first | with_reducible exact Below.refl _ _ | (with_reducible refine Below.setCell ?_ (by first | exact Nat.le_refl _ | omega | (simp; done) | (simp; omega)) _) | (with_reducible refine Below.alloc ?_ (by first | exact Nat.le_refl _ | omega | (simp; done) | (simp; omega)) _) | with_reducible refine Below.drew ?_ | with_reducible refine bel_drewN ?_ _ | (with_reducible refine bel_by (by with_reducible assumption) (by first | exact Nat.le_refl _ | omega | (simp; done) | (simp; omega)) ?_)))⟩
  obtain ⟨rfl, rfl, hbW⟩ := hcut
  clear hb1
  generalize wc = w2 at *
  have HBW := Lib.hid hbW
  clear hbW
  go_upto_if 27 with fail
  go_cut [6] (fun s6 wx => s6 = .string Q ∧ Below w2.heap.size w2 wx)
  case first =>
    by_cases hk0 : 0 < k
    · obtain ⟨pt, hpt⟩ : ∃ pt : Nat, pt = P.size - k := ⟨_, rfl⟩
      have hpi : (P.size : Int) - (k : Int) = (pt : Int) := by omega
      have hp1 : pt ≤ P.size := by omega
      have hk1 : (0 : Int) < (k : Int) := by omega
      have HE := Lib.hid (show P.extract 0 pt ++ ⟨#[46]⟩ ++ P.extract pt P.size = Q by rw [hpt]; exact HY.out hk0)
      clear hpt hk0
      go_wp2_with fail
      go_quiet (fail)
      go_wp2_with fail
      go_meet
      exact ⟨congrArg Value.string HE.out, (by repeat (first | with_reducible exact Below.refl _ _ | (with_reducible refine Below.setCell ?_ (by first | exact Nat.le_refl _ | omega | (simp; done) | (simp; omega)) _) | (with_reducible refine Below.alloc ?_ (by first | exact Nat.le_refl _ | omega | (simp; done) | (simp; omega)) _) | with_reducible refine Below.drew ?_ | with_reducible refine bel_drewN ?_ _ | (with_reducible refine bel_by (by with_reducible assumption) (by first | exact Nat.le_refl _ | omega | (simp; done) | (simp; omega)) ?_)))⟩
    · have hk1 : ¬ (0 : Int) < (k : Int) := by omega
      have HE := Lib.hid (HN.out hk0)
      clear hk0
      go_wp2_with fail
      go_meet
      exact ⟨congrArg Value.string HE.out, (by repeat (first | with_reducible exact Below.refl _ _ | (with_reducible refine Below.setCell ?_ (by first | exact Nat.le_refl _ | omega | (simp; done) | (simp; omega)) _) | (with_reducible refine Below.alloc ?_ (by first | exact Nat.le_refl _ | omega | (simp; done) | (simp; omega)) _) | with_reducible refine Below.drew ?_ | with_reducible refine bel_drewN ?_ _ | (with_reducible refine bel_by (by with_reducible assumption) (by first | exact Nat.le_refl _ | omega | (simp; done) | (simp; omega)) ?_)))⟩
  obtain ⟨rfl, hbV⟩ := hcut
  have hbW := HBW.out
  have hz2 := bsize hbW
  by_cases hn : n < 0
  · have HE := Lib.hid (show ⟨#[45]⟩ ++ Q = R by rw [HSG.out, if_pos hn])
    go_wp2
    go_ret2
    exact ⟨by rw [← HE.out]; rfl, (by repeat (first | with_reducible exact Below.refl _ _ | (with_reducible refine Below.setCell ?_ (by first | exact Nat.le_refl _ | omega | (simp; done) | (simp; omega)) _) | (with_reducible refine Below.alloc ?_ (by first | exact Nat.le_refl _ | omega | (simp; done) | (simp; omega)) _) | with_reducible refine Below.drew ?_ | with_reducible refine bel_drewN ?_ _ | (with_reducible refine bel_by (by with_reducible assumption) (by first | exact Nat.le_refl _ | omega | (simp; done) | (simp; omega)) ?_)))⟩
  · have HE := Lib.hid (show Q = R by rw [HSG.out, if_neg hn])
    go_wp2
    go_ret2
    exact ⟨by rw [← HE.out]; rfl, (by repeat (first | with_reducible exact Below.refl _ _ | (with_reducible refine Below.setCell ?_ (by first | exact Nat.le_refl _ | omega | (simp; done) | (simp; omega)) _) | (with_reducible refine Below.alloc ?_ (by first | exact Nat.le_refl _ | omega | (simp; done) | (simp; omega)) _) | with_reducible refine Below.drew ?_ | with_reducible refine bel_drewN ?_ _ | (with_reducible refine bel_by (by with_reducible assumption) (by first | exact Nat.le_refl _ | omega | (simp; done) | (simp; omega)) ?_)))⟩
end Go.Proofs.YtfdalnkdeeminaaDoor
