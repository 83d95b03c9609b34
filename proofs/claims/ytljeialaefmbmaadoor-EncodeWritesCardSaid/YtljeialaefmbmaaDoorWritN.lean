/- Contracts of the reference of encodings: Int, Text, Written. -/
import Derived.Test.YtljeialaefmbmaaDoorTab
set_option linter.unusedSimpArgs false
set_option linter.unusedVariables false
namespace Go.Proofs.YtljeialaefmbmaaDoor
open Go.RowKit

theorem iitoa_any (n : Int) (h0 : -9223372036854775808 ≤ n) (h1 : n ≤ 9223372036854775807) (w : World) (ht : TabW w) :
    Calls Tryd.prog 38 #[.int .i64 n] w fun e w' => e = .returned (.string ⟨(decS n).toArray⟩) ∧ Below w.heap.size w w' := by
  have H := Lib.hid (Tryd.internal_strconv_FormatInt_10 n h0 h1 w ht)
  go_enter Tryd.func38, Tryd.ntmps38
  go_wp2_with fail
  refine H.out.mono ?_
  rintro e w' ⟨rfl, k, os, rfl⟩
  rw [itoa_decS]
  have HB := Lib.hid (below_grow (w := w) k os)
  generalize Sort.grow (w.drewN k) os = w2 at *
  go_wp2
  go_ret
  exact ⟨rfl, HB.out⟩
theorem itoa_any (n : Int) (h0 : -9223372036854775808 ≤ n) (h1 : n ≤ 9223372036854775807) (w : World) (ht : TabW w) :
    Calls Tryd.prog 33 #[.int .i64 n] w fun e w' => e = .returned (.string ⟨(decS n).toArray⟩) ∧ Below w.heap.size w w' := by
  have H := Lib.hid (iitoa_any n h0 h1 w ht)
  go_enter Tryd.func33, Tryd.ntmps33
  go_wp2_with fail
  refine H.out.mono ?_
  rintro e w' ⟨rfl, hb⟩
  go_wp2
  go_ret
  exact ⟨rfl, hb⟩
set_option maxHeartbeats 1000000 in
set_option maxRecDepth 100000 in
theorem rint2_any (n : Int) (h0 : -9223372036854775808 ≤ n) (h1 : n ≤ 9223372036854775807) (w : World) (ht : TabW w) :
    Calls Tryd.prog 25 #[.int .i64 n] w fun e w' => e = .returned (.string (encI n)) ∧ Below w.heap.size w w' := by
  have H := Lib.hid (fint_any n h0 h1 w ht)
  have HE := Lib.hid (show encI n = (⟨#[105]⟩ : ByteArray) ++ ⟨(decS n).toArray⟩ ++ ⟨#[59]⟩ from rfl)
  have hll := decS_len h0 h1
  generalize encI n = t at *
  generalize hdl : (decS n).toArray = d at *
  have hd2 : d.size ≤ 20 := by rw [← hdl]; simpa using hll
  clear hdl hll
  go_enter Tryd.func25, Tryd.ntmps25
  go_wp2_with fail
  refine H.out.mono ?_
  rintro e w' ⟨rfl, hb⟩
  go_wp2
  go_ret
  exact ⟨by rw [HE.out]; rfl, hb⟩
set_option maxHeartbeats 1000000 in
set_option maxRecDepth 100000 in
theorem rtext2_any (s : ByteArray) (hs : s.size ≤ 4611686018427387904) (w : World) (ht : TabW w) :
    Calls Tryd.prog 26 #[.string s] w fun e w' => e = .returned (.string (encT s)) ∧ Below w.heap.size w w' := by
  have H := Lib.hid (itoa_any (s.size : Int) (by omega) (by omega) w ht)
  have HE := Lib.hid (show encT s = (⟨(decS (s.size : Int)).toArray⟩ : ByteArray) ++ ⟨#[58]⟩ ++ s from rfl)
  have hll := decS_len (n := (s.size : Int)) (by omega) (by omega)
  generalize encT s = t at *
  generalize hdl : (decS (s.size : Int)).toArray = d at *
  have hd2 : d.size ≤ 20 := by rw [← hdl]; simpa using hll
  clear hdl hll
  go_enter Tryd.func26, Tryd.ntmps26
  go_wp2_with fail
  refine H.out.mono ?_
  rintro e w' ⟨rfl, hb⟩
  go_wp2
  go_ret
  exact ⟨by rw [HE.out]; rfl, hb⟩
/-- what was appended, as one text -/
def outS (xs : List Stp) : ByteArray := ⟨(joinR (run xs).1).toArray⟩
theorem outS_size (xs : List Stp) : (outS xs).size = sumLen (run xs).1 := by unfold outS; rw [size_mk, joinR_len]
theorem outS_cons {xs : List Stp} {j : Nat} {t : ByteArray} (h : (run (xs.take (j + 1))).1 = t :: (run (xs.take j)).1) : outS (xs.take (j + 1)) = outS (xs.take j) ++ t := by
  unfold outS
  rw [h, joinR, arr_append]
theorem SlT.take {w : World} {a : Option Addr} {b off len cap : Nat} {L : List Stp} (h : SlT w a b off len cap L) {n : Nat} (hn : n ≤ len) : SlT w a b off n cap (L.take n) := by
  obtain ⟨h1, h2, h3, h4, h5, h6, h7⟩ := h
  refine ⟨by rw [List.length_take]; omega, fun h => h2 (by omega), fun h => h3 (by omega), by omega, h5, fun k hk => ?_, fun x hx => h7 x (List.mem_of_mem_take hx)⟩
  rw [List.length_take] at hk
  rw [List.getElem_take]
  exact h6 k (by omega)

def WrPost (w : World) (xs : List Stp) (e : Ending) (w' : World) : Prop := e = .returned (.tuple #[.string (outS xs), .int .i64 ((run xs).2 : Int)]) ∧ Below w.heap.size w w'
set_option maxHeartbeats 8000000 in
set_option maxRecDepth 100000 in
theorem written_any {a : Option Addr} {b off len cap : Nat} {xs : List Stp} {w : World} (h : SlT w a b off len cap xs) (hn : len ≤ 60) (hs : sumS xs ≤ 2000) (ht : TabW w) :
    Calls Tryd.prog 7 #[.slice a len cap] w (WrPost w xs) := by
  have hcap := h.hcap
  have hmax := h.hmax
  unfold maxLen at hmax
  have HL := Lib.hid h.hl
  have HSL := Lib.hid h
  have HBD := Lib.hid (fun k (hk : k ≤ xs.length) => run_bd h.ok hs k hk)
  have HSS := Lib.hid (fun k => sumS_le xs k)
  have HS := Lib.hid hs
  have HT := Lib.hid ht
  clear h hs ht
  go_enter Tryd.func7, Tryd.ntmps7
  go_wp2_with fail
  go_loopw [4, 5, 6] (fun s4 s5 s6 wr => ∃ (k : Nat), s4 = .string (outS (xs.take k)) ∧ s5 = .int .i64 ((run (xs.take k)).2 : Int) ∧ s6 = .int .i64 (k : Int) ∧ k ≤ len ∧ Hid (Below w.heap.size w wr)) (fun _ _ s6 _ => len - (intOf s6).toNat)
  case atStart => exact ⟨0, rfl, rfl, rfl, Nat.zero_le _, Lib.hid (Below.refl _ _)⟩
  case round =>
    obtain ⟨k, rfl, rfl, rfl, hk, hbel⟩ := hrel
    by_cases hlt : k < len
    · have hkL : k < xs.length := by have := HL.out; omega
      have hsl := HSL.out.keep hbel.out
      obtain rfl := hsl.ha (by omega)
      obtain ⟨c0, c1, c2⟩ := hsl.cell k hkL
      have hok := hsl.ok _ (List.getElem_mem hkL)
      have hss := HSS.out (k + 1)
      rw [sumS_snoc hkL] at hss
      have hxs : xs[k].s.size ≤ 2000 := by have := HS.out; omega
      have hbd := HBD.out k (by omega)
      have hosz := outS_size (xs.take k)
      have hos : (outS (xs.take k)).size ≤ 4000 := by have := HSS.out k; have := HS.out; omega
      have hP2 : (run (xs.take k)).2 ≤ 60 := by omega
      have HX := Lib.hid (run_snoc hkL)
      have HC := Lib.hid (fun t (h : (run (xs.take (k + 1))).1 = t :: (run (xs.take k)).1) => outS_cons h)
      have HI := Lib.hid (rint2_any xs[k].n hok.n0 hok.n1 wr (HT.out.below hbel.out))
      have HI2 := Lib.hid (rtext2_any xs[k].s (by omega) wr (HT.out.below hbel.out))
      have hpI := encI_size hok.n0 hok.n1
      have hpT := encT_size (s := xs[k].s) (by omega)
      have HSAME := Lib.hid (show run (xs.take (k + 1)) = run (xs.take k) → outS (xs.take (k + 1)) = outS (xs.take k) from fun h => by unfold outS; rw [h])
      generalize hO2 : outS (xs.take (k + 1)) = O2 at *
      generalize hR2 : run (xs.take (k + 1)) = R2 at *
      have HO2 := Lib.hid hO2
      have HR2 := Lib.hid hR2
      generalize outS (xs.take k) = O1 at *
      generalize run (xs.take k) = R1 at *
      generalize xs[k] = x at *
      obtain ⟨xk, xn, xs'⟩ := x
      simp only at c0 c1 c2 HI HI2 hxs hpI hpT
      clear hsl hok hss hbd hosz hO2 hR2
      have HBZ := Lib.hid hbel.out.size
      by_cases q0 : xk = 0
      · subst q0
        have e1 : R2 = (encI xn :: R1.1, R1.2) := HX.out
        have HOE := Lib.hid (show O2 = O1 ++ encI xn from HC.out _ (by rw [e1]))
        have HRE := Lib.hid (show R2.2 = R1.2 by rw [e1])
        clear e1
        generalize encI xn = t at *
        go_wp2_with fail
        refine HI.out.mono ?_
        rintro e w2 ⟨rfl, hb⟩
        have HB2 := Lib.hid (hbel.out.trans (hb.mono HBZ.out))
        clear hb
        go_wp2
        go_roundw
        case rel => exact ⟨k + 1, by rw [HO2.out, HOE.out], by rw [HR2.out, HRE.out], by go_num, by omega, HB2⟩
        case measure => simp [intOf]; omega
      by_cases q1 : xk = 1
      · subst q1
        have e1 : R2 = (encT xs' :: R1.1, R1.2) := HX.out
        have HOE := Lib.hid (show O2 = O1 ++ encT xs' from HC.out _ (by rw [e1]))
        have HRE := Lib.hid (show R2.2 = R1.2 by rw [e1])
        clear e1 q0
        generalize encT xs' = t at *
        go_wp2_with fail
        refine HI2.out.mono ?_
        rintro e w2 ⟨rfl, hb⟩
        have HB2 := Lib.hid (hbel.out.trans (hb.mono HBZ.out))
        clear hb
        go_wp2
        go_roundw
        case rel => exact ⟨k + 1, by rw [HO2.out, HOE.out], by rw [HR2.out, HRE.out], by go_num, by omega, HB2⟩
        case measure => simp [intOf]; omega
      by_cases q2 : xk = 2
      · subst q2
        have e1 : R2 = ((⟨#[108]⟩ : ByteArray) :: R1.1, R1.2 + 1) := HX.out
        have HOE := Lib.hid (show O2 = O1 ++ ⟨#[108]⟩ from HC.out _ (by rw [e1]))
        have HRE := Lib.hid (show R2.2 = R1.2 + 1 by rw [e1])
        clear e1 q0 q1
        go_wp2
        go_roundw
        case rel => exact ⟨k + 1, by rw [HO2.out, HOE.out], by rw [HR2.out, HRE.out]; go_num, by go_num, by omega, hbel⟩
        case measure => simp [intOf]; omega
      by_cases q3 : xk = 3
      · subst q3
        by_cases ho : 0 < R1.2
        · have e1 : R2 = ((⟨#[101]⟩ : ByteArray) :: R1.1, R1.2 - 1) := by
            rw [HX.out]
            show ((if R1.2 = 0 then R1.1 else (⟨#[101]⟩ : ByteArray) :: R1.1), R1.2 - 1) = _
            rw [if_neg (by omega)]
          have HOE := Lib.hid (show O2 = O1 ++ ⟨#[101]⟩ from HC.out _ (by rw [e1]))
          have HRE := Lib.hid (show ((R2.2 : Nat) : Int) = (R1.2 : Int) - 1 by rw [e1]; simp only; omega)
          have x4 : (0 : Int) < (R1.2 : Int) := by omega
          clear e1 q0 q1 q2
          go_wp2
          go_roundw
          case rel => exact ⟨k + 1, by rw [HO2.out, HOE.out], by rw [HR2.out, HRE.out], by go_num, by omega, hbel⟩
          case measure => simp [intOf]; omega
        · have e1 : R2 = R1 := by
            rw [HX.out]
            show ((if R1.2 = 0 then R1.1 else (⟨#[101]⟩ : ByteArray) :: R1.1), R1.2 - 1) = _
            rw [if_pos (by omega)]
            exact Prod.ext rfl (by simp only; omega)
          have HOE := Lib.hid (HSAME.out e1)
          have HRE := Lib.hid e1
          have x4 : ¬ (0 : Int) < (R1.2 : Int) := by omega
          clear e1 q0 q1 q2
          go_wp2
          go_roundw
          case rel => exact ⟨k + 1, by rw [HO2.out, HOE.out], by rw [HR2.out, HRE.out], by go_num, by omega, hbel⟩
          case measure => simp [intOf]; omega
      have p0 : (xk == 0) = false := by simpa using q0
      have p1 : (xk == 1) = false := by simpa using q1
      have p2 : (xk == 2) = false := by simpa using q2
      have p3 : (xk == 3) = false := by simpa using q3
      have e1 : R2 = R1 := by
        rw [HX.out]
        unfold stepL stepN
        simp only
        rw [if_neg q0, if_neg q1, if_neg q2, if_neg q3, if_neg q2, if_neg q3]
      have HOE := Lib.hid (HSAME.out e1)
      have HRE := Lib.hid e1
      clear e1 q0 q1 q2 q3
      go_wp2
      go_roundw
      case rel => exact ⟨k + 1, by rw [HO2.out, HOE.out], by rw [HR2.out, HRE.out], by go_num, by omega, hbel⟩
      case measure => simp [intOf]; omega
    · obtain rfl : k = len := by omega
      have HTK := Lib.hid (show xs.take k = xs from List.take_of_length_le (by have := HL.out; omega))
      go_wp2
      go_ret2
      exact ⟨by rw [HTK.out]; rfl, hbel.out⟩
end Go.Proofs.YtljeialaefmbmaaDoor
