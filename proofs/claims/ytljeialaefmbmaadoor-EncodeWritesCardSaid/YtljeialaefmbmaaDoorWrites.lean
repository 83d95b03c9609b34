/- The law EncodeWrites: its walk. -/
import Derived.Test.YtljeialaefmbmaaDoorWritN
import Derived.Test.YtljeialaefmbmaaDoorAwake
set_option linter.unusedSimpArgs false
set_option linter.unusedVariables false
namespace Go.Proofs.YtljeialaefmbmaaDoor
open Go.RowKit

theorem dataS_zero (xs : List Stp) : outS xs = dataS (run xs).1 0 := by
  unfold outS dataS
  rw [List.replicate_zero, List.append_nil]
theorem dataS_succ (l : List ByteArray) (j : Nat) : dataS l j ++ ⟨#[101]⟩ = dataS l (j + 1) := by
  unfold dataS
  rw [List.replicate_succ', ← List.append_assoc, arr_append (joinR l ++ List.replicate j 101) [101]]
theorem writes_small {a : Option Addr} {b off len cap : Nat} {xs : List Stp} {w : World} (h : SlT w a b off len cap xs) (hn : 60 < len ∨ ¬ sumS xs ≤ 2000) :
    Calls Tryd.prog 5 #[.slice a len cap, .int .i64 60] w fun e w' => e = .returned (.bool false) ∧ w = w' := by
  by_cases h1 : 60 < len
  · exact small_f1 h h1
  · have := small_any h h1
    rwa [decide_eq_false (by omega)] at this
set_option maxHeartbeats 1000000 in
set_option maxRecDepth 100000 in
theorem writes_out {a : Option Addr} {b off len cap : Nat} {xs : List Stp} {w : World} (h : SlT w a b off len cap xs) (hn : 60 < len ∨ ¬ sumS xs ≤ 2000) :
    Calls Tryd.prog 3 #[.slice a len cap] w fun e w' => e = .returned (.bool true) ∧ Below w.heap.size w w' := by
  have H := Lib.hid (fun (W : World) (hb : Below w.heap.size w W) => writes_small (h.keep hb) hn)
  clear h hn
  go_enter Tryd.func3, Tryd.ntmps3
  go_wp2_with fail
  refine (awake_any _).mono ?_
  rintro e w1 ⟨rfl, hb⟩
  have HB := Lib.hid hb
  clear hb
  go_wp2_with fail
  refine (H.out _ HB.out).mono ?_
  rintro e wx ⟨rfl, rfl⟩
  go_wp2
  go_ret
  exact ⟨rfl, HB.out⟩
def WrsPost (w : World) (e : Ending) (w' : World) : Prop := e = .returned (.bool true) ∧ Below w.heap.size w w'
set_option maxHeartbeats 20000000 in
set_option maxRecDepth 100000 in
theorem writes_in {a : Option Addr} {b off len cap : Nat} {xs : List Stp} {w : World} (h : SlT w a b off len cap xs) (hn : ¬ 60 < len) (hs : sumS xs ≤ 2000) (ht : TabW w) :
    Calls Tryd.prog 3 #[.slice a len cap] w (WrsPost w) := by
  have hcap := h.hcap
  have hmax := h.hmax
  unfold maxLen at hmax
  have HL := Lib.hid h.hl
  have HSL := Lib.hid h
  have HT := Lib.hid ht
  have HSM := Lib.hid (fun (W : World) (hb : Below w.heap.size w W) => by
    have := small_any (h.keep hb) hn
    rwa [decide_eq_true hs] at this)
  have HBD := Lib.hid (fun k (hk : k ≤ xs.length) => run_bd h.ok hs k hk)
  have HSS := Lib.hid (fun k => sumS_le xs k)
  have HS := Lib.hid hs
  clear h hs ht
  go_enter Tryd.func3, Tryd.ntmps3
  go_wp2_with fail
  refine (awake_any _).mono ?_
  rintro e w1 ⟨rfl, hb⟩
  have HB1 := Lib.hid hb
  clear hb
  go_wp2_with fail
  refine (HSM.out _ HB1.out).mono ?_
  rintro e wx ⟨rfl, rfl⟩
  have HW1 := Lib.hid (wat_new w1 28)
  have HB2 := Lib.hid (show Below w.heap.size w (w1.alloc (.cells #[.pointer none, .int .i64 0, .int .i64 0] 28)) from HB1.out.trans ((show Below w1.heap.size w1 (w1.alloc (.cells #[.pointer none, .int .i64 0, .int .i64 0] 28)) from (by repeat (first | with_reducible exact Below.refl _ _ | (with_reducible refine Below.setCell ?_ (by first | exact Nat.le_refl _ | omega | (simp; done) | (simp; omega)) _) | (with_reducible refine Below.alloc ?_ (by first | exact Nat.le_refl _ | omega | (simp; done) | (simp; omega)) _) | with_reducible refine Below.drew ?_ | with_reducible refine bel_drewN ?_ _ | (with_reducible refine bel_by (by with_reducible assumption) (by first | exact Nat.le_refl _ | omega | (simp; done) | (simp; omega)) ?_)))).mono HB1.out.size))
  have HZ1 := Lib.hid HB1.out.size
  clear HB1 HSM
  go_wp2_with fail
  generalize (w1.alloc (.cells #[.pointer none, .int .i64 0, .int .i64 0] 28)) = w2 at *
  generalize w1.heap.size = wb at *
  go_loopw [4] (fun s4 wr => ∃ (k : Nat), s4 = .int .i64 (k : Int) ∧ k ≤ len ∧ Hid (WAt wr wb (run (xs.take k)).1 (run (xs.take k)).2) ∧ Hid (Below w.heap.size w wr)) (fun s4 _ => len - (intOf s4).toNat)
  case atStart => exact ⟨0, rfl, Nat.zero_le _, HW1, HB2⟩
  case round =>
    clear HW1 HB2
    obtain ⟨k, rfl, hk, hw, hbel⟩ := hrel
    by_cases hlt : k < len
    · have hkL : k < xs.length := by have := HL.out; omega
      have hsl := HSL.out.keep hbel.out
      obtain rfl := hsl.ha (by omega)
      obtain ⟨c0, c1, c2⟩ := hsl.cell k hkL
      have hok := hsl.ok _ (List.getElem_mem hkL)
      have hbd := HBD.out k (by omega)
      have hbd1 := HBD.out (k + 1) (by omega)
      have hss := HSS.out (k + 1)
      have hss' := hss
      rw [sumS_snoc hkL] at hss'
      have HX := Lib.hid (run_snoc hkL)
      have HWR := Lib.hid (write_any wb _ _ xs[k] hok wr hw.out (by have := HS.out; have := HSS.out k; omega) (by omega))
      have HWR2 : Hid (Calls Tryd.prog 6 #[.pointer (some ⟨wb, 0, none⟩), .agg #[.int .i64 xs[k].k, .int .i64 xs[k].n, .string xs[k].s]] wr fun e w' => e = .returned (.tuple #[]) ∧ WAt w' wb (run (xs.take (k + 1))).1 (run (xs.take (k + 1))).2 ∧ But wb wr w') := by
        rw [HX.out]
        exact HWR
      have HWT := Lib.hid (fun (W : World) (hb : Below w.heap.size w W) => written_any ((HSL.out.keep hb).take (n := k + 1) (by omega)) (by omega) (by have := HS.out; omega) (HT.out.below hb))
      have HDA := Lib.hid (fun (W : World) (h : WAt W wb (run (xs.take (k + 1))).1 (run (xs.take (k + 1))).2) => data_any wb _ _ W h (by have := HS.out; omega) hbd1.2.2)
      have HDP := Lib.hid (fun (W : World) (h : WAt W wb (run (xs.take (k + 1))).1 (run (xs.take (k + 1))).2) => wdepth_any wb _ _ W h)
      have HO := Lib.hid (dataS_zero (xs.take (k + 1)))
      have hlo : sumLen (run (xs.take (k + 1))).1 + (run (xs.take (k + 1))).2 ≤ 4000 := by have := HS.out; omega
      have HLO := Lib.hid hlo
      have ho60 : (run (xs.take (k + 1))).2 ≤ 60 := by omega
      unfold WrPost at HWT
      generalize outS (xs.take (k + 1)) = O at *
      generalize hR : run (xs.take (k + 1)) = R at *
      have HRR := Lib.hid hR
      clear hR
      obtain ⟨l, o⟩ := R
      generalize xs[k] = x at *
      obtain ⟨xk, xn, xs'⟩ := x
      simp only at c0 c1 c2 HWR2 HWT HDA HDP HO hlo HLO ho60
      rw [HO.out] at HWT
      clear hsl hok hbd hbd1 hss hss' HX HWR hw hlo HO
      have hkc : ((k : Int) + 1) ≤ (cap : Int) := by omega
      go_wp2_with fail
      refine HWR2.out.mono ?_
      rintro e w3 ⟨rfl, hw3, hb3⟩
      have HW3 := Lib.hid hw3
      have HB3 := Lib.hid (hb3.below hbel.out HZ1.out (Nat.le_refl _))
      clear hw3 hb3
      go_wp2_with fail
      refine (HWT.out _ HB3.out).mono ?_
      rintro e w4 ⟨rfl, hb⟩
      have HW4 := Lib.hid (HW3.out.below hb)
      have HB4 := Lib.hid (HB3.out.trans (hb.mono HB3.out.size))
      clear hb HW3 HB3
      go_wp2_with fail
      go_loop [5, 7] (fun s5 s7 => ∃ (j : Nat), s7 = .int .i64 (j : Int) ∧ s5 = .string (dataS l j) ∧ j ≤ o) (fun _ s7 => o - (intOf s7).toNat)
      case atStart => exact ⟨0, rfl, rfl, Nat.zero_le _⟩
      case round =>
        obtain ⟨j, rfl, rfl, hj⟩ := hrel
        by_cases hjo : j < o
        · have HD1 := Lib.hid (dataS_succ l j)
          have hsz : (dataS l j).size ≤ 4000 := by rw [size_data]; have := HLO.out; omega
          generalize hd1 : dataS l j = d1 at *
          have HD2 := Lib.hid hd1
          clear hd1
          go_wp2
          go_round
          case rel => exact ⟨j + 1, by go_num, by rw [← HD1.out], by omega⟩
          case measure => simp [intOf]; omega
        · obtain rfl : j = o := by omega
          have HD1 := Lib.hid (HDA.out w4 HW4.out)
          have HD2 := Lib.hid (fun (W : World) (hb : Below w4.heap.size w4 W) => HDP.out W (HW4.out.below hb))
          have HD3 := Lib.hid (fun (W : World) (hb : Below w4.heap.size w4 W) => HDA.out W (HW4.out.below hb))
          generalize dataS l j = D at *
          go_wp2_with fail
          refine HD1.out.mono ?_
          rintro e w5 ⟨rfl, hb5⟩
          have HB5 := Lib.hid hb5
          clear hb5
          go_wp2_with fail
          refine (HD2.out _ HB5.out).mono ?_
          rintro e wx ⟨rfl, rfl⟩
          go_wp2_with fail
          refine (HD3.out _ HB5.out).mono ?_
          rintro e w6 ⟨rfl, hb6⟩
          have HW6 := Lib.hid (HW4.out.below (HB5.out.trans (hb6.mono HB5.out.size)))
          have HB6 := Lib.hid (HB4.out.trans ((HB5.out.trans (hb6.mono HB5.out.size)).mono HB4.out.size))
          clear hb6 HD1 HD2 HD3
          go_wp2
          go_roundw
          case rel => exact ⟨k + 1, by go_num, by omega, by rw [HRR.out]; exact HW6, HB6⟩
          case measure => simp [intOf]; omega
    · obtain rfl : k = len := by omega
      go_wp2
      go_ret
      exact ⟨rfl, hbel.out⟩
theorem writes_walk {a : Option Addr} {b off len cap : Nat} {xs : List Stp} {w : World} (h : SlT w a b off len cap xs) (ht : TabW w) :
    Calls Tryd.prog 3 #[.slice a len cap] w fun e w' => e = .returned (.bool true) ∧ Below w.heap.size w w' := by
  by_cases hn : 60 < len ∨ ¬ sumS xs ≤ 2000
  · exact writes_out h hn
  · exact writes_in h (by omega) (by omega) ht
end Go.Proofs.YtljeialaefmbmaaDoor
