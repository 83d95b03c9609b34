/- The law EncodeReads: its walk. -/
import Derived.Test.YtljeialaefmbmaaSt
import Derived.Test.YtljeialaefmbmaaAg
import Derived.Test.YtljeialaefmbmaaAwake
set_option linter.unusedSimpArgs false
set_option linter.unusedVariables false
namespace Go.Proofs.Ytljeialaefmbmaa
open Go.RowKit

theorem head_at {D t : ByteArray} {off : Nat} (g : Agr t 0 D off t.size) {k n : Int} {x : ByteArray} (h : headS t 0 = ⟨k, n, x, t.size⟩) (hk : k ≠ 0) : headS D off = ⟨k, n, x, off + t.size⟩ := by
  have := headS_agr g (by rw [h]; exact hk) (by rw [h]; simp only; omega)
  rw [this, h]
  unfold Hd.at
  simp only
  congr 1
  omega
def rdS (D : ByteArray) (p : List ByteArray × Nat) : RSt := ⟨D, sumLen p.1, p.2, 0⟩
theorem more_in {D : ByteArray} {p : List ByteArray × Nat} (h : (headS D (sumLen p.1)).kind ≠ 0) (h4 : (headS D (sumLen p.1)).kind ≠ 4) : moreR (rdS D p) = true := by
  have hf := kind_fin h
  have hne : at8 D (sumLen p.1) ≠ 101 := fun hc => h4 (by rw [head_e hf.2.2 hc])
  unfold moreR rdS
  simp [hf.2.2, hne]
theorem rd_int {xs : List Stp} {j : Nat} (hj : j < xs.length) (ok : StpOk xs[j]) (h0 : xs[j].k = 0) :
    moreR (rdS (dataS (run xs).1 (run xs).2) (run (xs.take j))) = true ∧ (readR (rdS (dataS (run xs).1 (run xs).2) (run (xs.take j))) 1).1 = rdS (dataS (run xs).1 (run xs).2) (run (xs.take (j + 1))) ∧ (readR (rdS (dataS (run xs).1 (run xs).2) (run (xs.take j))) 1).2.n = xs[j].n ∧ (run (xs.take (j + 1))).2 = (run (xs.take j)).2 := by
  have hX : run (xs.take (j + 1)) = (encI xs[j].n :: (run (xs.take j)).1, (run (xs.take j)).2) := by
    rw [run_snoc hj]
    unfold stepL stepN
    rw [if_pos h0, if_neg (by omega), if_neg (by omega)]
  have g := data_agr hj (t := encI xs[j].n) (by rw [hX])
  have hh := head_at g (head_encI ok.n0 ok.n1) (by omega)
  generalize dataS (run xs).1 (run xs).2 = D at *
  refine ⟨more_in (by rw [hh]; simp) (by rw [hh]; simp), ?_, ?_, by rw [hX]⟩
  · unfold rdS
    rw [readR_i (by rw [hh]), hh, hX]
    simp only [sumLen_cons]
    rw [Nat.add_comm]
  · unfold rdS
    rw [readR_i (by rw [hh]), hh]
theorem rd_text {xs : List Stp} {j : Nat} (hj : j < xs.length) (hs : xs[j].s.size ≤ 4611686018427387904) (h0 : xs[j].k = 1) :
    moreR (rdS (dataS (run xs).1 (run xs).2) (run (xs.take j))) = true ∧ (readR (rdS (dataS (run xs).1 (run xs).2) (run (xs.take j))) 2).1 = rdS (dataS (run xs).1 (run xs).2) (run (xs.take (j + 1))) ∧ (readR (rdS (dataS (run xs).1 (run xs).2) (run (xs.take j))) 2).2.text = xs[j].s ∧ (run (xs.take (j + 1))).2 = (run (xs.take j)).2 := by
  have hX : run (xs.take (j + 1)) = (encT xs[j].s :: (run (xs.take j)).1, (run (xs.take j)).2) := by
    rw [run_snoc hj]
    unfold stepL stepN
    rw [if_neg (by omega), if_pos h0, if_neg (by omega), if_neg (by omega)]
  have g := data_agr hj (t := encT xs[j].s) (by rw [hX])
  have hh := head_at g (head_encT hs) (by omega)
  generalize dataS (run xs).1 (run xs).2 = D at *
  refine ⟨more_in (by rw [hh]; simp) (by rw [hh]; simp), ?_, ?_, by rw [hX]⟩
  · unfold rdS
    rw [readR_t (by rw [hh]), hh, hX]
    simp only [sumLen_cons]
    rw [Nat.add_comm]
  · unfold rdS
    rw [readR_t (by rw [hh]), hh]
theorem byte_at {D : ByteArray} {off : Nat} {c : UInt8} (g : Agr ⟨#[c]⟩ 0 D off 1) : off < D.size ∧ at8 D off = c.toNat := by
  have h1 := g.2.1
  have h2 := g.2.2 0 (by omega)
  rw [Nat.add_zero, Nat.add_zero] at h2
  exact ⟨by omega, h2.symm⟩
theorem rd_open {xs : List Stp} {j : Nat} (hj : j < xs.length) (h0 : xs[j].k = 2) (ho : (run (xs.take (j + 1))).2 ≤ 32) :
    (readR (rdS (dataS (run xs).1 (run xs).2) (run (xs.take j))) 3).1 = rdS (dataS (run xs).1 (run xs).2) (run (xs.take (j + 1))) ∧ (run (xs.take (j + 1))).2 = (run (xs.take j)).2 + 1 := by
  have hX : run (xs.take (j + 1)) = ((⟨#[108]⟩ : ByteArray) :: (run (xs.take j)).1, (run (xs.take j)).2 + 1) := by
    rw [run_snoc hj]
    unfold stepL stepN
    rw [if_neg (by omega), if_neg (by omega), if_pos h0, if_pos h0]
  have g := data_agr hj (t := (⟨#[108]⟩ : ByteArray)) (by rw [hX])
  obtain ⟨b1, b2⟩ := byte_at g
  rw [hX] at ho
  simp only at ho
  generalize dataS (run xs).1 (run xs).2 = D at *
  refine ⟨?_, by rw [hX]⟩
  unfold rdS
  rw [readR_3, if_pos ⟨b1, b2, by omega⟩, hX]
  simp only [sumLen_cons, sz1]
  rw [Nat.add_comm]
theorem rd_close {xs : List Stp} {j : Nat} (hj : j < xs.length) (h0 : xs[j].k = 3) (ho : 0 < (run (xs.take j)).2) :
    moreR (rdS (dataS (run xs).1 (run xs).2) (run (xs.take j))) = false ∧ (readR (rdS (dataS (run xs).1 (run xs).2) (run (xs.take j))) 4).1 = rdS (dataS (run xs).1 (run xs).2) (run (xs.take (j + 1))) ∧ (run (xs.take (j + 1))).2 = (run (xs.take j)).2 - 1 := by
  have hX : run (xs.take (j + 1)) = ((⟨#[101]⟩ : ByteArray) :: (run (xs.take j)).1, (run (xs.take j)).2 - 1) := by
    rw [run_snoc hj]
    unfold stepL stepN
    rw [if_neg (by omega), if_neg (by omega), if_neg (by omega), if_pos h0, if_neg (by omega), if_neg (by omega), if_pos h0]
  have g := data_agr hj (t := (⟨#[101]⟩ : ByteArray)) (by rw [hX])
  obtain ⟨b1, b2⟩ := byte_at g
  generalize dataS (run xs).1 (run xs).2 = D at *
  refine ⟨?_, ?_, by rw [hX]⟩
  · unfold moreR rdS
    have b3 : at8 D (sumLen (run (xs.take j)).1) = 101 := b2
    simp only [b3]
    have : ¬ (run (xs.take j)).2 = 0 := by omega
    simp [this]
  · unfold rdS
    rw [readR_4, if_pos ⟨b1, b2, by omega⟩, hX]
    simp only [sumLen_cons, sz1]
    rw [Nat.add_comm]
theorem rd_same {xs : List Stp} {j : Nat} (hj : j < xs.length) (h : (xs[j].k = 3 ∧ (run (xs.take j)).2 = 0) ∨ (xs[j].k ≠ 0 ∧ xs[j].k ≠ 1 ∧ xs[j].k ≠ 2 ∧ xs[j].k ≠ 3)) : run (xs.take (j + 1)) = run (xs.take j) := by
  rw [run_snoc hj]
  unfold stepL stepN
  rcases h with ⟨h0, h1⟩ | ⟨h0, h1, h2, h3⟩
  · rw [if_neg (by omega), if_neg (by omega), if_neg (by omega), if_pos h0, if_pos h1, if_neg (by omega), if_pos h0, h1]
    exact Prod.ext rfl h1.symm
  · rw [if_neg h0, if_neg h1, if_neg h2, if_neg h3, if_neg h2, if_neg h3]
theorem rdS_ok {xs : List Stp} {j : Nat} (hj : j ≤ xs.length) (ok : ∀ x ∈ xs, StpOk x) (hs : sumS xs ≤ 2000) (hn : xs.length ≤ 60) (ho : (run (xs.take j)).2 ≤ 32) : ROk (rdS (dataS (run xs).1 (run xs).2) (run (xs.take j))) := by
  have hb := run_bd ok hs xs.length (Nat.le_refl _)
  rw [List.take_of_length_le (Nat.le_refl _)] at hb
  obtain ⟨r, hr⟩ := runF_join (xs.drop j) (run (xs.take j))
  rw [← run_rest xs j] at hr
  have := congrArg List.length hr
  rw [List.length_append, joinR_len, joinR_len] at this
  refine ⟨?_, ?_, ho⟩
  · show (dataS (run xs).1 (run xs).2).size ≤ _
    rw [size_data]; omega
  · show sumLen (run (xs.take j)).1 ≤ (dataS (run xs).1 (run xs).2).size
    rw [size_data]; omega
theorem reads_small {a : Option Addr} {b off len cap : Nat} {xs : List Stp} {w : World} (h : SlT w a b off len cap xs) (hn : 60 < len ∨ ¬ sumS xs ≤ 2000) :
    Calls Try.prog 11 #[.slice a len cap, .int .i64 60] w fun e w' => e = .returned (.bool false) ∧ w = w' := by
  by_cases h1 : 60 < len
  · exact small_f1 h h1
  · have := small_any h h1
    rwa [decide_eq_false (by omega)] at this
set_option maxHeartbeats 1000000 in
set_option maxRecDepth 100000 in
theorem reads_out {a : Option Addr} {b off len cap : Nat} {xs : List Stp} {w : World} (h : SlT w a b off len cap xs) (hn : 60 < len ∨ ¬ sumS xs ≤ 2000) :
    Calls Try.prog 3 #[.slice a len cap] w fun e w' => e = .returned (.bool true) ∧ Below w.heap.size w w' := by
  have H := Lib.hid (fun (W : World) (hb : Below w.heap.size w W) => reads_small (h.keep hb) hn)
  clear h hn
  go_enter Try.func3, Try.ntmps3
  go_wp2_with fail
  refine (awake_any _).mono ?_
  rintro e w1 ⟨rfl, hb⟩
  have HB := Lib.hid hb
  clear hb
  go_wp2_with fail
  refine (H.out _ HB.out).mono ?_
  rintro e wx ⟨rfl, rfl⟩
  go_wp2
  go_ret
  exact ⟨rfl, HB.out⟩
def RdPost (w : World) (e : Ending) (w' : World) : Prop := e = .returned (.bool true) ∧ Below w.heap.size w w'
set_option maxHeartbeats 20000000 in
set_option maxRecDepth 100000 in
theorem reads_in {a : Option Addr} {b off len cap : Nat} {xs : List Stp} {w : World} (h : SlT w a b off len cap xs) (hn : ¬ 60 < len) (hs : sumS xs ≤ 2000) :
    Calls Try.prog 3 #[.slice a len cap] w (RdPost w) := by
  have hcap := h.hcap
  have hmax := h.hmax
  unfold maxLen at hmax
  have HL := Lib.hid h.hl
  have HSL := Lib.hid h
  have HSM := Lib.hid (fun (W : World) (hb : Below w.heap.size w W) => by
    have := small_any (h.keep hb) hn
    rwa [decide_eq_true hs] at this)
  have HBD := Lib.hid (fun k (hk : k ≤ xs.length) => run_bd h.ok hs k hk)
  have HSS := Lib.hid (fun k => sumS_le xs k)
  have HS := Lib.hid hs
  clear h hs
  go_enter Try.func3, Try.ntmps3
  go_wp2_with fail
  refine (awake_any _).mono ?_
  rintro e w1 ⟨rfl, hb⟩
  have HB1 := Lib.hid hb
  clear hb
  go_wp2_with fail
  refine (HSM.out _ HB1.out).mono ?_
  rintro e wx ⟨rfl, rfl⟩
  have HW1 := Lib.hid (wat_new w1 28)
  have HB2 := Lib.hid (show Below w.heap.size w (w1.alloc (.cells #[.pointer none, .int .i64 0, .int .i64 0] 28)) from HB1.out.trans ((show Below w1.heap.size w1 (w1.alloc (.cells #[.pointer none, .int .i64 0, .int .i64 0] 28)) from (by repeat (first | with_reducible exact Below.refl _ _ | (with_reducible refine Below.setCell ?_ (by first | exact Nat.le_refl _ | omega | (simp; done) | (simp; omega)) _) | (with_reducible refine Below.alloc ?_ (by first | exact Nat.le_refl _ | omega | (simp; done) | (simp; omega)) _) | with_reducible refine Below.drew ?_ | with_reducible refine bel_drewN ?_ _ | (with_reducible refine bel_by (by with_reducible assumption) (by first | exact Nat.le_refl _ | omega | (simp; done) | (simp; omega)) ?_)))).mono HB1.out.size))
  have HZ1 := Lib.hid HB1.out.size
  clear HB1 HSM
  go_wp2_with fail
  generalize (w1.alloc (.cells #[.pointer none, .int .i64 0, .int .i64 0] 28)) = w2 at *
  generalize w1.heap.size = wb at *
  go_loopw [4] (fun s4 wr => ∃ (k : Nat), s4 = .int .i64 (k : Int) ∧ k ≤ len ∧ Hid (WAt wr wb (run (xs.take k)).1 (run (xs.take k)).2) ∧ Hid (∀ j, j ≤ k → (run (xs.take j)).2 ≤ 32) ∧ Hid (Below w.heap.size w wr)) (fun s4 _ => len - (intOf s4).toNat)
  case atStart => exact ⟨0, rfl, Nat.zero_le _, HW1, Lib.hid (fun j hj => by rw [show j = 0 by omega]; simp [run, runF]), HB2⟩
  case round =>
    clear HW1 HB2
    obtain ⟨k, rfl, hk, hw, hdep, hbel⟩ := hrel
    by_cases hlt : k < len
    · have hkL : k < xs.length := by have := HL.out; omega
      have hsl := HSL.out.keep hbel.out
      obtain rfl := hsl.ha (by omega)
      obtain ⟨c0, c1, c2⟩ := hsl.cell k hkL
      have hok := hsl.ok _ (List.getElem_mem hkL)
      have hbd := HBD.out k (by omega)
      have hbd1 := HBD.out (k + 1) (by omega)
      have hss := HSS.out (k + 1)
      rw [sumS_snoc hkL] at hss
      have HX := Lib.hid (run_snoc hkL)
      rw [HX.out] at hbd1
      have HWR := Lib.hid (write_any wb _ _ xs[k] hok wr hw.out (by have := HS.out; have := HSS.out k; omega) (by omega))
      have HDP := Lib.hid (fun (W : World) (h : WAt W wb (stepL xs[k] (run (xs.take k)).1 (run (xs.take k)).2) (stepN xs[k] (run (xs.take k)).2)) => wdepth_any wb _ _ W h)
      have ho2 : stepN xs[k] (run (xs.take k)).2 ≤ 60 := by simp only at hbd1; omega
      generalize run (xs.take k) = P at *
      generalize xs[k] = x at *
      obtain ⟨xk, xn, xs'⟩ := x
      simp only at c0 c1 c2 HWR
      generalize hsl2 : stepL ⟨xk, xn, xs'⟩ P.1 P.2 = l2 at *
      generalize hsn2 : stepN ⟨xk, xn, xs'⟩ P.2 = o2 at *
      have HX2 := Lib.hid (show run (xs.take (k + 1)) = (l2, o2) by rw [HX.out])
      clear hsl hok hbd hbd1 hss hsl2 hsn2 HX hw
      by_cases h32 : o2 ≤ 32
      · have x2 : ¬ (32 : Int) < (o2 : Int) := by omega
        go_wp2_with fail
        refine HWR.out.mono ?_
        rintro e w3 ⟨rfl, hw3, hb3⟩
        have HW3 := Lib.hid hw3
        have HB3 := Lib.hid (hb3.below hbel.out HZ1.out (Nat.le_refl _))
        clear hw3 hb3
        go_wp2_with fail
        refine (HDP.out _ HW3.out).mono ?_
        rintro e wx ⟨rfl, rfl⟩
        go_wp2
        go_roundw
        case rel =>
          refine ⟨k + 1, by go_num, by omega, by rw [HX2.out]; exact HW3, Lib.hid (fun j hj => ?_), HB3⟩
          rcases Nat.lt_or_ge j (k + 1) with h | h
          · exact hdep.out j (by omega)
          · obtain rfl : j = k + 1 := by omega
            rw [HX2.out]
            exact h32
        case measure => simp [intOf]; omega
      · have x2 : (32 : Int) < (o2 : Int) := by omega
        go_wp2_with fail
        refine HWR.out.mono ?_
        rintro e w3 ⟨rfl, hw3, hb3⟩
        have HW3 := Lib.hid hw3
        have HB3 := Lib.hid (hb3.below hbel.out HZ1.out (Nat.le_refl _))
        clear hw3 hb3
        go_wp2_with fail
        refine (HDP.out _ HW3.out).mono ?_
        rintro e wx ⟨rfl, rfl⟩
        go_wp2
        go_ret
        exact ⟨rfl, HB3.out⟩
    · obtain rfl : k = len := by omega
      have htk : xs.take k = xs := List.take_of_length_le (by have := HL.out; omega)
      have hbd := HBD.out k (by have := HL.out; omega)
      have hwf := hw.out
      rw [htk] at hbd hwf
      have HAG := Lib.hid (fun (j : Nat) (hj : j < xs.length) (t : ByteArray) (ht : (run (xs.take (j + 1))).1 = t :: (run (xs.take j)).1) => data_agr hj ht)
      have hokall := HSL.out.ok
      have K0 := Lib.hid (fun (j : Nat) (hj : j < xs.length) (h0 : xs[j].k = 0) => rd_int hj (hokall _ (List.getElem_mem hj)) h0)
      have K1 := Lib.hid (fun (j : Nat) (hj : j < xs.length) (h0 : xs[j].k = 1) => rd_text hj (by have := HSS.out (j + 1); rw [sumS_snoc hj] at this; have := HS.out; omega) h0)
      have K2 := Lib.hid (fun (j : Nat) (hj : j < xs.length) (h0 : xs[j].k = 2) => rd_open hj h0 (hdep.out (j + 1) (by have := HL.out; omega)))
      have K3 := Lib.hid (fun (j : Nat) (hj : j < xs.length) (h0 : xs[j].k = 3) (ho : 0 < (run (xs.take j)).2) => rd_close hj h0 ho)
      have K4 := Lib.hid (fun (j : Nat) (hj : j < xs.length) (h0 : (xs[j].k = 3 ∧ (run (xs.take j)).2 = 0) ∨ (xs[j].k ≠ 0 ∧ xs[j].k ≠ 1 ∧ xs[j].k ≠ 2 ∧ xs[j].k ≠ 3)) => rd_same hj h0)
      have KO := Lib.hid (fun (j : Nat) (hj : j ≤ xs.length) => rdS_ok hj hokall HS.out (by have := HL.out; omega) (hdep.out j (by have := HL.out; omega)))
      clear hokall
      have HDE := Lib.hid (fun j hj => data_ends (run xs).1 (run xs).2 j hj)
      have HDZ := Lib.hid (size_data (run xs).1 (run xs).2)
      have hsl0 : sumLen (run xs).1 + (run xs).2 ≤ 4000 := by have := hbd.1; have := hbd.2.1; have := HS.out; omega
      have HDA := Lib.hid (fun (W : World) (hb : Below wr.heap.size wr W) => data_any wb _ _ W (hwf.below hb) (by omega) hbd.2.2)
      have HRO : Hid (run (xs.take k) = run xs) := Lib.hid (by rw [htk])
      have hRL : (run xs).2 ≤ 32 := by have := hdep.out k (Nat.le_refl _); rwa [htk] at this
      generalize dataS (run xs).1 (run xs).2 = D at *
      have hDz : D.size ≤ 4000 := by rw [HDZ.out]; exact hsl0
      clear hbd hwf hw htk hlt
      go_wp2_with fail
      refine (HDA.out _ (Below.refl _ _)).mono ?_
      rintro e w3 ⟨rfl, hb3⟩
      have HB3 := Lib.hid hb3
      clear hb3
      go_wp2_with fail
      refine (rdNew_any D _).mono ?_
      rintro e w4 ⟨rfl, hR, hb4⟩
      have HR4 := Lib.hid hR
      have HB4 := Lib.hid hb4
      have HBW := Lib.hid (hbel.out.trans (HB3.out.mono hbel.out.size))
      have HSL3 := Lib.hid (HSL.out.keep HBW.out)
      clear hR hb4 hbel
      have HSLB := Lib.hid (fun (W : World) (hb : Below w3.heap.size w3 W) => HSL3.out.keep hb)
      have HDA3 := Lib.hid (fun (W : World) (hb : Below w3.heap.size w3 W) => HDA.out W (HB3.out.trans (hb.mono HB3.out.size)))
      have HZ3 := Lib.hid (show w.heap.size ≤ w3.heap.size from HBW.out.size)
      clear HDA HB3
      generalize hrb : w3.heap.size = rb at *
      have HRB := Lib.hid (show rb ≤ w3.heap.size by omega)
      clear hrb
      go_wp2_with fail
      go_loopw [6, 7] (fun s6 s7 wr => ∃ (j : Nat), s7 = .int .i64 (j : Int) ∧ s6 = .int .i64 ((run (xs.take j)).2 : Int) ∧ j ≤ k ∧ Hid (RAt wr rb (rdS D (run (xs.take j)))) ∧ Hid (Below rb w3 wr)) (fun _ s7 _ => k - (intOf s7).toNat)
      case atStart => exact ⟨0, rfl, rfl, Nat.zero_le _, HR4, HB4⟩
      case round =>
        clear HR4 HB4
        obtain ⟨j, rfl, rfl, hj, hR, hbel⟩ := hrel
        by_cases hjl : j < k
        · have hkL : j < xs.length := by have := HL.out; omega
          have hsl := HSLB.out _ hbel.out
          obtain rfl := hsl.ha (by omega)
          obtain ⟨c0, c1, c2⟩ := hsl.cell j hkL
          have J0 := Lib.hid (K0.out j hkL)
          have J1 := Lib.hid (K1.out j hkL)
          have J2 := Lib.hid (K2.out j hkL)
          have J3 := Lib.hid (K3.out j hkL)
          have J4 := Lib.hid (K4.out j hkL)
          have JO := Lib.hid (KO.out j (by omega))
          generalize hPP : run (xs.take (j + 1)) = P' at *
          have HP := Lib.hid hPP
          clear hPP
          generalize run (xs.take j) = P at *
          generalize xs[j] = x at *
          obtain ⟨xk, xn, xs'⟩ := x
          simp only at c0 c1 c2 J0 J1 J2 J3 J4
          have hP2 : P.2 ≤ 32 := JO.out.ho
          clear hsl
          go_upto_block 4 with fail
          have hB5 : Below wr.heap.size wr (wr.alloc (.cells #[.int .i64 xk, .int .i64 xn, .string xs'] 31)) := (by repeat (first | with_reducible exact Below.refl _ _ | (with_reducible refine Below.setCell ?_ (by first | exact Nat.le_refl _ | omega | (simp; done) | (simp; omega)) _) | (with_reducible refine Below.alloc ?_ (by first | exact Nat.le_refl _ | omega | (simp; done) | (simp; omega)) _) | with_reducible refine Below.drew ?_ | with_reducible refine bel_drewN ?_ _ | (with_reducible refine bel_by (by with_reducible assumption) (by first | exact Nat.le_refl _ | omega | (simp; done) | (simp; omega)) ?_)))
          have HR5 := Lib.hid (hR.out.below hB5)
          have d1 : (wr.alloc (.cells #[.int .i64 xk, .int .i64 xn, .string xs'] 31)).cell? ⟨wr.heap.size, 1, none⟩ = some (.int .i64 xn) := by simp [go_sem]
          have d2 : (wr.alloc (.cells #[.int .i64 xk, .int .i64 xn, .string xs'] 31)).cell? ⟨wr.heap.size, 2, none⟩ = some (.string xs') := by simp [go_sem]
          have hxl : wr.heap.size < (wr.alloc (.cells #[.int .i64 xk, .int .i64 xn, .string xs'] 31)).heap.size := by simp
          have hrx := hR.out.lt
          have HB5 := Lib.hid (hbel.out.trans (hB5.mono (by omega)))
          clear hB5 hR hbel c0 c1 c2
          generalize (wr.alloc (.cells #[.int .i64 xk, .int .i64 xn, .string xs'] 31)) = w5 at *
          generalize wr.heap.size = xb at *
          go_cut [6] (fun s6 wx => s6 = .int .i64 (P'.2 : Int) ∧ Hid (RAt wx rb (rdS D P')) ∧ Hid (Below rb w3 wx))
          case first =>
            by_cases q0 : xk = 0
            · subst q0
              obtain ⟨j1, j2, j3, j4⟩ := J0.out rfl
              have HMO := Lib.hid (fun W (hb : Below w5.heap.size w5 W) => rdMore_any rb _ W (HR5.out.below hb) JO.out)
              have HIN := Lib.hid (fun W (hb : Below w5.heap.size w5 W) => rdInt_any rb _ W (HR5.out.below hb) JO.out)
              rw [j1] at HMO
              rw [j2, j3] at HIN
              have HJ4 := Lib.hid j4
              clear j1 j2 j3 j4
              go_wp2_with fail
              go_region_held3 (fun w' => w'.cell? ⟨xb, 1, none⟩ = some (.int .i64 xn))
                ((first | (simp [go_sem, d1]; done) | (simp (maxDischargeDepth := 6) [go_sem, d1]; done) | (simp [go_sem, e1]; done)))
                (first
                  | (go_at_call 16; refine (HMO.out _ (by repeat (first | with_reducible exact Below.refl _ _ | (with_reducible refine Below.setCell ?_ (by first | exact Nat.le_refl _ | omega | (simp; done) | (simp; omega)) _) | (with_reducible refine Below.alloc ?_ (by first | exact Nat.le_refl _ | omega | (simp; done) | (simp; omega)) _) | with_reducible refine Below.drew ?_ | with_reducible refine bel_drewN ?_ _ | (with_reducible refine bel_by (by with_reducible assumption) (by first | exact Nat.le_refl _ | omega | (simp; done) | (simp; omega)) ?_)))).mono ?_; rintro e wm ⟨rfl, nn, rfl⟩)
                  | (go_at_call 17; refine (HIN.out _ (by repeat (first | with_reducible exact Below.refl _ _ | (with_reducible refine Below.setCell ?_ (by first | exact Nat.le_refl _ | omega | (simp; done) | (simp; omega)) _) | (with_reducible refine Below.alloc ?_ (by first | exact Nat.le_refl _ | omega | (simp; done) | (simp; omega)) _) | with_reducible refine Below.drew ?_ | with_reducible refine bel_drewN ?_ _ | (with_reducible refine bel_by (by with_reducible assumption) (by first | exact Nat.le_refl _ | omega | (simp; done) | (simp; omega)) ?_)))).mono ?_; rintro e w6 ⟨rfl, hr6, hb6⟩; have e1 := (hb6.cell (g := xb) (o := 1) (by simpa using hxl) (by omega)).trans (show _ = some (.int .i64 xn) by simp [go_sem, d1])))
              all_goals
                have hBW := But.below (B := rb) (bel_drewN HB5.out _) hb6 (Nat.le_refl _) HRB.out
                have HRW := Lib.hid hr6
                have HBW := Lib.hid hBW
                clear hr6 hb6 hBW
                go_wp2_with fail
                go_meet
                exact ⟨by rw [HJ4.out], HRW, HBW⟩
            by_cases q1 : xk = 1
            · subst q1
              obtain ⟨j1, j2, j3, j4⟩ := J1.out rfl
              have HMO := Lib.hid (fun W (hb : Below w5.heap.size w5 W) => rdMore_any rb _ W (HR5.out.below hb) JO.out)
              have HIN := Lib.hid (fun W (hb : Below w5.heap.size w5 W) => rdText_any rb _ W (HR5.out.below hb) JO.out)
              rw [j1] at HMO
              rw [j2, j3] at HIN
              have HJ4 := Lib.hid j4
              clear j1 j2 j3 j4 q0
              go_wp2_with fail
              go_region_held3 (fun w' => w'.cell? ⟨xb, 2, none⟩ = some (.string xs'))
                ((first | (simp [go_sem, d2]; done) | (simp (maxDischargeDepth := 6) [go_sem, d2]; done) | (simp [go_sem, e1]; done)))
                (first
                  | (go_at_call 16; refine (HMO.out _ (by repeat (first | with_reducible exact Below.refl _ _ | (with_reducible refine Below.setCell ?_ (by first | exact Nat.le_refl _ | omega | (simp; done) | (simp; omega)) _) | (with_reducible refine Below.alloc ?_ (by first | exact Nat.le_refl _ | omega | (simp; done) | (simp; omega)) _) | with_reducible refine Below.drew ?_ | with_reducible refine bel_drewN ?_ _ | (with_reducible refine bel_by (by with_reducible assumption) (by first | exact Nat.le_refl _ | omega | (simp; done) | (simp; omega)) ?_)))).mono ?_; rintro e wm ⟨rfl, nn, rfl⟩)
                  | (go_at_call 18; refine (HIN.out _ (by repeat (first | with_reducible exact Below.refl _ _ | (with_reducible refine Below.setCell ?_ (by first | exact Nat.le_refl _ | omega | (simp; done) | (simp; omega)) _) | (with_reducible refine Below.alloc ?_ (by first | exact Nat.le_refl _ | omega | (simp; done) | (simp; omega)) _) | with_reducible refine Below.drew ?_ | with_reducible refine bel_drewN ?_ _ | (with_reducible refine bel_by (by with_reducible assumption) (by first | exact Nat.le_refl _ | omega | (simp; done) | (simp; omega)) ?_)))).mono ?_; rintro e w6 ⟨rfl, hr6, hb6⟩; have e1 := (hb6.cell (g := xb) (o := 2) (by simpa using hxl) (by omega)).trans (show _ = some (.string xs') by simp [go_sem, d2])))
              all_goals
                have hBW := But.below (B := rb) (bel_drewN HB5.out _) hb6 (Nat.le_refl _) HRB.out
                have HRW := Lib.hid hr6
                have HBW := Lib.hid hBW
                clear hr6 hb6 hBW
                go_wp2_with fail
                go_meet
                exact ⟨by rw [HJ4.out], HRW, HBW⟩
            by_cases q2 : xk = 2
            · subst q2
              obtain ⟨j1, j2⟩ := J2.out rfl
              have HIN := Lib.hid (rdOpen_any rb _ w5 HR5.out JO.out)
              rw [j1] at HIN
              have HJ4 := Lib.hid j2
              clear j1 j2 q0 q1
              go_wp2_with fail
              refine HIN.out.mono ?_
              rintro e w6 ⟨rfl, hr6, hb6⟩
              have HRW := Lib.hid hr6
              have HBW := Lib.hid (But.below HB5.out hb6 (Nat.le_refl _) HRB.out)
              clear hr6 hb6
              go_wp2_with fail
              go_meet
              exact ⟨by rw [HJ4.out]; go_num, HRW, HBW⟩
            by_cases q3 : xk = 3
            · subst q3
              by_cases ho : 0 < P.2
              · obtain ⟨j1, j2, j3⟩ := J3.out rfl ho
                have HMO := Lib.hid (rdMore_any rb _ w5 HR5.out JO.out)
                rw [j1] at HMO
                have HIN := Lib.hid (fun nn => rdClose_any rb _ (w5.drewN nn) (HR5.out.drewN nn) JO.out)
                rw [j2] at HIN
                have HJ4 := Lib.hid (show (P.2 : Int) - 1 = (P'.2 : Int) by omega)
                have x4 : (0 : Int) < (P.2 : Int) := by omega
                clear j1 j2 j3 q0 q1 q2 ho
                go_wp2_with fail
                refine HMO.out.mono ?_
                rintro e wm ⟨rfl, nn, rfl⟩
                go_wp2_with fail
                refine (HIN.out nn).mono ?_
                rintro e w6 ⟨rfl, hr6, hb6⟩
                have HRW := Lib.hid hr6
                have HBW := Lib.hid (But.below (bel_drewN HB5.out nn) hb6 (Nat.le_refl _) HRB.out)
                clear hr6 hb6
                go_wp2_with fail
                go_meet
                exact ⟨by rw [← HJ4.out], HRW, HBW⟩
              · have j1 := J4.out (Or.inl ⟨rfl, by omega⟩)
                have HJ4 := Lib.hid j1
                have x4 : ¬ (0 : Int) < (P.2 : Int) := by omega
                clear j1 q0 q1 q2 ho
                go_wp2_with fail
                go_meet
                exact ⟨by rw [HJ4.out], by rw [HJ4.out]; exact HR5, HB5⟩
            have j1 := J4.out (Or.inr ⟨q0, q1, q2, q3⟩)
            have HJ4 := Lib.hid j1
            have p0 : (xk == 0) = false := by simpa using q0
            have p1 : (xk == 1) = false := by simpa using q1
            have p2 : (xk == 2) = false := by simpa using q2
            have p3 : (xk == 3) = false := by simpa using q3
            clear j1 q0 q1 q2 q3
            go_wp2_with fail
            go_meet
            exact ⟨by rw [HJ4.out], by rw [HJ4.out]; exact HR5, HB5⟩
          clear HR5 HB5 d1 d2 hxl hrx J0 J1 J2 J3 J4
          obtain ⟨rfl, hR6, hB6⟩ := hcut
          have HE : Hid (Calls Try.prog 21 #[.pointer (some ⟨rb, 0, none⟩)] wc fun e w' => e = .returned (.int .i64 0) ∧ wc = w') := Lib.hid (rdErr_any rb _ wc hR6.out)
          go_wp2_with fail
          refine HE.out.mono ?_
          rintro e wx ⟨rfl, rfl⟩
          go_wp2
          go_roundw
          case rel => exact ⟨j + 1, by go_num, by rw [HP.out], by omega, by rw [HP.out]; exact hR6, hB6⟩
          case measure => simp [intOf]; omega
        · obtain rfl : j = k := by omega
          rw [HRO.out]
          have hR2 := hR.out
          rw [HRO.out] at hR2
          have HR2 := Lib.hid hR2
          have HDA4 := HDA3
          clear hR2 hR hjl K0 K1 K2 K3 K4 KO HSLB HSL3 HAG HBD HSS HRO hdep
          generalize run xs = P at *
          obtain ⟨l, o⟩ := P
          simp only at HDE HDZ hRL hsl0
          have HR3 : Hid (RAt wr rb ⟨D, sumLen l + 0, o - 0, 0⟩) := HR2
          go_wp2_with fail
          go_loopw [9] (fun s9 wr => ∃ (i : Nat), s9 = .int .i64 (i : Int) ∧ i ≤ o ∧ Hid (RAt wr rb ⟨D, sumLen l + i, o - i, 0⟩) ∧ Hid (Below rb w3 wr)) (fun s9 _ => o - (intOf s9).toNat)
          case atStart => exact ⟨0, rfl, Nat.zero_le _, HR3, hbel⟩
          case round =>
            clear HR2 HR3 hbel
            obtain ⟨i, rfl, hi, hR, hbel⟩ := hrel
            have hok : ROk ⟨D, sumLen l + i, o - i, 0⟩ := ⟨by simp only; omega, by simp only; have := HDZ.out; omega, by simp only; omega⟩
            by_cases hio : i < o
            · have HC := Lib.hid (rdClose_any rb _ wr hR.out hok)
              rw [readR_4, if_pos ⟨by have := HDZ.out; omega, HDE.out i hio, by omega⟩] at HC
              have HC2 : Hid (Calls Try.prog 20 #[.pointer (some ⟨rb, 0, none⟩)] wr fun e w' => e = .returned (.tuple #[]) ∧ RAt w' rb ⟨D, sumLen l + (i + 1), o - (i + 1), 0⟩ ∧ But rb wr w') := HC
              clear HC hok
              go_wp2_with fail
              refine HC2.out.mono ?_
              rintro e w6 ⟨rfl, hr6, hb6⟩
              have HRW := Lib.hid hr6
              have HBW := Lib.hid (But.below hbel.out hb6 (Nat.le_refl _) HRB.out)
              clear hr6 hb6
              go_wp2
              go_roundw
              case rel => exact ⟨i + 1, by go_num, by omega, HRW, HBW⟩
              case measure => simp [intOf]; omega
            · obtain rfl : i = o := by omega
              have HE := Lib.hid (rdEnd_any rb _ wr hR.out hok)
              rw [show endR ⟨D, sumLen l + i, i - i, 0⟩ = 0 by unfold endR; have := HDZ.out; simp; omega] at HE
              have HO := Lib.hid (fun nn => rdOff_any rb _ (wr.drewN nn) (hR.out.drewN nn))
              have HD := Lib.hid (fun nn => HDA4.out (wr.drewN nn) (bel_drewN hbel.out nn))
              have HBZ := Lib.hid (fun nn (W : World) (hb : Below (wr.drewN nn).heap.size (wr.drewN nn) W) => (HBW.out.trans ((bel_drewN hbel.out nn).mono HZ3.out)).trans (hb.mono (HBW.out.trans ((bel_drewN hbel.out nn).mono HZ3.out)).size))
              have HDZ2 := Lib.hid (show ((sumLen l + i : Nat) : Int) = (D.size : Int) by have := HDZ.out; omega)
              rw [HDZ2.out] at HO
              clear hok hR hbel
              go_wp2_with fail
              refine HE.out.mono ?_
              rintro e wx ⟨rfl, nn, rfl⟩
              go_wp2_with fail
              refine (HO.out nn).mono ?_
              rintro e wx ⟨rfl, rfl⟩
              go_wp2_with fail
              refine (HD.out nn).mono ?_
              rintro e w7 ⟨rfl, hb7⟩
              have HF := Lib.hid (HBZ.out nn _ hb7)
              clear hb7
              go_wp2
              go_ret
              exact ⟨by simp, HF.out⟩
theorem reads_walk {a : Option Addr} {b off len cap : Nat} {xs : List Stp} {w : World} (h : SlT w a b off len cap xs) :
    Calls Try.prog 3 #[.slice a len cap] w fun e w' => e = .returned (.bool true) ∧ Below w.heap.size w w' := by
  by_cases hn : 60 < len ∨ ¬ sumS xs ≤ 2000
  · exact reads_out h hn
  · exact reads_in h (by omega) (by omega)
end Go.Proofs.Ytljeialaefmbmaa
