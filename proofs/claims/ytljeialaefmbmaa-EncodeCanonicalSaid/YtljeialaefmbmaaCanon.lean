/- The law EncodeCanonical: its walk. -/
import Derived.Test.YtljeialaefmbmaaAg
import Derived.Test.YtljeialaefmbmaaPrefix
set_option linter.unusedSimpArgs false
set_option linter.unusedVariables false
namespace Go.Proofs.Ytljeialaefmbmaa
open Go.RowKit

set_option maxHeartbeats 2000000 in
set_option maxRecDepth 100000 in
theorem canon_out (s : ByteArray) (hs : s.size ≤ 9223372036854775807) (h : (2000 : Int) < (s.size : Int)) (w : World) :
    Calls Try.prog 6 #[.string s] w fun e w' => e = .returned (.bool true) ∧ Below w.heap.size w w' := by
  go_enter Try.func6, Try.ntmps6
  go_wp2_with fail
  refine (awake_any _).mono ?_
  rintro e w1 ⟨rfl, hb⟩
  go_wp2
  go_ret
  exact ⟨rfl, hb⟩
set_option maxHeartbeats 2000000 in
set_option maxRecDepth 100000 in
theorem canon_no (s : ByteArray) (hs : s.size ≤ 2000) (hv : ¬ 0 ≤ depthS s) (w : World) :
    Calls Try.prog 6 #[.string s] w fun e w' => e = .returned (.bool true) ∧ Below w.heap.size w w' := by
  have x0 : ¬ (2000 : Int) < (s.size : Int) := by omega
  have HV := Lib.hid (fun W => valid_f s (by omega) hv W)
  clear hv
  go_enter Try.func6, Try.ntmps6
  go_wp2_with fail
  refine (awake_any _).mono ?_
  rintro e w1 ⟨rfl, hb⟩
  have HB1 := Lib.hid hb
  clear hb
  go_wp2_with fail
  refine (HV.out _).mono ?_
  rintro e w2 ⟨rfl, hb⟩
  have HB2 := Lib.hid (HB1.out.trans (hb.mono HB1.out.size))
  clear hb HB1
  go_wp2
  go_ret
  exact ⟨rfl, HB2.out⟩
set_option maxHeartbeats 4000000 in
set_option maxRecDepth 100000 in
theorem canon_yes (s : ByteArray) (hs : s.size ≤ 2000) (hv : 0 ≤ depthS s) (w : World) :
    Calls Try.prog 6 #[.string s] w fun e w' => e = .returned (.bool true) ∧ Below w.heap.size w w' := by
  have x0 : ¬ (2000 : Int) < (s.size : Int) := by omega
  have HV := Lib.hid (fun W => valid_t s (by omega) hv W)
  have hval := depthS_val hv
  have hD : depthS s ≤ 32 := by
    have := measS_ok s 0
    rw [hval] at this
    rcases this with e | e
    · have := congrArg Prod.snd e
      simp only at this
      omega
    · exact e.2.2.2
  have HAG := Lib.hid (fun (rb wb : Nat) (W : World) (h : AgS W rb wb s 0 0) => agC s hs rb wb (depthS s).toNat 0 0 W s.size (depthS s) h hval hv (by omega) (by omega))
  clear hv hval hD
  go_enter Try.func6, Try.ntmps6
  go_wp2_with fail
  refine (awake_any _).mono ?_
  rintro e w1 ⟨rfl, hb⟩
  have HB1 := Lib.hid hb
  clear hb
  go_wp2_with fail
  refine (HV.out _).mono ?_
  rintro e w2 ⟨rfl, hb⟩
  have HB2 := Lib.hid (HB1.out.trans (hb.mono HB1.out.size))
  clear hb HB1
  go_wp2_with fail
  refine (rdNew_any s _).mono ?_
  rintro e w3 ⟨rfl, hR, hb⟩
  have hz2 := HB2.out.size
  have hB3 : Below w.heap.size w w3 := HB2.out.trans (hb.mono hz2)
  have hlt := hR.lt
  have hB4 : Below w3.heap.size w3 (w3.alloc (.cells #[.pointer none, .int .i64 0, .int .i64 0] 28)) := (by repeat (first | with_reducible exact Below.refl _ _ | (with_reducible refine Below.setCell ?_ (by first | exact Nat.le_refl _ | omega | (simp; done) | (simp; omega)) _) | (with_reducible refine Below.alloc ?_ (by first | exact Nat.le_refl _ | omega | (simp; done) | (simp; omega)) _) | with_reducible refine Below.drew ?_ | with_reducible refine bel_drewN ?_ _ | (with_reducible refine bel_by (by with_reducible assumption) (by first | exact Nat.le_refl _ | omega | (simp; done) | (simp; omega)) ?_)))
  have HA : Hid (AgS (w3.alloc (.cells #[.pointer none, .int .i64 0, .int .i64 0] 28)) w2.heap.size w3.heap.size s 0 0) := Lib.hid (by
    refine ⟨hR.below hB4, ⟨[], wat_new _ _, ?_, fun t ht => absurd ht (by simp)⟩, hlt, Nat.zero_le _, Nat.zero_le _⟩
    rw [extract_none s 0 (by omega)]
    rfl)
  have HB4 := Lib.hid (hB3.trans (hB4.mono hB3.size))
  have HZ := Lib.hid hz2
  clear hR hb HB2 hz2 hB3 hlt hB4
  go_wp2_with fail
  generalize (w3.alloc (.cells #[.pointer none, .int .i64 0, .int .i64 0] 28)) = w4 at *
  generalize w2.heap.size = rb at *
  generalize w3.heap.size = wb at *
  refine (HAG.out _ _ _ HA.out).mono ?_
  rintro e w5 ⟨rfl, hA, hB⟩
  have HE := Lib.hid (fun n => rdEnd_any rb _ (w5.drewN n) (hA.hr.drewN n) (hA.ok hs))
  rw [show endR ⟨s, s.size, 0, 0⟩ = 0 by unfold endR; simp] at HE
  obtain ⟨l, hw, hj, hne⟩ := hA.hw
  have hsum := joinR_sum hj (Nat.le_refl _)
  have hds : dataS l 0 = s := by
    unfold dataS
    rw [List.replicate_zero, List.append_nil, hj, extract_all]
  have HD := Lib.hid (fun n => data_any wb l 0 (w5.drewN n) (hw.below (bel_drewN (Below.refl _ _) n)) (by omega) hne)
  rw [hds] at HD
  have HB5 := Lib.hid (HB4.out.trans (hB.mono HZ.out))
  have HE0 : Hid (Calls Try.prog 22 #[.pointer (some ⟨rb, 0, none⟩)] w5 fun e w' => e = .returned (.int .i64 0) ∧ ∃ n, w' = w5.drewN n) := Lib.hid (by
    have := rdEnd_any rb _ w5 hA.hr (hA.ok hs)
    rwa [show endR ⟨s, s.size, 0, 0⟩ = 0 by unfold endR; simp] at this)
  clear hA hB HA HB4 HAG HZ hw hj hne hsum hds HE
  go_wp2_with fail
  refine HE0.out.mono ?_
  rintro e wx ⟨rfl, nn, rfl⟩
  go_wp2_with fail
  refine (HD.out nn).mono ?_
  rintro e w6 ⟨rfl, hb⟩
  have HB6 := Lib.hid ((bel_drewN HB5.out nn).trans (hb.mono (bel_drewN HB5.out nn).size))
  clear hb HB5
  go_wp2
  go_ret
  exact ⟨rfl, HB6.out⟩
theorem canon_walk (s : ByteArray) (hs : s.size ≤ 9223372036854775807) (w : World) :
    Calls Try.prog 6 #[.string s] w fun e w' => e = .returned (.bool true) ∧ Below w.heap.size w w' := by
  by_cases h : (2000 : Int) < (s.size : Int)
  · exact canon_out s hs h w
  · by_cases hv : 0 ≤ depthS s
    · exact canon_yes s (by omega) hv w
    · exact canon_no s (by omega) hv w
end Go.Proofs.Ytljeialaefmbmaa
