/- Order is a permutation in which no row stands before one that ranks ahead of it, and rows that tie are in ascending order: the law. -/
import Derived.Test.YtflmjoikojfgaaaGreatFew
import Derived.Test.YtflmjoikojfgaaaGreatPerm
import Derived.Test.YtflmjoikojfgaaaGreatAwk
set_option linter.unusedSimpArgs false
set_option linter.unusedVariables false
namespace Go.Proofs.YtflmjoikojfgaaaGreat
open Go.RowKit Go.Sort

theorem perm_ord {C : List (List (Int × Int))} {O : List Nat} {n : Nat} (h : OrdL C O) (hn : C.length = n) : permB (natL O) n = true := by
  have hp := h.perm
  rw [hn] at hp
  refine decide_eq_true ⟨?_, fun x hx => ?_, ?_⟩
  · unfold natL
    have hd : O.Nodup := hp.nodup_iff.2 List.nodup_range
    exact List.pairwise_map.2 (hd.imp fun h e => h (Int.ofNat.inj e))
  · obtain ⟨i, hi, rfl⟩ := List.mem_map.1 hx
    have := List.mem_range.1 (hp.mem_iff.1 hi)
    omega
  · rw [natL_len, hp.length_eq, List.length_range]
set_option maxHeartbeats 2000000 in
set_option maxRecDepth 100000 in
theorem order_law {a : Option Addr} {b off len cap : Nat} {M : List Rw} {w : World} (h : SlR w a b off len cap M) :
    Calls Tryz.prog 5 #[.slice a len cap] w fun e w' => e = .returned (.bool true) ∧ Below w.heap.size w w' := by
  have HA := Lib.hid (fun w => awake_any w)
  have hf0 := few_any h
  have hl := h.sl.hl
  have hcl : (crit M).length = len := by unfold crit; rw [List.length_map, hl]
  have hcap := h.sl.hcap
  have hmax := h.sl.hmax
  unfold maxLen at hmax
  have HS := Lib.hid h
  have HCL := Lib.hid hcl
  clear h
  cases hf : fewB (crit M) with
  | false =>
    rw [hf] at hf0
    have HF := Lib.hid hf0
    clear hf hf0 hcl
    go_enter Tryz.func5, Tryz.ntmps5
    go_wp2_with fail
    refine (HF.out).mono ?_
    rintro e w1 ⟨rfl, rfl⟩
    go_wp2_with fail
    refine (HA.out _).mono ?_
    rintro e w2 ⟨rfl, hb⟩
    have HB := Lib.hid hb
    clear hb HA
    go_wp2
    go_ret
    exact ⟨rfl, HB.out⟩
  | true =>
    rw [hf] at hf0
    have HF := Lib.hid hf0
    have h12 : len ≤ 12 := by have := (fewB_ok hf).1; omega
    have hck := check_any HS.out
    clear hf hf0 hcl
    by_cases hc : chkL (crit M) = 0
    · rw [hc] at hck
      have HCK := Lib.hid hck
      have HO := Lib.hid (fun W (hB : Below w.heap.size w W) => order_ok (HS.out.keep hB) hc (by omega))
      clear hck hc
      go_enter Tryz.func5, Tryz.ntmps5
      go_wp2_with fail
      refine (HF.out).mono ?_
      rintro e w1 ⟨rfl, rfl⟩
      go_wp2_with fail
      refine (HCK.out).mono ?_
      rintro e w1 ⟨rfl, hb⟩
      have HB1 := Lib.hid hb
      clear hb HF HCK
      go_wp2_with fail
      refine (HO.out _ HB1.out).mono ?_
      rintro e w2 ⟨gb, O, rfl, hOL, hso, hgb, hb⟩
      have HB2 := Lib.hid (HB1.out.trans (hb.mono HB1.out.size))
      have hpm := perm_any hso (n := len) (by omega)
      rw [perm_ord hOL HCL.out] at hpm
      have HPM := Lib.hid hpm
      have HOL := Lib.hid hOL
      have HSO := Lib.hid hso
      have HLO := Lib.hid (show O.length = len by have := hso.hl; rw [natL_len] at this; exact this)
      clear hb hpm hOL hso hgb HB1 HO
      go_wp2_with fail
      refine (HPM.out).mono ?_
      rintro e w3 ⟨rfl, hb⟩
      have HB3 := Lib.hid hb
      clear hb HPM
      go_wp2_with fail
      go_loopw [5] (fun s5 wr => ∃ (k : Nat), 1 ≤ k ∧ s5 = .int .i64 (k : Int) ∧ Hid (Below w2.heap.size w2 wr)) (fun s5 _ => (len - (intOf s5)).toNat)
      case atStart => exact ⟨1, Nat.le_refl _, rfl, HB3⟩
      case round =>
        clear HB3
        obtain ⟨k, hk1, rfl, HB⟩ := hrel
        by_cases hlt : k < len
        · have l1 : (k : Int) < (len : Int) := by omega
          obtain ⟨p, hp⟩ : ∃ p, p = k - 1 := ⟨_, rfl⟩
          have q1 : (k : Int) - 1 = (p : Int) := by omega
          have q2 : IntKind.i64.wrap (p : Int) = (p : Int) := IntWalk.i64_in _ (by omega)
          have l2 : (p : Int) < (len : Int) := by omega
          have hpO : p < O.length := by rw [HLO.out]; omega
          have hkO : k < O.length := by rw [HLO.out]; omega
          have hu := HOL.out.lt (List.getElem_mem hpO)
          have hv := HOL.out.lt (List.getElem_mem hkO)
          have hsrt := HOL.out.srt p k hpO hkO (by omega)
          rw [HCL.out] at hu hv
          have x1 : wr.cell? ⟨gb, p, none⟩ = some (.int .i64 ((O[p]'hpO : Nat) : Int)) := by
            have := (HSO.out.keep HB.out).cell p (by rw [natL_len]; exact hpO)
            rw [Nat.zero_add] at this
            rw [this]; simp [natL]
          have x2 : wr.cell? ⟨gb, k, none⟩ = some (.int .i64 ((O[k]'hkO : Nat) : Int)) := by
            have := (HSO.out.keep HB.out).cell k (by rw [natL_len]; exact hkO)
            rw [Nat.zero_add] at this
            rw [this]; simp [natL]
          have hgw : gb < wr.heap.size := (HSO.out.keep HB.out).hb (by omega)
          generalize O[p]'hpO = u at *
          generalize O[k]'hkO = v at *
          have l3 : (u : Int) < (len : Int) := by omega
          have l4 : (v : Int) < (len : Int) := by omega
          have hM := HS.out.sl.hl
          have huM : u < M.length := by omega
          have hvM : v < M.length := by omega
          rw [crit_getD huM, crit_getD hvM] at hsrt
          have HR := (HS.out.keep HB2.out).keep HB.out
          obtain rfl := HR.sl.ha (by omega)
          have hbw := HR.sl.hb (by omega)
          have y1 := HR.sl.cell u huM
          have y2 := HR.sl.cell v hvM
          have HCM := Lib.hid (fun n os => compareR_any ((HR.rows _ (List.getElem_mem huM)).keep (grw_form wr n os).below).1 ((HR.rows _ (List.getElem_mem hvM)).keep (grw_form wr n os).below).1)
          have t1 : ¬ rowC (M[u]'huM).L (M[v]'hvM).L < 0 := hsrt.1
          have t2 : rowC (M[u]'huM).L (M[v]'hvM).L = 0 → u < v := hsrt.2
          have K1 := fun n os => cell_grown (w := wr) (a := ⟨gb, p, none⟩) hgw x1 n os
          have K2 := fun n os => cell_grown (w := wr) (a := ⟨gb, k, none⟩) hgw x2 n os
          have K3 := fun n os => cell_grown (w := wr) (a := ⟨b, off + u, none⟩) hbw y1 n os
          have K4 := fun n os => cell_grown (w := wr) (a := ⟨b, off + v, none⟩) hbw y2 n os
          unfold Rw.val at K3 K4
          generalize rowC (M[u]'huM).L (M[v]'hvM).L = c at *
          generalize rowI (M[u]'huM).L (M[v]'hvM).L = ci at *
          generalize (M[u]'huM).L.length = nu at *
          generalize (M[v]'hvM).L.length = nv at *
          generalize (M[u]'huM).a = au at *
          generalize (M[v]'hvM).a = av at *
          generalize (M[u]'huM).cap = cu at *
          generalize (M[v]'hvM).cap = cv at *
          clear hsrt x1 x2 y1 y2 HR hgw hbw hu hv hpO hkO huM hvM hM hp
          go_wp2_with fail
          have mixed := mix
          go_quiet_grown ((go_at_call 15; exact quietG (HCM.out _ _)))
          have z1 := K1 nq osq
          have z2 := K2 nq osq
          have HB4 := Lib.hid (HB.out.trans ((grw_form wr nq osq).below.mono HB.out.size))
          clear K1 K2 K3 K4 HCM
          generalize grow (wr.drewN nq) osq = w4 at *
          have k5 : decide (c < 0) = false := decide_eq_false (by omega)
          have k4 : ¬ c < 0 := by omega
          by_cases h0 : c = 0
          · have k7 : decide ((u : Int) > (v : Int)) = false := decide_eq_false (by have := t2 h0; omega)
            have k8 : ¬ (v : Int) < (u : Int) := by have := t2 h0; omega
            subst h0
            clear t1 t2
            go_wp2_with fail
            go_quiet (fail)
            go_wp2_with fail
            go_roundw
            case rel => exact ⟨k + 1, by omega, by go_num, Lib.hid (bel_drewN HB4.out _)⟩
            case measure => simp [intOf]; omega
          · have k6 : (c == 0) = false := by simpa using h0
            clear t2 h0
            go_wp2_with fail
            go_quiet (fail)
            go_wp2_with fail
            go_roundw
            case rel => exact ⟨k + 1, by omega, by go_num, Lib.hid (bel_drewN HB4.out _)⟩
            case measure => simp [intOf]; omega
        · have l1 : ¬ (k : Int) < (len : Int) := by omega
          have HB5 := Lib.hid (HB2.out.trans (HB.out.mono HB2.out.size))
          clear HB
          go_wp2_with fail
          refine (HA.out _).mono ?_
          rintro e w6 ⟨rfl, hb⟩
          have HB6 := Lib.hid (HB5.out.trans (hb.mono HB5.out.size))
          clear hb HA
          go_wp2
          go_ret
          exact ⟨rfl, HB6.out⟩
    · obtain ⟨c, hcc⟩ : ∃ c, chkL (crit M) = c := ⟨_, rfl⟩
      rw [hcc] at hck hc
      have k0 : (c != 0) = true := by simpa using hc
      have HCK := Lib.hid hck
      clear hck hcc hc
      go_enter Tryz.func5, Tryz.ntmps5
      go_wp2_with fail
      refine (HF.out).mono ?_
      rintro e w1 ⟨rfl, rfl⟩
      go_wp2_with fail
      refine (HCK.out).mono ?_
      rintro e w1 ⟨rfl, hb⟩
      have HB1 := Lib.hid hb
      clear hb HF HCK
      go_wp2_with fail
      refine (HA.out _).mono ?_
      rintro e w2 ⟨rfl, hb⟩
      have HB2 := Lib.hid (HB1.out.trans (hb.mono HB1.out.size))
      clear hb HA
      go_wp2
      go_ret
      exact ⟨rfl, HB2.out⟩
end Go.Proofs.YtflmjoikojfgaaaGreat
