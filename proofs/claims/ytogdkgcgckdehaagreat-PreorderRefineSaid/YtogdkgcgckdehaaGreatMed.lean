/- preorder.Median. -/
import Derived.Test.YtogdkgcgckdehaaGreatLis
import Derived.Test.YtogdkgcgckdehaaGreatApp
set_option linter.unusedSimpArgs false
set_option linter.unusedVariables false
namespace Go.Proofs.YtogdkgcgckdehaaGreat
open Go.RowKit Go.Sort

/-- the numbers of an index in several rankings -/
def numsL (C : List (List Int)) (i : Nat) : List Int := C.map fun r => r.getD i 0
def srtI (L : List Int) : List Int := L.mergeSort fun x y => decide (x ≤ y)
def medI (C : List (List Int)) (i : Nat) : Int := (srtI (numsL C i)).getD ((C.length - 1) / 2) 0
def medsL (C : List (List Int)) (n : Nat) : List Int := (List.range n).map fun i => medI C i
def medR (C : List (List Int)) : List Int := plcL cmpI (medsL C (headI C))
theorem medsL_len (C : List (List Int)) (n : Nat) : (medsL C n).length = n := by simp [medsL]
theorem medsL_at (C : List (List Int)) {n i : Nat} (h : i < n) : (medsL C n).getD i 0 = medI C i := by simp [medsL, List.getD, h]
def MedPost (w : World) (n : Nat) (P : List Int) (e : Ending) (w' : World) : Prop :=
  ∃ gb, e = .returned (.tuple #[.slice (some ⟨gb, 0, none⟩) n n, .int .i64 0]) ∧ SlI w' (some ⟨gb, 0, none⟩) gb 0 n n P ∧ w.heap.size ≤ gb ∧ Below w.heap.size w w'
theorem own_at {w : World} {base g n j : Nat} {Z : List Int} (h : w.ownsRow base 3 1 (.slice (some ⟨g, 0, none⟩) n n) n (Z.map (Value.int .i64))) (hZ : Z.length = n) (hj : j < n) : w.cell? ⟨g, j, none⟩ = some (.int .i64 (Z.getD j 0)) := by
  rw [h.cellAt j (by omega), List.getElem?_map, List.getElem?_eq_getElem (by omega)]
  simp [List.getD, show j < Z.length by omega]
theorem own_set {w : World} {base g n j : Nat} {Z : List Int} (h : w.ownsRow base 3 1 (.slice (some ⟨g, 0, none⟩) n n) n (Z.map (Value.int .i64))) (v : Int) : (w.setCell ⟨g, j, none⟩ (.int .i64 v)).ownsRow base 3 1 (.slice (some ⟨g, 0, none⟩) n n) n ((Z.set j v).map (Value.int .i64)) := by
  have := (h.stored j (.int .i64 v)).1
  rwa [← List.map_set] at this
theorem own_far {w : World} {base g g' n j : Nat} {xs : List Value} (h : w.ownsRow base 3 1 (.slice (some ⟨g, 0, none⟩) n n) n xs) (hne : g ≠ g') (v : Value) : (w.setCell ⟨g', j, none⟩ v).ownsRow base 3 1 (.slice (some ⟨g, 0, none⟩) n n) n xs :=
  h.kept (grownBy_set w ⟨g', j, none⟩ v) (Or.inr (fun e => hne (Option.some.inj e)))
set_option maxHeartbeats 1000000 in
theorem sortN_any {base g n : Nat} {Z : List Int} {w : World} (h : w.ownsRow base 3 1 (.slice (some ⟨g, 0, none⟩) n n) n (Z.map (Value.int .i64))) (hZ : Z.length = n) (hb : base ≤ w.heap.size) (hn : n ≤ 1000000) :
    Calls Tryz.prog 43 #[.slice (some ⟨g, 0, none⟩) n n] w fun e w' => e = .returned (.tuple #[]) ∧ w'.ownsRow base 3 1 (.slice (some ⟨g, 0, none⟩) n n) n ((srtI Z).map (Value.int .i64)) ∧ w.grownBy w' (some g) := by
  subst hZ
  rcases h.2 with ⟨h', _⟩ | ⟨g', cap', cur, h', hg, hbk, h2, h3, h4, h5⟩
  · cases h'
  · cases h'
    have hgs : g < w.heap.size := (Array.getElem?_eq_some_iff.1 hbk).1
    have hH : Holds (Value.int .i64) w g 0 Z.toArray := holds_blk hbk (by simpa using h5)
    refine (Tryz.slices_Sort_int g 0 Z.length Z w hH hgs (by omega)).mono ?_
    rintro e w1 ⟨rfl, m, os, rfl⟩
    refine ⟨rfl, ?_, grownBy_srt _⟩
    have := ownsRow_srt (enc := Value.int .i64) (w := w) (base := base) (n := m) (os := os) (d := (srtI Z).toArray) (m := Z.length) (by simp [srtI]) hg hbk h2 h3 (by simpa using h4)
    simpa [srtI] using this
theorem nums_next {C : List (List Int)} {i m k : Nat} {Z : List Int} (hC : C.length = m) (hZ : Z.length = m) (hk : k < m) (h : ∀ j, j < k → Z.getD j 0 = (numsL C i).getD j 0) : ∀ j, j < k + 1 → (Z.set k ((C.getD k []).getD i 0)).getD j 0 = (numsL C i).getD j 0 :=
  setI_next hZ hk (by simp [numsL, List.getD, show k < C.length by omega]) h
set_option maxHeartbeats 1000000 in
theorem med_no {a : Option Addr} {b off len cap : Nat} {M : List Li} {w : World} (h : SlL w a b off len cap M) (hz : ∀ r ∈ M, r.L.length ≤ 1000000) {c : Int} (hc : crkL (lis M) = c) (h0 : c ≠ 0) :
    Calls Tryz.prog 20 #[.slice a len cap] w fun e w' => e = .returned (.tuple #[.slice none 0 0, .int .i64 c]) ∧ Below w.heap.size w w' := by
  have hck := crk_any h hz
  rw [hc] at hck
  have HC := Lib.hid hck
  have k0 : (c != 0) = true := by simpa using h0
  have k1 : (c == 0) = false := by simpa using h0
  clear h hz hc hck h0
  go_enter Tryz.func20, Tryz.ntmps20
  go_wp2_with fail
  refine HC.out.mono ?_
  rintro e w1 ⟨rfl, hb⟩
  have HB := Lib.hid hb
  clear hb HC
  go_wp2
  go_ret2
  exact ⟨rfl, HB.out⟩
set_option maxHeartbeats 1000000 in
theorem med_none {a : Option Addr} {b off cap : Nat} {w : World} (h : SlL w a b off 0 cap []) :
    Calls Tryz.prog 20 #[.slice a 0 cap] w fun e w' => e = .returned (.tuple #[.slice none 0 0, .int .i64 1]) ∧ Below w.heap.size w w' := by
  have hck := crk_any h (fun r hr => by simp at hr)
  rw [show crkL (lis []) = 0 from rfl] at hck
  have HC := Lib.hid hck
  clear h hck
  go_enter Tryz.func20, Tryz.ntmps20
  go_wp2_with fail
  refine HC.out.mono ?_
  rintro e w1 ⟨rfl, hb⟩
  have HB := Lib.hid hb
  clear hb HC
  go_wp2
  go_ret2
  exact ⟨rfl, HB.out⟩
set_option maxHeartbeats 4000000 in
set_option maxRecDepth 100000 in
theorem med_ok {a : Option Addr} {b off len cap : Nat} {M : List Li} {w : World} (h : SlL w a b off len cap M) (hz : ∀ r ∈ M, r.L.length ≤ 1000000) (hc : crkL (lis M) = 0) (hpos : 0 < len) :
    Calls Tryz.prog 20 #[.slice a len cap] w (MedPost w (headI (lis M)) (medR (lis M))) := by
  obtain ⟨hc1, hc2⟩ := crk_ok hc
  have hck := crk_any h hz
  rw [hc] at hck
  have HC := Lib.hid hck
  have hlM : M.length = len := h.sl.hl
  have hcl : (lis M).length = len := by rw [lis_len, hlM]
  obtain rfl := h.sl.ha hpos
  have h0M : 0 < M.length := by omega
  have hn0 : (M[0]'h0M).L.length = headI (lis M) := (rnks_at hc2 (lis_mem (List.getElem_mem h0M))).1
  have HROW := Lib.hid (fun (k : Nat) (hk : k < M.length) => (rnks_at hc2 (lis_mem (List.getElem_mem hk))).1)
  have hnz : headI (lis M) ≤ 1000000 := by rw [← hn0]; exact hz _ (List.getElem_mem h0M)
  have HS := Lib.hid h
  have HCL := Lib.hid hcl
  have HLM := Lib.hid hlM
  have hcap := h.sl.hcap
  have hmax := h.sl.hmax
  unfold maxLen at hmax
  have hl50 : len ≤ 50 := by omega
  unfold medR
  obtain ⟨C, hCC⟩ : ∃ C, lis M = C := ⟨_, rfl⟩
  obtain ⟨n, hn⟩ : ∃ n, headI C = n := ⟨_, rfl⟩
  rw [hCC] at hn0 HROW hnz HCL
  rw [hCC, hn]
  rw [hn] at hn0 HROW hnz
  have HN0 := Lib.hid hn0
  have HCC := Lib.hid hCC
  obtain ⟨iz, hi, hz0, hz1, hz2⟩ := info_parts infoI
  clear h hz hc hck hc1 hc2 hcl hlM hn0 hn hCC
  go_enter Tryz.func20, Tryz.ntmps20
  go_wp2_with fail
  refine HC.out.mono ?_
  rintro e w1 ⟨rfl, hb⟩
  have HB1 := Lib.hid hb
  have HS1 := Lib.hid (HS.out.keep hb)
  clear hb HC HS
  have x0 : w1.cell? ⟨b, off, none⟩ = some (.slice (M[0]'h0M).a n (M[0]'h0M).cap) := by
    have := HS1.out.sl.cell 0 h0M
    unfold Li.val at this
    rw [HN0.out] at this
    exact this
  have k0 : ((len : Int) == 0) = false := by rw [beq_eq_false_iff_ne]; omega
  have k2 : (0 : Int) < (len : Int) := by omega
  obtain ⟨w2, hrun2, hown2, hgrow2⟩ := run_make_full (P := Tryz.prog) w1 w1.heap.size 28 3 iz (.int .i64 0) 1 Tryz.underlying28 hi hz0 hz1 .i64 .i64 n (by rw [hz2]; omega) (by unfold maxLen; omega) (Nat.le_refl _)
  obtain ⟨w3, hrun3, hown3, hgrow3⟩ := run_make_full (P := Tryz.prog) w2 w2.heap.size 28 3 iz (.int .i64 0) 1 Tryz.underlying28 hi hz0 hz1 .i64 .i64 len (by rw [hz2]; omega) (by unfold maxLen; omega) (Nat.le_refl _)
  have rep : ∀ q : Nat, (madeCells (Value.int .i64 0).cells (q * 1)).toList = (List.replicate q (0 : Int)).map (Value.int .i64) := fun q => by
    rw [List.map_replicate, Nat.mul_one]
    exact toList_madeCells_one _ _
  rw [rep] at hown2 hown3
  have hB2 : Below w1.heap.size w1 w2 := (Below.refl _ _).grown hgrow2 (Nat.le_refl _) (by simp)
  have hB3 : Below w2.heap.size w2 w3 := (Below.refl _ _).grown hgrow3 (Nat.le_refl _) (by simp)
  have hlt12 : w1.heap.size < w2.heap.size := (own_blk hown2).1
  have HO2 := Lib.hid (own_below hown2 hB3)
  have HO3 := Lib.hid (own_low hown3 hB2.size)
  have HB3 := Lib.hid (hB2.trans (hB3.mono hB2.size))
  clear hown2 hown3 hgrow2 hgrow3 hB2 hB3 rep
  obtain ⟨gm, hgm⟩ : ∃ gm, w1.heap.size = gm := ⟨_, rfl⟩
  obtain ⟨gn, hgn⟩ : ∃ gn, w2.heap.size = gn := ⟨_, rfl⟩
  rw [hgm] at hrun2 HO2 HO3 HB3 hlt12
  rw [hgn] at hrun3 HO3 hlt12
  have HGM := Lib.hid hgm
  clear hgm hgn
  go_wp2_with fail
  clear hrun2 hrun3
  go_loopw [28] (fun s28 wr => ∃ (i : Nat) (Zm Zn : List Int), i ≤ n ∧ s28 = .int .i64 (i : Int) ∧ Hid (wr.ownsRow gm 3 1 (.slice (some ⟨gm, 0, none⟩) n n) n (Zm.map (Value.int .i64))) ∧ Hid (wr.ownsRow gm 3 1 (.slice (some ⟨gn, 0, none⟩) len len) len (Zn.map (Value.int .i64))) ∧ Hid (Below gm w1 wr) ∧ Hid (Zm.length = n) ∧ Hid (Zn.length = len) ∧ Hid (∀ j, j < i → Zm.getD j 0 = (medsL C n).getD j 0)) (fun s28 _ => (n - (intOf s28)).toNat)
  case atStart => exact ⟨0, _, _, Nat.zero_le _, rfl, HO2, HO3, HB3, Lib.hid (by simp), Lib.hid (by simp), Lib.hid (fun j h => absurd h (Nat.not_lt_zero j))⟩
  case round =>
    clear HO2 HO3 HB3
    obtain ⟨i, Zm, Zn, hi', rfl, HOm, HOn, HB, HZm, HZn, HZV⟩ := hrel
    by_cases hlt : i < n
    · have l1 : (i : Int) < (n : Int) := by omega
      clear x0
      go_wp2_with fail
      go_loopw [33] (fun s33 wr => ∃ (k : Nat) (Zk : List Int), k ≤ len ∧ s33 = .int .i64 (k : Int) ∧ Hid (wr.ownsRow gm 3 1 (.slice (some ⟨gm, 0, none⟩) n n) n (Zm.map (Value.int .i64))) ∧ Hid (wr.ownsRow gm 3 1 (.slice (some ⟨gn, 0, none⟩) len len) len (Zk.map (Value.int .i64))) ∧ Hid (Below gm w1 wr) ∧ Hid (Zk.length = len) ∧ Hid (∀ j, j < k → Zk.getD j 0 = (numsL C i).getD j 0)) (fun s33 _ => (len - (intOf s33)).toNat)
      case atStart => exact ⟨0, Zn, Nat.zero_le _, rfl, HOm, HOn, HB, HZn, Lib.hid (fun j h => absurd h (Nat.not_lt_zero j))⟩
      case round =>
        clear HOm HOn HB HZn
        obtain ⟨k, Zk, hk, rfl, HOm, HOn, HB, HZk, HZW⟩ := hrel
        by_cases hlk : k < len
        · have l2 : (k : Int) < (len : Int) := by omega
          have hkM : k < M.length := by rw [HLM.out]; exact hlk
          have HR := Lib.hid (HS1.out.keep (HGM.out ▸ HB.out))
          have x1 := HR.out.sl.cell k hkM
          have hrow := HR.out.rows _ (List.getElem_mem hkM)
          have hrl := HROW.out k hkM
          have hra := hrow.ha (by rw [hrl]; omega)
          have hrc := hrow.hcap
          have hrm := hrow.hmax
          unfold maxLen at hrm
          have x2 := hrow.cell i (by rw [hrl]; exact hlt)
          unfold Li.val at x1
          rw [hrl] at hrc
          rw [hra, hrl] at x1
          have hCk : (C.getD k []).getD i 0 = (M[k]'hkM).L[i]'(by rw [hrl]; exact hlt) := by
            rw [← HCC.out]
            simp [lis, List.getD, hkM, show i < (M[k]'hkM).L.length by rw [hrl]; exact hlt]
          have HNX := Lib.hid (nums_next (C := C) (i := i) (k := k) (Z := Zk) HCL.out HZk.out hlk HZW.out)
          rw [hCk] at HNX
          generalize (M[k]'hkM).L[i]'(by rw [hrl]; exact hlt) = v at *
          have f1 : wr.frozen? ⟨gn, k, none⟩ = false := HOn.out.frozenAt _
          have y1 := own_at HOn.out HZk.out hlk
          generalize (M[k]'hkM).b = rb at *
          generalize (M[k]'hkM).off = ro at *
          generalize (M[k]'hkM).cap = rc at *
          clear hrow hrl hra HR hCk HZW
          go_wp2_with fail
          go_roundw
          case rel =>
            exact ⟨k + 1, Zk.set k v, by omega, by go_num, Lib.hid (own_far HOm.out (by omega) _), Lib.hid (own_set HOn.out v), Lib.hid (HB.out.setCell (p := ⟨gn, k, none⟩) (Nat.le_of_lt hlt12) _), Lib.hid (by rw [List.length_set]; exact HZk.out), HNX⟩
          case measure => simp [intOf]; omega
        · obtain rfl : k = len := by omega
          have l2 : ¬ (k : Int) < (k : Int) := by omega
          have hZe : Zk = numsL C i := eq_getD (by rw [HZk.out]; simp [numsL, HCL.out]) (fun j hj => HZW.out j (by rw [← HZk.out]; exact hj))
          have hso := sortN_any HOn.out HZk.out (by have := HB.out.size; rw [HGM.out] at this; exact this) (by omega)
          rw [hZe] at hso
          have HSO := Lib.hid hso
          clear hso hZe HZW
          go_wp2_with fail
          refine HSO.out.mono ?_
          rintro e w5 ⟨rfl, hown5, hg5⟩
          have hm5 := HOm.out.kept hg5 (Or.inr (fun e => by have h9 : gm = gn := Option.some.inj e; omega))
          have hB5 := HB.out.grown hg5 (by have := HB.out.size; rw [HGM.out] at this; exact this) (by intro q hq; cases hq; exact Nat.le_of_lt hlt12)
          have hsl : (srtI (numsL C i)).length = k := by simp [srtI, numsL, HCL.out]
          obtain ⟨q, hq⟩ : ∃ q, (k - 1) / 2 = q := ⟨_, rfl⟩
          have hqk : q < k := by omega
          have y1 := own_at hown5 hsl hqk
          have HV := Lib.hid (show (srtI (numsL C i)).getD q 0 = medI C i by unfold medI; rw [HCL.out, hq])
          have HMED := Lib.hid (medsL_at C hlt)
          rw [HV.out] at y1
          have f1 : w5.frozen? ⟨gm, i, none⟩ = false := hm5.frozenAt _
          have y2 := own_at hm5 HZm.out hlt
          have q1 : ((k : Int) - 1) / 2 = (q : Int) := by omega
          have q2 : (k - 1) / 2 = q := hq
          have q3 : (q : Int) < (k : Int) := by omega
          have HM5 := Lib.hid hm5
          have HN5 := Lib.hid hown5
          have HB5 := Lib.hid hB5
          have HSL := Lib.hid hsl
          clear hm5 hown5 hB5 hg5 hq hsl HSO HOm HOn HB
          generalize medI C i = v at *
          go_wp2_with fail
          go_roundw
          case rel =>
            exact ⟨i + 1, Zm.set i v, _, by omega, by go_num, Lib.hid (own_set HM5.out v), Lib.hid (own_far HN5.out (by omega) _), Lib.hid (HB5.out.setCell (p := ⟨gm, i, none⟩) (Nat.le_refl gm) _), Lib.hid (by rw [List.length_set]; exact HZm.out), HSL, Lib.hid (setI_next HZm.out hlt HMED.out HZV.out)⟩
          case measure => simp [intOf]; omega
    · obtain rfl : i = n := by omega
      have l1 : ¬ (i : Int) < (i : Int) := by omega
      have hsl := plc_end HOm.out (P := medsL C i) (medsL_len C i) HZm.out (by unfold maxLen; omega) HZV.out
      have hp := plcI_any (enc := Value.int .i64) (fun _ => rfl) (fun x => ⟨x, rfl⟩) tot_cmpI hsl hnz 26 #[] (enters_of Tryz.func26 (by kernel_rfl) rfl) (fun _ W _ x y => grw_same (cmpI_any x y W))
      have HP := Lib.hid hp
      have HBw := Lib.hid (HB1.out.trans ((show Below w1.heap.size w1 wr from HGM.out ▸ HB.out).mono HB1.out.size))
      clear hsl hp HOm HOn HB HZV
      go_wp2_with fail
      refine HP.out.mono ?_
      rintro e w6 ⟨gb, rfl, hs, hg, hb⟩
      have HS6 := Lib.hid hs
      have HG6 := Lib.hid (Nat.le_trans HBw.out.size hg.1)
      have HB6 := Lib.hid (HBw.out.trans (hb.mono HBw.out.size))
      clear hs hg hb HP HBw
      go_wp2
      go_ret2
      exact ⟨gb, rfl, HS6.out, HG6.out, HB6.out⟩
end Go.Proofs.YtogdkgcgckdehaaGreat
