/- preorder.Inversions. -/
import Derived.Test.YtflmjoikojfgaaaGreatTiq
import Derived.Test.YtflmjoikojfgaaaGreatDsc
import Derived.Test.YtflmjoikojfgaaaGreatLis
set_option linter.unusedSimpArgs false
set_option linter.unusedVariables false
namespace Go.Proofs.YtflmjoikojfgaaaGreat
open Go.RowKit Go.Sort

theorem infoP : (Tryz.prog.info? 55).map (fun i => (i.zero, i.size, i.bytes)) = some (some (.agg #[.int .i64 0, .int .i64 0]), 2, 16) := by kernel_rfl
theorem flat_rep (n : Nat) : (madeCells (Value.agg #[.int .i64 0, .int .i64 0]).cells (n * 2)).toList = flatP (List.replicate n (0, 0)) := by
  have h : (madeCells (Value.agg #[.int .i64 0, .int .i64 0]).cells (n * 2)).toList = List.replicate (n * 2) (Value.int .i64 0) := by
    apply List.ext_getElem?
    intro j
    unfold madeCells
    by_cases hj : j < n * 2
    · simp [hj, Value.cells]
      rcases Nat.mod_two_eq_zero_or_one j with e | e <;> simp [e]
    · simp [hj, Value.cells]
  rw [h]
  induction n with
  | zero => rfl
  | succ n ih =>
    rw [show (n + 1) * 2 = n * 2 + 2 by omega, List.replicate_succ, List.replicate_succ]
    have e1 : flatP (List.replicate (n + 1) ((0 : Int), (0 : Int))) = .int .i64 0 :: .int .i64 0 :: flatP (List.replicate n (0, 0)) := rfl
    rw [e1, ← ih]
    · apply List.ext_getElem?
      intro j
      unfold madeCells
      by_cases hj : j < n * 2
      · simp [hj, Value.cells]
        rcases Nat.mod_two_eq_zero_or_one j with e | e <;> simp [e]
      · simp [hj, Value.cells]
theorem zip_get {A B : List Int} {k : Nat} (h : A.length = B.length) (hk : k < A.length) : (A.zip B).getD k (0, 0) = (A.getD k 0, B.getD k 0) := by
  have h1 : k < (A.zip B).length := by rw [List.length_zip]; omega
  simp [List.getD, List.getElem?_eq_getElem h1, hk, show k < B.length by omega]
theorem setP_next {len k : Nat} {Z P : List (Int × Int)} {v : Int × Int} (hZ : Z.length = len) (hk : k < len) (hv : P.getD k (0, 0) = v) (h : ∀ j, j < k → Z.getD j (0, 0) = P.getD j (0, 0)) : ∀ j, j < k + 1 → (Z.set k v).getD j (0, 0) = P.getD j (0, 0) := by
  intro j hj
  by_cases e : j = k
  · subst e
    simp [List.getD, hZ, hk]
    rw [← hv]
    rfl
  · have := h j (by omega)
    simp only [List.getD] at this ⊢
    rw [List.getElem?_set_ne (by omega)]
    exact this
theorem eq_getDP {A B : List (Int × Int)} (hl : A.length = B.length) (h : ∀ j, j < A.length → A.getD j (0, 0) = B.getD j (0, 0)) : A = B := by
  apply List.ext_getElem hl
  intro j h1 h2
  have := h j h1
  simpa [List.getD, h1, h2] using this
theorem own2_blk {w : World} {base g e n cap : Nat} {xs : List Value} (h : w.ownsRow base e 2 (.slice (some ⟨g, 0, none⟩) n cap) n xs) : g < w.heap.size := (h.lt g rfl).2
theorem sl2_any {a a' : Option Addr} {b b' off off' len len' cap cap' : Nat} {A B : List Int} {w : World} (hA : SlI w a b off len cap A) (hB : SlI w a' b' off' len' cap' B) :
    SlL (w.alloc (.cells #[.slice a len cap, .slice a' len' cap'] 31)) (some ⟨w.heap.size, 0, none⟩) w.heap.size 0 2 2 [⟨a, b, off, cap, A⟩, ⟨a', b', off', cap', B⟩] := by
  have hBe : Below w.heap.size w (w.alloc (.cells #[.slice a len cap, .slice a' len' cap'] 31)) := (by repeat (first | with_reducible exact Below.refl _ _ | (with_reducible refine Below.setCell ?_ (by first | exact Nat.le_refl _ | omega | (simp; done) | (simp; omega)) _) | (with_reducible refine Below.alloc ?_ (by first | exact Nat.le_refl _ | omega | (simp; done) | (simp; omega)) _) | with_reducible refine Below.drew ?_ | with_reducible refine bel_drewN ?_ _ | (with_reducible refine bel_by (by with_reducible assumption) (by first | exact Nat.le_refl _ | omega | (simp; done) | (simp; omega)) ?_)))
  have e1 := hA.hl
  have e2 := hB.hl
  refine ⟨⟨rfl, fun _ => rfl, fun _ => by simp, Nat.le_refl _, by decide, fun k hk => ?_⟩, fun r hr => ?_⟩
  · match k, hk with
    | 0, _ =>
      show _ = some (Li.val ⟨a, b, off, cap, A⟩)
      unfold World.cell? Li.val
      rw [heap_alloc_new]
      simp [e1]
    | 1, _ =>
      show _ = some (Li.val ⟨a', b', off', cap', B⟩)
      unfold World.cell? Li.val
      rw [heap_alloc_new]
      simp [e2]
  · simp only [List.mem_cons, List.not_mem_nil, or_false] at hr
    rcases hr with rfl | rfl
    · unfold Li.ok; simp only; rw [e1]; exact hA.keep hBe
    · unfold Li.ok; simp only; rw [e2]; exact hB.keep hBe
theorem lis2 (a a' : Option Addr) (b b' off off' cap cap' : Nat) (A B : List Int) : lis [⟨a, b, off, cap, A⟩, ⟨a', b', off', cap', B⟩] = [A, B] := rfl
set_option maxHeartbeats 2000000 in
set_option maxRecDepth 100000 in
theorem inv_no {a a' : Option Addr} {b b' off off' len len' cap cap' : Nat} {A B : List Int} {w : World} (hA : SlI w a b off len cap A) (hB : SlI w a' b' off' len' cap' B) (hz : len ≤ 1000000) (hz' : len' ≤ 1000000) {c : Int} (hc : crkL [A, B] = c) (h0 : c ≠ 0) :
    Calls Tryz.prog 31 #[.slice a len cap, .slice a' len' cap'] w fun e w' => e = .returned (.tuple #[.int .i64 0, .int .i64 0, .int .i64 c]) ∧ Below w.heap.size w w' := by
  have hck := crk_any (sl2_any hA hB) (fun r hr => by
    simp only [List.mem_cons, List.not_mem_nil, or_false] at hr
    rcases hr with rfl | rfl
    · simp only; rw [hA.hl]; exact hz
    · simp only; rw [hB.hl]; exact hz')
  rw [lis2, hc] at hck
  have HC := Lib.hid hck
  have hBe : Below w.heap.size w (w.alloc (.cells #[.slice a len cap, .slice a' len' cap'] 31)) := (by repeat (first | with_reducible exact Below.refl _ _ | (with_reducible refine Below.setCell ?_ (by first | exact Nat.le_refl _ | omega | (simp; done) | (simp; omega)) _) | (with_reducible refine Below.alloc ?_ (by first | exact Nat.le_refl _ | omega | (simp; done) | (simp; omega)) _) | with_reducible refine Below.drew ?_ | with_reducible refine bel_drewN ?_ _ | (with_reducible refine bel_by (by with_reducible assumption) (by first | exact Nat.le_refl _ | omega | (simp; done) | (simp; omega)) ?_)))
  have HB := Lib.hid hBe
  have k0 : (c != 0) = true := by simpa using h0
  have k1 : (c == 0) = false := by simpa using h0
  clear hck hBe hA hB hc h0
  go_enter Tryz.func31, Tryz.ntmps31
  go_wp2_with fail
  refine HC.out.mono ?_
  rintro e w1 ⟨rfl, hb⟩
  have HB1 := Lib.hid (HB.out.trans (hb.mono HB.out.size))
  clear hb HB HC
  go_wp2
  go_ret3
  exact ⟨rfl, HB1.out⟩
/-- the pairs of two rankings, laid one behind the other -/
def InvPost (w : World) (A B : List Int) (e : Ending) (w' : World) : Prop :=
  e = .returned (.tuple #[.int .i64 (pcN oppP (A.zip B) : Nat), .int .i64 (pcN halfP (A.zip B) : Nat), .int .i64 0]) ∧ Below w.heap.size w w'
theorem inv_nums {A B : List Int} {L' : List (Int × Int)} (hl : A.length = B.length) (hp : L'.Perm (A.zip B)) (hs : SrtG cmpP L') : dscN (L'.map Prod.snd) = pcN oppP (A.zip B) := by
  rw [← pc_perm opp_comm hp]
  refine opp_sorted (L := L') ?_
  rw [List.pairwise_iff_getElem]
  intro i j hi hj hij
  have := hs i j (Nat.zero_le _) hij hj
  rw [getL hi, getL hj] at this
  unfold ltOf at this
  simpa using this
set_option maxHeartbeats 4000000 in
set_option maxRecDepth 100000 in
theorem inv_ok {a a' : Option Addr} {b b' off off' len cap cap' : Nat} {A B : List Int} {w : World} (hA : SlI w a b off len cap A) (hB : SlI w a' b' off' len cap' B) (hz : len ≤ 1000000) (hwA : ∀ x ∈ A, (Lit.int .i64 x).wf = true) (hwB : ∀ x ∈ B, (Lit.int .i64 x).wf = true) (hc : crkL [A, B] = 0) :
    Calls Tryz.prog 31 #[.slice a len cap, .slice a' len cap'] w (InvPost w A B) := by
  have hck := crk_any (sl2_any hA hB) (fun r hr => by
    simp only [List.mem_cons, List.not_mem_nil, or_false] at hr
    rcases hr with rfl | rfl
    · simp only; rw [hA.hl]; exact hz
    · simp only; rw [hB.hl]; exact hz)
  rw [lis2, hc] at hck
  have HC := Lib.hid hck
  have hBe : Below w.heap.size w (w.alloc (.cells #[.slice a len cap, .slice a' len cap'] 31)) := (by repeat (first | with_reducible exact Below.refl _ _ | (with_reducible refine Below.setCell ?_ (by first | exact Nat.le_refl _ | omega | (simp; done) | (simp; omega)) _) | (with_reducible refine Below.alloc ?_ (by first | exact Nat.le_refl _ | omega | (simp; done) | (simp; omega)) _) | with_reducible refine Below.drew ?_ | with_reducible refine bel_drewN ?_ _ | (with_reducible refine bel_by (by with_reducible assumption) (by first | exact Nat.le_refl _ | omega | (simp; done) | (simp; omega)) ?_)))
  have HB := Lib.hid hBe
  have HSA := Lib.hid hA
  have HSB := Lib.hid hB
  have HWA := Lib.hid hwA
  have HWB := Lib.hid hwB
  have HLL := Lib.hid (show A.length = B.length by rw [hA.hl, hB.hl])
  obtain ⟨ip, hip, hp0, hp1, hp2⟩ := info_parts infoP
  obtain ⟨iz, hi, hz0, hz1, hz2⟩ := info_parts infoI
  clear hck hBe hA hB hc hwA hwB
  go_enter Tryz.func31, Tryz.ntmps31
  go_wp2_with fail
  refine HC.out.mono ?_
  rintro e w1 ⟨rfl, hb⟩
  have HB1 := Lib.hid (HB.out.trans (hb.mono HB.out.size))
  have HSA1 := Lib.hid (HSA.out.keep HB1.out)
  have HSB1 := Lib.hid (HSB.out.keep HB1.out)
  clear hb HB HC HSA HSB
  obtain ⟨w2, hrun, hown, hgrow⟩ := run_make_full (P := Tryz.prog) w1 w1.heap.size 51 55 ip (.agg #[.int .i64 0, .int .i64 0]) 2 Tryz.underlying51 hip hp0 hp1 .i64 .i64 len (by rw [hp2]; omega) (by unfold maxLen; omega) (Nat.le_refl _)
  have hB2 : Below w1.heap.size w1 w2 := (Below.refl _ _).grown hgrow (Nat.le_refl _) (by simp)
  rw [flat_rep] at hown
  have HO2 := Lib.hid hown
  have HB2 := Lib.hid hB2
  clear hown hgrow hB2
  obtain ⟨gz, hgz⟩ : ∃ gz, w1.heap.size = gz := ⟨_, rfl⟩
  rw [hgz] at hrun HO2 HB2
  have HGZ := Lib.hid hgz
  clear hgz
  go_wp2_with fail
  clear hrun
  go_loopw [26] (fun s26 wr => ∃ (k : Nat) (Z : List (Int × Int)), k ≤ len ∧ s26 = .int .i64 (k : Int) ∧ Hid (wr.ownsRow gz 55 2 (.slice (some ⟨gz, 0, none⟩) len len) len (flatP Z)) ∧ Hid (Below gz w1 wr) ∧ Hid (Z.length = len) ∧ Hid (∀ j, j < k → Z.getD j (0, 0) = (A.zip B).getD j (0, 0))) (fun s26 _ => (len - (intOf s26)).toNat)
  case atStart => exact ⟨0, List.replicate len (0, 0), Nat.zero_le _, rfl, HO2, HB2, Lib.hid (by simp), Lib.hid (fun j h => absurd h (Nat.not_lt_zero j))⟩
  case round =>
    clear HO2 HB2
    obtain ⟨k, Z, hk, rfl, HO, HB, HZL, HZV⟩ := hrel
    by_cases hlt : k < len
    · have l1 : (k : Int) < (len : Int) := by omega
      obtain rfl := HSA1.out.ha (by omega)
      obtain rfl := HSB1.out.ha (by omega)
      have hkA : k < A.length := by rw [HSA1.out.hl]; exact hlt
      have hkB : k < B.length := by rw [HSB1.out.hl]; exact hlt
      have x1 := (HSA1.out.keep (HGZ.out ▸ HB.out)).cell k hkA
      have x2 := (HSB1.out.keep (HGZ.out ▸ HB.out)).cell k hkB
      have hcap := HSA1.out.hcap
      have hmax := HSA1.out.hmax
      have hcap' := HSB1.out.hcap
      have hmax' := HSB1.out.hmax
      unfold maxLen at hmax hmax'
      have HV := Lib.hid (show (A.zip B).getD k (0, 0) = (A[k]'hkA, B[k]'hkB) by rw [zip_get HLL.out hkA]; simp [List.getD, hkA, hkB])
      have f1 : wr.frozen? ⟨gz, k * 2, none⟩ = false := HO.out.frozenAt _
      have f2 : wr.frozen? ⟨gz, k * 2 + 1, none⟩ = false := HO.out.frozenAt _
      have hg0 := flatP_get Z k (by rw [HZL.out]; exact hlt)
      have y1 : wr.cell? ⟨gz, k * 2, none⟩ = some (.int .i64 (Z[k]'(by rw [HZL.out]; exact hlt)).1) := by rw [HO.out.cellAt _ (by omega)]; exact hg0.1
      have y2 : wr.cell? ⟨gz, k * 2 + 1, none⟩ = some (.int .i64 (Z[k]'(by rw [HZL.out]; exact hlt)).2) := by rw [HO.out.cellAt _ (by omega)]; exact hg0.2
      clear hg0
      generalize (Z[k]'(by rw [HZL.out]; exact hlt)).1 = o1 at *
      generalize (Z[k]'(by rw [HZL.out]; exact hlt)).2 = o2 at *
      generalize A[k]'hkA = p at *
      generalize B[k]'hkB = q at *
      have HO' := Lib.hid HO
      go_wp2_with fail
      go_region
      all_goals
        go_wp2_with fail
        go_roundw
        case rel =>
          have h1 := (World.ownsRow.stored (w := wr.drew) HO.out (k * 2) (.int .i64 p)).1
          have h2 := (h1.stored (k * 2 + 1) (.int .i64 q)).1
          rw [flatP_set Z k p q (by rw [HZL.out]; exact hlt)] at h2
          exact ⟨k + 1, Z.set k (p, q), by omega, by go_num, Lib.hid h2, Lib.hid (((bel_drewN HB.out 1).setCell (Nat.le_refl _) _).setCell (Nat.le_refl _) _), Lib.hid (by rw [List.length_set]; exact HZL.out), Lib.hid (setP_next HZL.out hlt HV.out HZV.out)⟩
        case measure => simp [intOf]; omega
    · obtain rfl : k = len := by omega
      have l1 : ¬ (k : Int) < (k : Int) := by omega
      have hZe : Z = A.zip B := eq_getDP (by rw [HZL.out, List.length_zip, ← HLL.out, Nat.min_self, HSA1.out.hl]) (fun j hj => HZV.out j (by rw [← HZL.out]; exact hj))
      have hgzw := own2_blk HO.out
      have HPR := Lib.hid (pra_own HO.out HZL.out)
      have HBr := Lib.hid (show Below w1.heap.size w1 wr from HGZ.out ▸ HB.out)
      have HA3 := Lib.hid (HSA1.out.keep HBr.out)
      have HB3 := Lib.hid (HSB1.out.keep HBr.out)
      have HB0 := Lib.hid (HB1.out.trans (HBr.out.mono HB1.out.size))
      have HZE := Lib.hid hZe
      have hwP : ∀ x ∈ Z, Wf2 x := by
        intro x hx
        rw [hZe] at hx
        obtain ⟨x1, x2⟩ := x
        have := List.of_mem_zip hx
        exact ⟨HWA.out _ this.1, HWB.out _ this.2⟩
      have HWP := Lib.hid hwP
      have hlA : A.length = k := HSA1.out.hl
      have HH := Lib.hid (half_ties HLL.out)
      have n1 := pc_bound eqP A
      have n2 := pc_bound eqP B
      have n3 := pc_bound eqP Z
      have m1 : A.length * A.length ≤ 1000000 * 1000000 := Nat.mul_le_mul (by omega) (by omega)
      have m2 : B.length * B.length ≤ 1000000 * 1000000 := Nat.mul_le_mul (by rw [← HLL.out]; omega) (by rw [← HLL.out]; omega)
      have m3 : Z.length * Z.length ≤ 1000000 * 1000000 := Nat.mul_le_mul (by rw [HZL.out]; omega) (by rw [HZL.out]; omega)
      have o1 : pcN eqP A ≤ 1000000000000 := by omega
      have o2 : pcN eqP B ≤ 1000000000000 := by omega
      have o3 : pcN eqP Z ≤ 1000000000000 := by omega
      clear HO HB HZV HSA1 HSB1 n1 n2 n3 m1 m2 m3 hZe hwP hgzw
      go_wp2_with fail
      refine (tiesI_any HA3.out hz HWA.out).mono ?_
      rintro e w3 ⟨rfl, hb⟩
      have HPR3 := Lib.hid (HPR.out.keep hb)
      have HB4 := Lib.hid (HB3.out.keep hb)
      have HB03 := Lib.hid (HB0.out.trans (hb.mono HB0.out.size))
      have HG3 := Lib.hid (Nat.le_trans HBr.out.size hb.size)
      clear hb HPR HA3 HB3 HB0
      go_wp2_with fail
      refine (tiesI_any HB4.out hz HWB.out).mono ?_
      rintro e w4 ⟨rfl, hb⟩
      have HPR4 := Lib.hid (HPR3.out.keep hb)
      have HB04 := Lib.hid (HB03.out.trans (hb.mono HB03.out.size))
      have HG4 := Lib.hid (Nat.le_trans HG3.out hb.size)
      clear hb HPR3 HB4 HB03 HG3
      go_wp2_with fail
      refine (tiesP_any HPR4.out hz HWP.out).mono ?_
      rintro e w5 ⟨rfl, hb⟩
      have HPR5 := Lib.hid (HPR4.out.keep hb)
      have HB05 := Lib.hid (HB04.out.trans (hb.mono HB04.out.size))
      have HG5 := Lib.hid (Nat.le_trans HG4.out hb.size)
      clear hb HPR4 HB04 HG4
      rw [HZE.out] at o3 HPR5 ⊢
      have HTOT := Lib.hid (show ((pcN eqP A : Nat) : Int) + ((pcN eqP B : Nat) : Int) - 2 * ((pcN eqP (A.zip B) : Nat) : Int) = ((pcN halfP (A.zip B) : Nat) : Int) by
        have := HH.out
        have e1 : pcN eqP A = pcN (fun x y : Int => decide (x = y)) A := rfl
        have e2 : pcN eqP B = pcN (fun x y : Int => decide (x = y)) B := rfl
        have e3 : pcN eqP (A.zip B) = pcN (fun p q : Int × Int => decide (p = q)) (A.zip B) := rfl
        omega)
      generalize pcN eqP A = tA at *
      generalize pcN eqP B = tB at *
      generalize pcN eqP (A.zip B) = tP at *
      have hsr := srtP_any HPR5.out HG5.out (Nat.le_of_eq HGZ.out) hz
      have HSR := Lib.hid hsr
      clear hsr
      go_wp2_with fail
      refine HSR.out.mono ?_
      rintro e w6 ⟨rfl, L', hp, hso, hpr, hB6⟩
      have HOPP := Lib.hid (inv_nums HLL.out hp hso)
      have HPR6 := Lib.hid hpr
      have HB06 := Lib.hid (show Below w.heap.size w w6 from HB05.out.trans (hB6.mono (by have := HB1.out.size; omega)))
      clear hp hso hpr hB6 HSR HPR5 HB05 HG5 o1 o2 o3 HH
      obtain ⟨w7, hrun, hown, hgrow⟩ := run_make_full (P := Tryz.prog) w6 w6.heap.size 31 3 iz (.int .i64 0) 1 Tryz.underlying31 hi hz0 hz1 .i64 .i64 k (by rw [hz2]; omega) (by unfold maxLen; omega) (Nat.le_refl _)
      have HB7 := Lib.hid ((Below.refl w6.heap.size w6).grown hgrow (Nat.le_refl _) (by simp))
      have HO7 := Lib.hid (show w7.ownsRow w6.heap.size 3 1 (.slice (some ⟨w6.heap.size, 0, none⟩) k k) k ((List.replicate k (0 : Int)).map (Value.int .i64)) by
        have e : (madeCells (Value.int .i64 0).cells (k * 1)).toList = (List.replicate k (0 : Int)).map (Value.int .i64) := by
          rw [List.map_replicate, Nat.mul_one]
          exact toList_madeCells_one _ _
        rw [← e]; exact hown)
      clear hown hgrow
      obtain ⟨g2, hg2⟩ : ∃ g2, w6.heap.size = g2 := ⟨_, rfl⟩
      rw [hg2] at hrun HO7 HB7
      have HG2 := Lib.hid hg2
      clear hg2
      go_wp2_with fail
      clear hrun
      go_loopw [58] (fun s58 wr => ∃ (j : Nat) (Y : List Int), j ≤ k ∧ s58 = .int .i64 (j : Int) ∧ Hid (wr.ownsRow g2 3 1 (.slice (some ⟨g2, 0, none⟩) k k) k (Y.map (Value.int .i64))) ∧ Hid (Below g2 w6 wr) ∧ Hid (Y.length = k) ∧ Hid (∀ i, i < j → Y.getD i 0 = (L'.map Prod.snd).getD i 0)) (fun s58 _ => (k - (intOf s58)).toNat)
      case atStart => exact ⟨0, List.replicate k 0, Nat.zero_le _, rfl, HO7, HB7, Lib.hid (by simp), Lib.hid (fun j h => absurd h (Nat.not_lt_zero j))⟩
      case round =>
        clear HO7 HB7
        obtain ⟨j, Y, hj, rfl, HO, HB, HYL, HYV⟩ := hrel
        by_cases hlj : j < k
        · have l2 : (j : Int) < (k : Int) := by omega
          have hjL : j < L'.length := by rw [HPR6.out.hl]; exact hlj
          obtain ⟨x1, x2⟩ := (HPR6.out.keep (HG2.out ▸ HB.out)).cell j hjL
          have HV := Lib.hid (show (L'.map Prod.snd).getD j 0 = (L'[j]'hjL).2 by simp [List.getD, hjL])
          obtain ⟨hgz2, _⟩ := own_blk HO.out
          have HOA := fun (o : Obj) => HO.out.alloc o
          have f1 := fun (o : Obj) => (HOA o).frozenAt j
          have y1 := fun (o : Obj) => (show (_ : World).cell? ⟨g2, j, none⟩ = some (.int .i64 (Y[j]'(by rw [HYL.out]; exact hlj))) from by rw [(HOA o).cellAt j (by omega), List.getElem?_map, List.getElem?_eq_getElem (by rw [HYL.out]; exact hlj)]; rfl)
          generalize (Y[j]'(by rw [HYL.out]; exact hlj)) = y0 at *
          generalize (L'[j]'hjL) = p at *
          obtain ⟨p1, p2⟩ := p
          simp only at x1 x2
          have hp2 := f1 (.cells #[.int .i64 p1, .int .i64 p2] 55)
          have hp3 := y1 (.cells #[.int .i64 p1, .int .i64 p2] 55)
          clear f1 y1 HOA
          go_wp2_with fail
          go_roundw
          case rel =>
            have hst := HO.out.stored j (.int .i64 p2)
            rw [← List.map_set] at hst
            exact ⟨j + 1, Y.set j p2, by omega, by go_num, Lib.hid (hst.1.alloc _), Lib.hid ((HB.out.setCell (p := ⟨g2, j, none⟩) (Nat.le_refl g2) _).alloc (by have := HB.out.size; rw [HG2.out] at this; simpa using this) _), Lib.hid (by rw [List.length_set]; exact HYL.out), Lib.hid (setI_next HYL.out hlj HV.out HYV.out)⟩
          case measure => simp [intOf]; omega
        · obtain rfl : j = k := by omega
          have l2 : ¬ (j : Int) < (j : Int) := by omega
          have HSD := Lib.hid (plc_end HO.out (P := L'.map Prod.snd) (by rw [List.length_map]; exact HPR6.out.hl) HYL.out (by unfold maxLen; omega) HYV.out)
          have HB8 := Lib.hid (HB06.out.trans (HB.out.mono (by have := HB06.out.size; rw [HG2.out] at this; exact this)))
          clear HO HB HYV HYL
          go_wp2_with fail
          refine (dsc_any HSD.out hz).mono ?_
          rw [HOPP.out]
          rintro e w9 ⟨rfl, hb⟩
          have HB9 := Lib.hid (HB8.out.trans (hb.mono HB8.out.size))
          clear hb HB8 HSD
          go_wp2
          go_ret3
          exact ⟨by rw [← HTOT.out]; rfl, HB9.out⟩
end Go.Proofs.YtflmjoikojfgaaaGreat
