/- Contracts of package fraction over slices: valid, Sum, Mean; what they compute. -/
import Derived.Test.YtfdalnkdeeminaaDoorFld
set_option linter.unusedSimpArgs false
set_option linter.unusedVariables false
namespace Go.Proofs.YtfdalnkdeeminaaDoor
open Go.RowKit

/-- a slice of fractions as it lies in the world -/
structure SlF (w : World) (a : Option Addr) (b off len cap : Nat) (xs : List (Int × Int)) : Prop where
  hlen : xs.length = len
  ha : 0 < len → a = some ⟨b, off, none⟩
  hb : 0 < len → b < w.heap.size
  hl : len ≤ cap
  hcap : cap ≤ maxLen
  hc : FracsAt w b off xs
  hw : ∀ x ∈ xs, Wf64 x
theorem SlF.keep {w w' : World} {a : Option Addr} {b off len cap : Nat} {xs : List (Int × Int)} (h : SlF w a b off len cap xs) (hB : Below w.heap.size w w') : SlF w' a b off len cap xs := by
  refine ⟨h.hlen, h.ha, fun h0 => ?_, h.hl, h.hcap, fun k hk => ?_, h.hw⟩
  · have := h.hb h0
    have := hB.size
    omega
  · have h0 : b < w.heap.size := h.hb (by have := h.hlen; omega)
    obtain ⟨c0, c1⟩ := h.hc k hk
    exact ⟨(hB.cell h0).trans c0, (hB.cell h0).trans c1⟩

/-- the sum from a fraction on -/
def sumF (a : Int × Int) : List (Int × Int) → Int × Int × Int
  | [] => (a.1, a.2, 0)
  | x :: xs => if (sumS a.1 a.2 x.1 x.2).2.2 = 0 then sumF ((sumS a.1 a.2 x.1 x.2).1, (sumS a.1 a.2 x.1 x.2).2.1) xs else (0, 0, (sumS a.1 a.2 x.1 x.2).2.2)
def sumL (xs : List (Int × Int)) : Int × Int × Int := if allV xs = true then sumF (0, 1) xs else (0, 0, 1)
def meanL (xs : List (Int × Int)) : Int × Int × Int :=
  if xs.length = 0 then (0, 0, 1) else if (sumL xs).2.2 = 0 then divS (sumL xs).1 (sumL xs).2.1 xs.length 1 else (0, 0, (sumL xs).2.2)
theorem sumF_drop (a : Int × Int) (xs : List (Int × Int)) (k : Nat) (h : k < xs.length) :
    sumF a (xs.drop k) = if (sumS a.1 a.2 (xs[k]'h).1 (xs[k]'h).2).2.2 = 0 then sumF ((sumS a.1 a.2 (xs[k]'h).1 (xs[k]'h).2).1, (sumS a.1 a.2 (xs[k]'h).1 (xs[k]'h).2).2.1) (xs.drop (k + 1)) else (0, 0, (sumS a.1 a.2 (xs[k]'h).1 (xs[k]'h).2).2.2) := by
  rw [List.drop_eq_getElem_cons h]
  rfl
theorem allV_get {xs : List (Int × Int)} (h : allV xs = true) {k : Nat} (hk : k < xs.length) : vldI (xs[k]'hk).1 (xs[k]'hk).2 = true := by
  unfold allV at h
  rw [List.all_eq_true] at h
  exact h _ (List.getElem_mem hk)
theorem sumS_yes {an ad bn bd : Int} (av : vldI an ad = true) (bv : vldI bn bd = true) : addS an ad bn bd = sumS an ad bn bd := by
  unfold addS
  rw [av, bv]
  rfl
theorem sumS_ok {an ad bn bd : Int} (av : vldI an ad = true) (bv : vldI bn bd = true) (h : (sumS an ad bn bd).2.2 = 0) : vldI (sumS an ad bn bd).1 (sumS an ad bn bd).2.1 = true := by
  rw [← sumS_yes av bv] at h ⊢
  exact add_ok av bv h
theorem sumS_wf {an ad bn bd : Int} (av : vldI an ad = true) (bv : vldI bn bd = true) : Wf64 ((sumS an ad bn bd).1, (sumS an ad bn bd).2.1) := by
  rw [← sumS_yes av bv]
  exact add_wf an ad bn bd
theorem vld01 : vldI 0 1 = true := by decide
theorem sumF_wf (xs : List (Int × Int)) : ∀ (a : Int × Int), vldI a.1 a.2 = true → allV xs = true → Wf64 ((sumF a xs).1, (sumF a xs).2.1) ∧ ((sumF a xs).2.2 = 0 → vldI (sumF a xs).1 (sumF a xs).2.1 = true) := by
  induction xs with
  | nil =>
    intro a ha _
    obtain ⟨h1, h2, h3, h4, _⟩ := vldI_out ha
    unfold sumF
    exact ⟨⟨by simp only; omega, by simp only; omega, by simp only; omega, by simp only; omega⟩, fun _ => ha⟩
  | cons x xs ih =>
    intro a ha hv
    have hv' : vldI x.1 x.2 = true ∧ allV xs = true := by
      unfold allV at hv ⊢
      simpa using hv
    unfold sumF
    by_cases h : (sumS a.1 a.2 x.1 x.2).2.2 = 0
    · rw [if_pos h]
      exact ih _ (sumS_ok ha hv'.1 h) hv'.2
    · rw [if_neg h]
      exact ⟨zz_wf, fun h' => absurd h' h⟩
theorem sumL_wf (xs : List (Int × Int)) : Wf64 ((sumL xs).1, (sumL xs).2.1) := by
  unfold sumL
  by_cases h : allV xs = true
  · rw [if_pos h]; exact (sumF_wf xs (0, 1) vld01 h).1
  · rw [if_neg h]; exact zz_wf

set_option maxHeartbeats 400000 in
theorem validl_o {a : Option Addr} {b off len cap : Nat} {xs : List (Int × Int)} {w : World} (h : SlF w a b off len cap xs) :
    Calls Tryd.prog 49 #[.slice a len cap] w fun e w' => e = .returned (.bool (allV xs)) ∧ Below w.heap.size w w' := by
  have hcap := h.hcap
  have hl := h.hl
  unfold maxLen at hcap
  have HLEN := Lib.hid h.hlen
  have HX := Lib.hid h
  clear h
  go_enter Tryd.func49, Tryd.ntmps49
  go_wp2
  go_loopw [7] (fun s7 wr => ∃ k : Nat, k ≤ len ∧ allV (xs.take k) = true ∧ s7 = .int .i64 k ∧ Below w.heap.size w wr) (fun s7 _ => (len - (intOf s7)).toNat)
  case atStart => exact ⟨0, Nat.zero_le _, rfl, rfl, Below.refl _ _⟩
  case round =>
    obtain ⟨k, hk, hall, rfl, hbel⟩ := hrel
    have HALL := Lib.hid hall
    clear hall
    obtain ⟨hc1, hf1⟩ := bcell hbel
    have hz1 := bsize hbel
    by_cases hlt : k < len
    · have hlx : k < xs.length := by rw [HLEN.out]; exact hlt
      obtain ⟨c0, c1⟩ := HX.out.hc k hlx
      have hb := HX.out.hb (by omega)
      obtain rfl := HX.out.ha (by omega)
      have hwk := HX.out.hw _ (List.getElem_mem hlx)
      have HV := Lib.hid (fun W => valid_any (xs[k]'hlx).1 (xs[k]'hlx).2 hwk.1 hwk.2.1 hwk.2.2.1 hwk.2.2.2 W)
      have HB := Lib.hid (allV_bad xs k hlx)
      have HS := Lib.hid (allV_take_succ xs k hlx)
      clear hwk
      generalize (xs[k]'hlx).1 = n at *
      generalize (xs[k]'hlx).2 = d at *
      go_wp2_with fail
      have b0 : b < wr.heap.size := by omega
      refine (HV.out _).mono ?_
      rintro e w1 ⟨rfl, hb1⟩
      obtain ⟨hc2, hf2⟩ := bcell hb1
      have hz2 := bsize hb1
      simp at hz2
      by_cases hv : vldI n d = true
      · rw [hv]
        have HVT := Lib.hid hv
        clear hv
        go_wp2
        go_roundw
        case rel => exact ⟨k + 1, by omega, by rw [HS.out, HALL.out, HVT.out]; rfl, by go_num, (by repeat (first | with_reducible exact Below.refl _ _ | (with_reducible refine Below.setCell ?_ (by first | exact Nat.le_refl _ | omega | (simp; done) | (simp; omega)) _) | (with_reducible refine Below.alloc ?_ (by first | exact Nat.le_refl _ | omega | (simp; done) | (simp; omega)) _) | with_reducible refine Below.drew ?_ | with_reducible refine bel_drewN ?_ _ | (with_reducible refine bel_by (by with_reducible assumption) (by first | exact Nat.le_refl _ | omega | (simp; done) | (simp; omega)) ?_)))⟩
        case measure => simp [intOf]; omega
      · rw [Bool.not_eq_true] at hv
        rw [hv]
        have HVF := Lib.hid hv
        clear hv
        go_wp2
        go_ret
        exact ⟨by rw [HB.out HVF.out]; rfl, (by repeat (first | with_reducible exact Below.refl _ _ | (with_reducible refine Below.setCell ?_ (by first | exact Nat.le_refl _ | omega | (simp; done) | (simp; omega)) _) | (with_reducible refine Below.alloc ?_ (by first | exact Nat.le_refl _ | omega | (simp; done) | (simp; omega)) _) | with_reducible refine Below.drew ?_ | with_reducible refine bel_drewN ?_ _ | (with_reducible refine bel_by (by with_reducible assumption) (by first | exact Nat.le_refl _ | omega | (simp; done) | (simp; omega)) ?_)))⟩
    · have HE := Lib.hid (show k = xs.length by rw [HLEN.out]; omega)
      go_wp2
      go_ret
      refine ⟨?_, (by repeat (first | with_reducible exact Below.refl _ _ | (with_reducible refine Below.setCell ?_ (by first | exact Nat.le_refl _ | omega | (simp; done) | (simp; omega)) _) | (with_reducible refine Below.alloc ?_ (by first | exact Nat.le_refl _ | omega | (simp; done) | (simp; omega)) _) | with_reducible refine Below.drew ?_ | with_reducible refine bel_drewN ?_ _ | (with_reducible refine bel_by (by with_reducible assumption) (by first | exact Nat.le_refl _ | omega | (simp; done) | (simp; omega)) ?_)))⟩
      have := HALL.out
      rw [HE.out, List.take_length] at this
      rw [this]
      rfl

set_option maxHeartbeats 2000000 in
set_option maxRecDepth 100000 in
/-- fraction.Sum -/
theorem fsum_any {a : Option Addr} {b off len cap : Nat} {xs : List (Int × Int)} {w : World} (h : SlF w a b off len cap xs) :
    Calls Tryd.prog 32 #[.slice a len cap] w fun e w' => e = .returned (fracE (sumL xs)) ∧ Below w.heap.size w w' := by
  have hcap := h.hcap
  have hl := h.hl
  unfold maxLen at hcap
  have HLEN := Lib.hid h.hlen
  have HX := Lib.hid h
  clear h
  cases hv : allV xs with
  | false =>
    have HS := Lib.hid (show sumL xs = (0, 0, 1) by unfold sumL; rw [hv]; rfl)
    have HV := Lib.hid hv
    clear hv
    go_enter Tryd.func32, Tryd.ntmps32
    go_wp2_with fail
    refine (validl_o (HX.out.keep (by repeat (first | with_reducible exact Below.refl _ _ | (with_reducible refine Below.setCell ?_ (by first | exact Nat.le_refl _ | omega | (simp; done) | (simp; omega)) _) | (with_reducible refine Below.alloc ?_ (by first | exact Nat.le_refl _ | omega | (simp; done) | (simp; omega)) _) | with_reducible refine Below.drew ?_ | with_reducible refine bel_drewN ?_ _ | (with_reducible refine bel_by (by with_reducible assumption) (by first | exact Nat.le_refl _ | omega | (simp; done) | (simp; omega)) ?_))))).mono ?_
    rw [HV.out]
    rintro e w1 ⟨rfl, hb1⟩
    obtain ⟨hc1, hf1⟩ := bcell hb1
    have hz1 := bsize hb1
    simp at hz1
    have k0 : w.heap.size < w1.heap.size := by omega
    go_wp2
    refine bodyPost_ret (v := fracE (0, 0, 1)) (by simp [results, Tryd.results32, go_sem, hc1, hf1, k0]) rfl ⟨by rw [HS.out], (by repeat (first | with_reducible exact Below.refl _ _ | (with_reducible refine Below.setCell ?_ (by first | exact Nat.le_refl _ | omega | (simp; done) | (simp; omega)) _) | (with_reducible refine Below.alloc ?_ (by first | exact Nat.le_refl _ | omega | (simp; done) | (simp; omega)) _) | with_reducible refine Below.drew ?_ | with_reducible refine bel_drewN ?_ _ | (with_reducible refine bel_by (by with_reducible assumption) (by first | exact Nat.le_refl _ | omega | (simp; done) | (simp; omega)) ?_)))⟩
  | true =>
    have HS := Lib.hid (show sumL xs = sumF (0, 1) xs by unfold sumL; rw [hv]; rfl)
    have HV := Lib.hid hv
    clear hv
    go_enter Tryd.func32, Tryd.ntmps32
    go_wp2_with fail
    refine (validl_o (HX.out.keep (by repeat (first | with_reducible exact Below.refl _ _ | (with_reducible refine Below.setCell ?_ (by first | exact Nat.le_refl _ | omega | (simp; done) | (simp; omega)) _) | (with_reducible refine Below.alloc ?_ (by first | exact Nat.le_refl _ | omega | (simp; done) | (simp; omega)) _) | with_reducible refine Below.drew ?_ | with_reducible refine bel_drewN ?_ _ | (with_reducible refine bel_by (by with_reducible assumption) (by first | exact Nat.le_refl _ | omega | (simp; done) | (simp; omega)) ?_))))).mono ?_
    rw [HV.out]
    rintro e w1 ⟨rfl, hb1⟩
    obtain ⟨hc1, hf1⟩ := bcell hb1
    have hz1 := bsize hb1
    simp at hz1
    have k0 : w.heap.size < w1.heap.size := by omega
    have r0 : w1.cell? ⟨w.heap.size, 0, none⟩ = some (.int .i64 0) := by simp [go_sem, hc1, k0]
    have r1 : w1.cell? ⟨w.heap.size, 1, none⟩ = some (.int .i64 0) := by simp [go_sem, hc1, k0]
    have f0 : w1.frozen? ⟨w.heap.size, 0, none⟩ = false := by simp [go_sem, hf1, k0]
    have f1 : w1.frozen? ⟨w.heap.size, 1, none⟩ = false := by simp [go_sem, hf1, k0]
    have hbW : Below w.heap.size w w1 := (by repeat (first | with_reducible exact Below.refl _ _ | (with_reducible refine Below.setCell ?_ (by first | exact Nat.le_refl _ | omega | (simp; done) | (simp; omega)) _) | (with_reducible refine Below.alloc ?_ (by first | exact Nat.le_refl _ | omega | (simp; done) | (simp; omega)) _) | with_reducible refine Below.drew ?_ | with_reducible refine bel_drewN ?_ _ | (with_reducible refine bel_by (by with_reducible assumption) (by first | exact Nat.le_refl _ | omega | (simp; done) | (simp; omega)) ?_)))
    have HBW := Lib.hid hbW
    clear hc1 hf1 hz1 hb1 hbW
    go_wp2
    go_loopw [16] (fun s16 wr => ∃ (k : Nat) (n d : Int), k ≤ len ∧ s16 = .int .i64 k ∧ vldI n d = true ∧ sumF (n, d) (xs.drop k) = sumF (0, 1) xs ∧ wr.cell? ⟨w1.heap.size, 0, none⟩ = some (.int .i64 n) ∧ wr.cell? ⟨w1.heap.size, 1, none⟩ = some (.int .i64 d) ∧
        wr.frozen? ⟨w1.heap.size, 0, none⟩ = false ∧ wr.frozen? ⟨w1.heap.size, 1, none⟩ = false ∧ w1.heap.size < wr.heap.size ∧ Below w1.heap.size w1 wr) (fun s16 _ => (len - (intOf s16)).toNat)
    case atStart => exact ⟨0, 0, 1, Nat.zero_le _, rfl, vld01, rfl, by simp [go_sem], by simp [go_sem], by simp [go_sem], by simp [go_sem], by simp, (by repeat (first | with_reducible exact Below.refl _ _ | (with_reducible refine Below.setCell ?_ (by first | exact Nat.le_refl _ | omega | (simp; done) | (simp; omega)) _) | (with_reducible refine Below.alloc ?_ (by first | exact Nat.le_refl _ | omega | (simp; done) | (simp; omega)) _) | with_reducible refine Below.drew ?_ | with_reducible refine bel_drewN ?_ _ | (with_reducible refine bel_by (by with_reducible assumption) (by first | exact Nat.le_refl _ | omega | (simp; done) | (simp; omega)) ?_)))⟩
    case round =>
      obtain ⟨k, n, d, hk, rfl, nv, hsum, z0, z1, y0, y1, hz, hbel⟩ := hrel
      have HSUM := Lib.hid hsum
      have HBEL := Lib.hid hbel
      clear hsum
      have rr0 := (hbel.cell (p := ⟨w.heap.size, 0, none⟩) k0).trans r0
      have rr1 := (hbel.cell (p := ⟨w.heap.size, 1, none⟩) k0).trans r1
      have ff0 := (hbel.frozen (p := ⟨w.heap.size, 0, none⟩) k0).trans f0
      have ff1 := (hbel.frozen (p := ⟨w.heap.size, 1, none⟩) k0).trans f1
      have hbW := HBW.out
      have k1 : w.heap.size < wr.heap.size := by omega
      by_cases hlt : k < len
      · have hlx : k < xs.length := by rw [HLEN.out]; exact hlt
        obtain ⟨c0, c1⟩ := HX.out.hc k hlx
        have hb := HX.out.hb (by omega)
        obtain rfl := HX.out.ha (by omega)
        have c0 := (hbW.cell (p := ⟨b, off + k * 2, none⟩) hb).trans c0
        have c1 := (hbW.cell (p := ⟨b, off + k * 2 + 1, none⟩) hb).trans c1
        have hbs := hbW.size
        have c0 := (hbel.cell (p := ⟨b, off + k * 2, none⟩) (show b < _ by omega)).trans c0
        have c1 := (hbel.cell (p := ⟨b, off + k * 2 + 1, none⟩) (show b < _ by omega)).trans c1
        have k2 : b < wr.heap.size := by omega
        have xv := allV_get HV.out hlx
        have HD := Lib.hid (sumF_drop (n, d) xs k hlx)
        have HC := Lib.hid (fun W => sum_any n d _ _ nv xv W)
        have HG := Lib.hid (sumS_ok nv xv)
        clear xv nv hbW hbel
        generalize (xs[k]'hlx).1 = xn at *
        generalize (xs[k]'hlx).2 = xd at *
        generalize sumS n d xn xd = t at *
        go_wp2_with fail
        refine (HC.out _).mono ?_
        rintro e w2 ⟨rfl, hb2⟩
        have hz2 := bsize hb2
        simp at hz2
        have m0 : w.heap.size < w2.heap.size := by omega
        have m1 : w1.heap.size < w2.heap.size := by omega
        have p0 : w2.cell? ⟨w.heap.size, 0, none⟩ = some (.int .i64 0) := (hb2.cell (by simp; omega)).trans (by simp [go_sem, rr0, k1])
        have p1 : w2.cell? ⟨w.heap.size, 1, none⟩ = some (.int .i64 0) := (hb2.cell (by simp; omega)).trans (by simp [go_sem, rr1, k1])
        have p2 : w2.frozen? ⟨w.heap.size, 0, none⟩ = false := (hb2.frozen (by simp; omega)).trans (by simp [go_sem, ff0, k1])
        have p3 : w2.frozen? ⟨w.heap.size, 1, none⟩ = false := (hb2.frozen (by simp; omega)).trans (by simp [go_sem, ff1, k1])
        have q0 : w2.cell? ⟨w1.heap.size, 0, none⟩ = some (.int .i64 n) := (hb2.cell (by simp; omega)).trans (by simp [go_sem, z0, hz])
        have q1 : w2.cell? ⟨w1.heap.size, 1, none⟩ = some (.int .i64 d) := (hb2.cell (by simp; omega)).trans (by simp [go_sem, z1, hz])
        have q2 : w2.frozen? ⟨w1.heap.size, 0, none⟩ = false := (hb2.frozen (by simp; omega)).trans (by simp [go_sem, y0, hz])
        have q3 : w2.frozen? ⟨w1.heap.size, 1, none⟩ = false := (hb2.frozen (by simp; omega)).trans (by simp [go_sem, y1, hz])
        have hbel := HBEL.out
        have hbA : Below w1.heap.size w1 w2 := (by repeat (first | with_reducible exact Below.refl _ _ | (with_reducible refine Below.setCell ?_ (by first | exact Nat.le_refl _ | omega | (simp; done) | (simp; omega)) _) | (with_reducible refine Below.alloc ?_ (by first | exact Nat.le_refl _ | omega | (simp; done) | (simp; omega)) _) | with_reducible refine Below.drew ?_ | with_reducible refine bel_drewN ?_ _ | (with_reducible refine bel_by (by with_reducible assumption) (by first | exact Nat.le_refl _ | omega | (simp; done) | (simp; omega)) ?_)))
        have HB2 := Lib.hid hbA
        clear hbel hb2 hz2 hbA z0 z1 y0 y1 rr0 rr1 ff0 ff1 r0 r1 f0 f1 c0 c1
        cases ht : (t.2.2 == 0)
        · have ht' : (t.2.2 != 0) = true := by simp [bne, ht]
          have HT := Lib.hid (show ¬ t.2.2 = 0 by simpa using ht)
          go_wp2
          have hbA := HB2.out
          have hbW := HBW.out
          have hbs := hbW.size
          refine bodyPost_ret (v := fracE (0, 0, t.2.2)) (by simp [results, Tryd.results32, go_sem, p0, p1, p2, p3, m0]) rfl ⟨?_, (by repeat (first | with_reducible exact Below.refl _ _ | (with_reducible refine Below.setCell ?_ (by first | exact Nat.le_refl _ | omega | (simp; done) | (simp; omega)) _) | (with_reducible refine Below.alloc ?_ (by first | exact Nat.le_refl _ | omega | (simp; done) | (simp; omega)) _) | with_reducible refine Below.drew ?_ | with_reducible refine bel_drewN ?_ _ | (with_reducible refine bel_by (by with_reducible assumption) (by first | exact Nat.le_refl _ | omega | (simp; done) | (simp; omega)) ?_)))⟩
          have e1 := HD.out
          rw [if_neg HT.out, HSUM.out] at e1
          rw [HS.out, e1]
        · have ht' : (t.2.2 != 0) = false := by simp [bne, ht]
          have HT := Lib.hid (show t.2.2 = 0 by simpa using ht)
          go_wp2
          have hbA := HB2.out
          go_roundw
          case rel =>
            refine ⟨k + 1, t.1, t.2.1, by omega, by go_num, HG.out HT.out, ?_, ?_, ?_, ?_, ?_, ?_, (by repeat (first | with_reducible exact Below.refl _ _ | (with_reducible refine Below.setCell ?_ (by first | exact Nat.le_refl _ | omega | (simp; done) | (simp; omega)) _) | (with_reducible refine Below.alloc ?_ (by first | exact Nat.le_refl _ | omega | (simp; done) | (simp; omega)) _) | with_reducible refine Below.drew ?_ | with_reducible refine bel_drewN ?_ _ | (with_reducible refine bel_by (by with_reducible assumption) (by first | exact Nat.le_refl _ | omega | (simp; done) | (simp; omega)) ?_)))⟩
            · have e1 := HD.out
              rw [if_pos HT.out, HSUM.out] at e1
              exact e1.symm
            · simp (maxDischargeDepth := 6) [go_sem, q0, q1, q2, q3, m1]
            · simp (maxDischargeDepth := 6) [go_sem, q0, q1, q2, q3, m1]
            · simp (maxDischargeDepth := 6) [go_sem, q0, q1, q2, q3, m1]
            · simp (maxDischargeDepth := 6) [go_sem, q0, q1, q2, q3, m1]
            · simp; omega
          case measure => simp [intOf]; omega
      · have HE := Lib.hid (show xs.drop k = [] by rw [List.drop_eq_nil_iff, HLEN.out]; omega)
        clear hbel hbW
        go_wp2
        have hbel := HBEL.out
        have hbW := HBW.out
        have hbs := hbW.size
        refine bodyPost_ret (v := fracE (n, d, 0)) (by simp [results, Tryd.results32, go_sem, rr0, rr1, ff0, ff1, z0, z1, k1]) rfl ⟨?_, (by repeat (first | with_reducible exact Below.refl _ _ | (with_reducible refine Below.setCell ?_ (by first | exact Nat.le_refl _ | omega | (simp; done) | (simp; omega)) _) | (with_reducible refine Below.alloc ?_ (by first | exact Nat.le_refl _ | omega | (simp; done) | (simp; omega)) _) | with_reducible refine Below.drew ?_ | with_reducible refine bel_drewN ?_ _ | (with_reducible refine bel_by (by with_reducible assumption) (by first | exact Nat.le_refl _ | omega | (simp; done) | (simp; omega)) ?_)))⟩
        have e1 := HSUM.out
        rw [HE.out] at e1
        rw [HS.out, ← e1]
        rfl
end Go.Proofs.YtfdalnkdeeminaaDoor
