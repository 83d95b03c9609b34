/- Contracts of package fraction, fifth part: valid, over a slice of fractions. -/
import Derived.Test.YtbjmibaepccbeaaNumD
set_option linter.unusedSimpArgs false
set_option linter.unusedVariables false
namespace Go.Proofs.Ytbjmibaepccbeaa
open Go.RowKit

/-- all of a list are fractions -/
def allV (xs : List (Int × Int)) : Bool := xs.all fun x => vldI x.1 x.2
theorem allV_take_succ (xs : List (Int × Int)) (k : Nat) (h : k < xs.length) : allV (xs.take (k + 1)) = (allV (xs.take k) && vldI (xs[k]'h).1 (xs[k]'h).2) := by
  unfold allV
  rw [List.take_succ_eq_append_getElem h, List.all_append]
  simp
theorem allV_bad (xs : List (Int × Int)) (k : Nat) (h : k < xs.length) (hv : vldI (xs[k]'h).1 (xs[k]'h).2 = false) : allV xs = false := by
  unfold allV
  rw [List.all_eq_false]
  exact ⟨xs[k], List.getElem_mem h, by simp [hv]⟩

/-- what lies in the cells of a slice of fractions -/
def FracsAt (w : World) (b off : Nat) (xs : List (Int × Int)) : Prop :=
  ∀ (k : Nat) (h : k < xs.length), w.cell? ⟨b, off + k * 2, none⟩ = some (.int .i64 (xs[k]'h).1) ∧ w.cell? ⟨b, off + k * 2 + 1, none⟩ = some (.int .i64 (xs[k]'h).2)
def Wf64 (x : Int × Int) : Prop := -9223372036854775808 ≤ x.1 ∧ x.1 ≤ 9223372036854775807 ∧ -9223372036854775808 ≤ x.2 ∧ x.2 ≤ 9223372036854775807

set_option maxHeartbeats 400000 in
theorem validl_any (b off len cap : Nat) (xs : List (Int × Int)) (w : World) (hlen : xs.length = len) (hb : b < w.heap.size) (hl : len ≤ cap) (hcap : cap ≤ maxLen)
    (hc : FracsAt w b off xs) (hw : ∀ x ∈ xs, Wf64 x) :
    Calls Try.prog 58 #[.slice (some ⟨b, off, none⟩) len cap] w fun e w' => e = .returned (.bool (allV xs)) ∧ Below w.heap.size w w' := by
  unfold maxLen at hcap
  have HLEN := Lib.hid hlen
  clear hlen
  go_enter Try.func58, Try.ntmps58
  go_wp2
  go_loopw [7] (fun s7 wr => ∃ k : Nat, k ≤ len ∧ allV (xs.take k) = true ∧ s7 = .int .i64 k ∧ Below w.heap.size w wr) (fun s7 _ => (len - (intOf s7)).toNat)
  case atStart => exact ⟨0, Nat.zero_le _, rfl, rfl, Below.refl _ _⟩
  case round =>
    obtain ⟨k, hk, hall, rfl, hbel⟩ := hrel
    have HALL := Lib.hid hall
    clear hall
    obtain ⟨hc1, hf1⟩ := bcell hbel
    have hz1 := bsize hbel
    by_cases hlt : k < len
    · have hlx : k < xs.length := by rw [HLEN.out]; exact hlt
      obtain ⟨c0, c1⟩ := hc k hlx
      have hwk := hw _ (List.getElem_mem hlx)
      have HV := Lib.hid (fun W => valid_any (xs[k]'hlx).1 (xs[k]'hlx).2 hwk.1 hwk.2.1 hwk.2.2.1 hwk.2.2.2 W)
      have HB := Lib.hid (allV_bad xs k hlx)
      have HS := Lib.hid (allV_take_succ xs k hlx)
      clear hc hw hwk
      generalize (xs[k]'hlx).1 = n at *
      generalize (xs[k]'hlx).2 = d at *
      go_wp2_with fail
      have b0 : b < wr.heap.size := by omega
      refine (HV.out _).mono ?_
      rintro e w1 ⟨rfl, hb1⟩
      obtain ⟨hc2, hf2⟩ := bcell hb1
      have hz2 := bsize hb1
      simp at hz2
      by_cases hv : vldI n d = true
      · rw [hv]
        have HVT := Lib.hid hv
        clear hv
        go_wp2
        go_roundw
        case rel => exact ⟨k + 1, by omega, by rw [HS.out, HALL.out, HVT.out]; rfl, by go_num, (by repeat (first | with_reducible exact Below.refl _ _ | (with_reducible refine Below.setCell ?_ (by first | exact Nat.le_refl _ | omega | (simp; done) | (simp; omega)) _) | (with_reducible refine Below.alloc ?_ (by first | exact Nat.le_refl _ | omega | (simp; done) | (simp; omega)) _) | with_reducible refine Below.drew ?_ | with_reducible refine bel_drewN ?_ _ | (with_reducible refine bel_by (by with_reducible assumption) (by first | exact Nat.le_refl _ | omega | (simp; done) | (simp; omega)) ?_)))⟩
        case measure => simp [intOf]; omega
      · rw [Bool.not_eq_true] at hv
        rw [hv]
        have HVF := Lib.hid hv
        clear hv
        go_wp2
        go_ret
        exact ⟨by rw [HB.out HVF.out]; rfl, (by repeat (first | with_reducible exact Below.refl _ _ | (with_reducible refine Below.setCell ?_ (by first | exact Nat.le_refl _ | omega | (simp; done) | (simp; omega)) _) | (with_reducible refine Below.alloc ?_ (by first | exact Nat.le_refl _ | omega | (simp; done) | (simp; omega)) _) | with_reducible refine Below.drew ?_ | with_reducible refine bel_drewN ?_ _ | (with_reducible refine bel_by (by with_reducible assumption) (by first | exact Nat.le_refl _ | omega | (simp; done) | (simp; omega)) ?_)))⟩
    · have HE := Lib.hid (show k = xs.length by rw [HLEN.out]; omega)
      clear hc hw
      go_wp2
      go_ret
      refine ⟨?_, (by repeat (first | with_reducible exact Below.refl _ _ | (with_reducible refine Below.setCell ?_ (by first | exact Nat.le_refl _ | omega | (simp; done) | (simp; omega)) _) | (with_reducible refine Below.alloc ?_ (by first | exact Nat.le_refl _ | omega | (simp; done) | (simp; omega)) _) | with_reducible refine Below.drew ?_ | with_reducible refine bel_drewN ?_ _ | (with_reducible refine bel_by (by with_reducible assumption) (by first | exact Nat.le_refl _ | omega | (simp; done) | (simp; omega)) ?_)))⟩
      have := HALL.out
      rw [HE.out, List.take_length] at this
      rw [this]
      rfl
end Go.Proofs.Ytbjmibaepccbeaa
