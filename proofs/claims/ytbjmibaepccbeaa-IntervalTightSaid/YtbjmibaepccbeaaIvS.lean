/- Intervals: the program's valid (of a slice) and what lies in slices of intervals. -/
import Derived.Test.YtbjmibaepccbeaaIvA
set_option linter.unusedSimpArgs false
set_option linter.unusedVariables false
namespace Go.Proofs.Ytbjmibaepccbeaa
open Go.RowKit
open Iv

/-- what lies in the cells of a slice of intervals, or of pairs of fractions -/
def VsAt (w : World) (b off : Nat) (xs : List V) : Prop :=
  ∀ (k : Nat) (h : k < xs.length), w.cell? ⟨b, off + k * 4, none⟩ = some (.int .i64 (xs[k]'h).1.1) ∧ w.cell? ⟨b, off + k * 4 + 1, none⟩ = some (.int .i64 (xs[k]'h).1.2) ∧ w.cell? ⟨b, off + k * 4 + 2, none⟩ = some (.int .i64 (xs[k]'h).2.1) ∧ w.cell? ⟨b, off + k * 4 + 3, none⟩ = some (.int .i64 (xs[k]'h).2.2)
theorem VsAt.low {w w' : World} {B b off : Nat} {xs : List V} (h : VsAt w b off xs) (hb : b < B) (hB : Below B w w') : VsAt w' b off xs := fun k hk => by
  obtain ⟨h1, h2, h3, h4⟩ := h k hk
  exact ⟨(hB.cell (p := ⟨b, off + k * 4, none⟩) hb).trans h1, (hB.cell (p := ⟨b, off + k * 4 + 1, none⟩) hb).trans h2, (hB.cell (p := ⟨b, off + k * 4 + 2, none⟩) hb).trans h3, (hB.cell (p := ⟨b, off + k * 4 + 3, none⟩) hb).trans h4⟩
theorem VsAt.keep {w w' : World} {b off : Nat} {xs : List V} (h : VsAt w b off xs) (hb : b < w.heap.size) (hB : Below w.heap.size w w') : VsAt w' b off xs := h.low hb hB
theorem all_take {α : Type} (p : α → Bool) (xs : List α) (k : Nat) (h : k < xs.length) : (xs.take (k + 1)).all p = ((xs.take k).all p && p (xs[k]'h)) := by
  rw [List.take_succ_eq_append_getElem h, List.all_append]
  simp
theorem all_bad {α : Type} (p : α → Bool) (xs : List α) (k : Nat) (h : k < xs.length) (hv : p (xs[k]'h) = false) : xs.all p = false := by
  rw [List.all_eq_false]
  exact ⟨xs[k], List.getElem_mem h, by simp [hv]⟩
set_option maxHeartbeats 2000000 in
set_option maxRecDepth 100000 in
theorem ivalids_any (b off len cap : Nat) (xs : List V) (w : World) (hlen : xs.length = len) (hb : b < w.heap.size) (hl : len ≤ cap) (hcap : cap ≤ maxLen) (hc : VsAt w b off xs) (hw : ∀ x ∈ xs, WfV x) :
    Calls Try.prog 42 #[.slice (some ⟨b, off, none⟩) len cap] w fun e w' => e = .returned (.bool (xs.all okV)) ∧ Below w.heap.size w w' := by
  unfold maxLen at hcap
  have HLEN := Lib.hid hlen
  have HC := Lib.hid hc
  have HW := Lib.hid hw
  clear hlen hc hw
  go_enter Try.func42, Try.ntmps42
  go_wp2_with fail
  go_loopw [7] (fun s7 wr => ∃ k : Nat, k ≤ len ∧ s7 = .int .i64 k ∧ Hid ((xs.take k).all okV = true) ∧ Hid (Below w.heap.size w wr)) (fun s7 _ => (len - (intOf s7)).toNat)
  case atStart => exact ⟨0, Nat.zero_le _, rfl, Lib.hid rfl, Lib.hid (Below.refl _ _)⟩
  case round =>
    obtain ⟨k, hk, rfl, HALL, HB⟩ := hrel
    by_cases hlt : k < len
    · have l1 : (k : Int) < (len : Int) := by omega
      have hlx : k < xs.length := by rw [HLEN.out]; exact hlt
      obtain ⟨x0, x1, x2, x3⟩ := (HC.out.keep hb HB.out) k hlx
      have HV := Lib.hid (fun W => iok_any (xs[k]'hlx) (HW.out _ (List.getElem_mem hlx)) W)
      have HBD := Lib.hid (all_bad okV xs k hlx)
      have HS := Lib.hid (all_take okV xs k hlx)
      generalize xs[k]'hlx = v at *
      obtain ⟨⟨n1, n2⟩, ⟨n3, n4⟩⟩ := v
      simp only at x0 x1 x2 x3 HV HBD HS
      obtain ⟨y, hy⟩ : ∃ y, okV ((n1, n2), (n3, n4)) = y := ⟨_, rfl⟩
      rw [hy] at HV HBD HS
      clear hy
      go_wp2_with fail
      refine (HV.out _).mono ?_
      rintro e w1 ⟨rfl, hb1⟩
      have HB1 := Lib.hid (show Below w.heap.size w w1 from HB.out.trans (Below.mono (Below.trans ((by repeat (first | with_reducible exact Below.refl _ _ | (with_reducible refine Below.setCell ?_ (by first | exact Nat.le_refl _ | omega | (simp; done) | (simp; omega)) _) | (with_reducible refine Below.alloc ?_ (by first | exact Nat.le_refl _ | omega | (simp; done) | (simp; omega)) _) | with_reducible refine Below.drew ?_ | with_reducible refine bel_drewN ?_ _ | (with_reducible refine bel_by (by with_reducible assumption) (by first | exact Nat.le_refl _ | omega | (simp; done) | (simp; omega)) ?_))) : Below wr.heap.size wr _) (hb1.mono (by simp))) HB.out.size))
      clear hb1 x0 x1 x2 x3 HV
      cases y with
      | true =>
        have HE := Lib.hid (show (xs.take (k + 1)).all okV = true by rw [HS.out, HALL.out]; rfl)
        clear HBD HS HALL HB
        go_wp2_with fail
        go_roundw
        case rel => exact ⟨k + 1, by omega, by go_num, HE, HB1⟩
        case measure => simp [intOf]; omega
      | false =>
        have HE := Lib.hid (HBD.out rfl)
        clear HBD HS HALL HB
        go_wp2_with fail
        go_ret
        exact ⟨by rw [HE.out]; rfl, HB1.out⟩
    · have HE := Lib.hid (show xs.all okV = true by
        have := HALL.out
        rwa [List.take_of_length_le (by rw [HLEN.out]; omega)] at this)
      have l1 : ¬ (k : Int) < (len : Int) := by omega
      clear HALL
      go_wp2_with fail
      go_ret
      exact ⟨by rw [HE.out]; rfl, HB.out⟩
/-- two intervals, one behind the other -/
theorem vs_two {w : World} {b : Nat} {x y : V} (h0 : w.cell? ⟨b, 0, none⟩ = some (.int .i64 x.1.1)) (h1 : w.cell? ⟨b, 1, none⟩ = some (.int .i64 x.1.2)) (h2 : w.cell? ⟨b, 2, none⟩ = some (.int .i64 x.2.1)) (h3 : w.cell? ⟨b, 3, none⟩ = some (.int .i64 x.2.2))
    (h4 : w.cell? ⟨b, 4, none⟩ = some (.int .i64 y.1.1)) (h5 : w.cell? ⟨b, 5, none⟩ = some (.int .i64 y.1.2)) (h6 : w.cell? ⟨b, 6, none⟩ = some (.int .i64 y.2.1)) (h7 : w.cell? ⟨b, 7, none⟩ = some (.int .i64 y.2.2)) : VsAt w b 0 [x, y] := by
  intro k hk
  match k, hk with
  | 0, _ => exact ⟨h0, h1, h2, h3⟩
  | 1, _ => exact ⟨h4, h5, h6, h7⟩
  | k + 2, hk => exact absurd hk (by simp only [List.length_cons, List.length_nil]; omega)
theorem vs_new {w : World} {cs : Array Value} {t : TypeId} {L : List V} (hc : cs = (L.flatMap fun x => [Value.int .i64 x.1.1, .int .i64 x.1.2, .int .i64 x.2.1, .int .i64 x.2.2]).toArray) : VsAt (w.alloc (.cells cs t)) w.heap.size 0 L := by
  subst hc
  have key : ∀ (L : List V) (k : Nat) (h : k < L.length), (L.flatMap fun x => [Value.int .i64 x.1.1, .int .i64 x.1.2, .int .i64 x.2.1, .int .i64 x.2.2])[k * 4]? = some (.int .i64 (L[k]'h).1.1) ∧ (L.flatMap fun x => [Value.int .i64 x.1.1, .int .i64 x.1.2, .int .i64 x.2.1, .int .i64 x.2.2])[k * 4 + 1]? = some (.int .i64 (L[k]'h).1.2) ∧ (L.flatMap fun x => [Value.int .i64 x.1.1, .int .i64 x.1.2, .int .i64 x.2.1, .int .i64 x.2.2])[k * 4 + 2]? = some (.int .i64 (L[k]'h).2.1) ∧ (L.flatMap fun x => [Value.int .i64 x.1.1, .int .i64 x.1.2, .int .i64 x.2.1, .int .i64 x.2.2])[k * 4 + 3]? = some (.int .i64 (L[k]'h).2.2) := by
    intro L
    induction L with
    | nil => intro k h; simp at h
    | cons x t ih =>
      intro k h
      cases k with
      | zero => exact ⟨rfl, rfl, rfl, rfl⟩
      | succ k =>
        have := ih k (by simpa using h)
        rw [List.flatMap_cons]
        have e : ∀ j, (k + 1) * 4 + j = (k * 4 + j) + 4 := by omega
        have g : ∀ j, ([Value.int .i64 x.1.1, .int .i64 x.1.2, .int .i64 x.2.1, .int .i64 x.2.2] ++ t.flatMap fun x => [Value.int .i64 x.1.1, .int .i64 x.1.2, .int .i64 x.2.1, .int .i64 x.2.2])[j + 4]? = (t.flatMap fun x => [Value.int .i64 x.1.1, .int .i64 x.1.2, .int .i64 x.2.1, .int .i64 x.2.2])[j]? := fun j => by
          rw [List.getElem?_append_right (by simp)]; simp
        rw [show (k + 1) * 4 = k * 4 + 4 by omega, show k * 4 + 4 + 1 = (k * 4 + 1) + 4 by omega, show k * 4 + 4 + 2 = (k * 4 + 2) + 4 by omega, show k * 4 + 4 + 3 = (k * 4 + 3) + 4 by omega, g, g, g, g]
        simpa using this
  intro k hk
  obtain ⟨h1, h2, h3, h4⟩ := key L k hk
  unfold World.cell?
  rw [heap_alloc_new]
  simp only [Nat.zero_add]
  refine ⟨?_, ?_, ?_, ?_⟩
  · simpa using h1
  · simpa using h2
  · simpa using h3
  · simpa using h4
end Go.Proofs.Ytbjmibaepccbeaa
