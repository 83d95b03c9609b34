/- Contracts of layer 7: what Check asks of capacities and edges. -/
import Derived.Test.YtpcdbnlljdfogaaSlc
set_option linter.unusedSimpArgs false
set_option linter.unusedVariables false
namespace Go.Proofs.Ytpcdbnlljdfogaa
open Go.RowKit

set_option maxHeartbeats 1000000 in
set_option maxRecDepth 100000 in
theorem out_any (x : Int) (w : World) : Calls Try.prog 33 #[.int .i64 x] w fun e w' => e = .returned (.bool (outC x)) ∧ w = w' := by
  unfold outC
  by_cases h1 : x < 0
  · have k1 : decide (x < 0) = true := decide_eq_true h1
    go_enter Try.func33, Try.ntmps33
    go_wp2_with fail
    go_ret
    exact ⟨by first | rfl | simp [h1], rfl⟩
  · have k1 : decide (x < 0) = false := decide_eq_false h1
    by_cases h2 : x > 1000
    · have k2 : decide (x > 1000) = true := decide_eq_true h2
      go_enter Try.func33, Try.ntmps33
      go_wp2_with fail
      go_ret
      exact ⟨by first | rfl | simp [h1, h2], rfl⟩
    · have k2 : decide (x > 1000) = false := decide_eq_false h2
      go_enter Try.func33, Try.ntmps33
      go_wp2_with fail
      go_ret
      exact ⟨by first | rfl | simp [h1, h2], rfl⟩
set_option maxHeartbeats 1000000 in
set_option maxRecDepth 100000 in
theorem idxO_any {a : Option Addr} {b off len cap : Nat} {L : List Int} {w : World} (h : SlI w a b off len cap L) :
    Calls Try.prog 55 #[.slice a len cap, .func (.func 33) #[] #[]] w fun e w' => (∃ z : Int, e = .returned (.int .i64 z) ∧ decide (0 ≤ z) = L.any outC) ∧ w = w' := by
  have HG := Lib.hid (fun x W => out_any x W)
  have HS := Lib.hid h
  have hm := h.hmax
  have hcp := h.hcap
  have hl := h.hl
  unfold maxLen at hm
  clear h
  go_enter Try.func55, Try.ntmps55
  go_wp2_with fail
  go_loopw [5, 8] (fun _ s8 wr => ∃ k : Nat, k ≤ len ∧ s8 = .int .i64 (k : Int) ∧ w = wr ∧ Hid ((L.take k).any outC = false)) (fun _ s8 _ => (len - (intOf s8)).toNat)
  case atStart => exact ⟨0, Nat.zero_le _, rfl, rfl, Lib.hid rfl⟩
  case round =>
    obtain ⟨k, hk, rfl, rfl, HK⟩ := hrel
    by_cases hlt : k < len
    · have hlz : (k : Int) < (len : Int) := by omega
      have hkL : k < L.length := by omega
      obtain rfl := HS.out.ha (by omega)
      have bb := HS.out.hb (by omega)
      have c0 := HS.out.cell k hkL
      have HTK := Lib.hid (show (L.take (k + 1)).any outC = outC (L[k]'hkL) by rw [any_take hkL, HK.out]; simp)
      have HAL := Lib.hid (fun h => any_hit (p := outC) hkL h)
      generalize L[k]'hkL = x at *
      have HC := Lib.hid (HG.out x w)
      go_wp2_with fail
      refine HC.out.mono ?_
      rintro e w1 ⟨rfl, rfl⟩
      clear c0 HC
      cases hq : outC x with
      | true =>
        go_wp2_with fail
        go_ret
        exact ⟨⟨_, rfl, by rw [HAL.out hq]; simp⟩, rfl⟩
      | false =>
        have HQ := Lib.hid hq
        clear hq
        go_wp2_with fail
        go_roundw
        case rel => exact ⟨k + 1, by omega, by go_num, by first | rfl | trivial, Lib.hid (by rw [HTK.out, HQ.out])⟩
        case measure => simp [intOf]; omega
    · have hlz : ¬ (k : Int) < (len : Int) := by omega
      obtain rfl : k = len := by omega
      have HL := Lib.hid (show L.any outC = false by
        have := HK.out
        rwa [List.take_of_length_le (by omega)] at this)
      go_wp2_with fail
      go_ret
      exact ⟨⟨_, rfl, by rw [HL.out]; rfl⟩, rfl⟩
set_option maxHeartbeats 1000000 in
set_option maxRecDepth 100000 in
theorem contO_any {a : Option Addr} {b off len cap : Nat} {L : List Int} {w : World} (h : SlI w a b off len cap L) :
    Calls Try.prog 34 #[.slice a len cap, .func (.func 33) #[] #[]] w fun e w' => e = .returned (.bool (L.any outC)) ∧ w = w' := by
  have HI := Lib.hid (idxO_any h)
  clear h
  generalize L.any outC = r at *
  go_enter Try.func34, Try.ntmps34
  go_wp2_with fail
  refine HI.out.mono ?_
  rintro e w1 ⟨⟨z, rfl, hz⟩, rfl⟩
  have hz2 : decide (z ≥ 0) = r := hz
  go_wp2_with fail
  go_ret
  exact ⟨ret_bool (by first | exact hz2 | (simp [← hz2]; done)), rfl⟩
def exB (i : Int) (n : Nat) : Bool := decide (0 ≤ i) && decide (i < (n : Int))
set_option maxHeartbeats 1000000 in
set_option maxRecDepth 100000 in
theorem existsI_any (i : Int) (a : Option Addr) (len cap : Nat) (w : World) : Calls Try.prog 36 #[.int .i64 i, .slice a len cap] w fun e w' => e = .returned (.bool (exB i len)) ∧ w = w' := by
  unfold exB
  by_cases h1 : 0 ≤ i
  · have k1 : decide (i ≥ 0) = true := decide_eq_true h1
    go_enter Try.func36, Try.ntmps36
    go_wp2_with fail
    go_ret
    exact ⟨by first | rfl | simp [h1], rfl⟩
  · have k1 : decide (i ≥ 0) = false := decide_eq_false h1
    go_enter Try.func36, Try.ntmps36
    go_wp2_with fail
    go_ret
    exact ⟨by first | rfl | simp [h1], rfl⟩
set_option maxHeartbeats 1000000 in
set_option maxRecDepth 100000 in
theorem existsP_any (i : Int) (a : Option Addr) (len cap : Nat) (w : World) : Calls Try.prog 63 #[.int .i64 i, .slice a len cap] w fun e w' => e = .returned (.bool (exB i len)) ∧ w = w' := by
  unfold exB
  by_cases h1 : 0 ≤ i
  · have k1 : decide (i ≥ 0) = true := decide_eq_true h1
    go_enter Try.func63, Try.ntmps63
    go_wp2_with fail
    go_ret
    exact ⟨by first | rfl | simp [h1], rfl⟩
  · have k1 : decide (i ≥ 0) = false := decide_eq_false h1
    go_enter Try.func63, Try.ntmps63
    go_wp2_with fail
    go_ret
    exact ⟨by first | rfl | simp [h1], rfl⟩
/-- a graph in its box -/
structure GbAt (w : World) (b : Nat) (g : Gph) : Prop where
  c0 : w.cell? ⟨b, 0, none⟩ = some (.slice g.aL g.L.length g.cL)
  c1 : w.cell? ⟨b, 1, none⟩ = some (.slice g.aR g.R.length g.cR)
  c2 : w.cell? ⟨b, 2, none⟩ = some (.slice g.aE g.E.length g.cE)
  lt : b < w.heap.size
theorem GbAt.low {B : Nat} {w w' : World} {b : Nat} {g : Gph} (h : GbAt w b g) (hb : Below B w w') (hB : b < B) : GbAt w' b g :=
  ⟨(hb.cell (p := ⟨b, 0, none⟩) hB).trans h.c0, (hb.cell (p := ⟨b, 1, none⟩) hB).trans h.c1, (hb.cell (p := ⟨b, 2, none⟩) hB).trans h.c2, Nat.lt_of_lt_of_le h.lt hb.size⟩
theorem GbAt.keep {w w' : World} {b : Nat} {g : Gph} (h : GbAt w b g) (hb : Below w.heap.size w w') : GbAt w' b g := h.low hb h.lt
theorem gb_new (w : World) (g : Gph) (T : TypeId) : GbAt (w.alloc (.cells #[.slice g.aL g.L.length g.cL, .slice g.aR g.R.length g.cR, .slice g.aE g.E.length g.cE] T)) w.heap.size g := by
  refine ⟨?_, ?_, ?_, ?_⟩
  all_goals simp [go_sem]
set_option maxHeartbeats 1000000 in
set_option maxRecDepth 100000 in
theorem dang_any (e : Int × Int) (g : Gph) (gb : Nat) (w : World) (hg : GbAt w gb g) : Calls Try.prog 35 #[.agg #[.int .i64 e.1, .int .i64 e.2], .pointer (some ⟨gb, 0, none⟩)] w fun r w' => r = .returned (.bool (dangl g.L.length g.R.length e)) ∧ Below w.heap.size w w' := by
  obtain ⟨u, v⟩ := e
  simp only
  have H1 := Lib.hid (fun W => existsI_any u g.aL g.L.length g.cL W)
  have H2 := Lib.hid (fun W => existsI_any v g.aR g.R.length g.cR W)
  have HD := Lib.hid (show dangl g.L.length g.R.length (u, v) = (!exB u g.L.length || !exB v g.R.length) from rfl)
  have HB := Lib.hid ((Below.refl w.heap.size w).alloc (Nat.le_refl _) (.cells #[.int .i64 u, .int .i64 v] 52))
  have HGB := Lib.hid (hg.keep HB.out)
  obtain ⟨g0, g1, g2, gl⟩ := HGB.out
  have z0 : (w.alloc (.cells #[.int .i64 u, .int .i64 v] 52)).cell? ⟨w.heap.size, 0, none⟩ = some (.int .i64 u) := by simp [go_sem]
  have z1 : (w.alloc (.cells #[.int .i64 u, .int .i64 v] 52)).cell? ⟨w.heap.size, 1, none⟩ = some (.int .i64 v) := by simp [go_sem]
  generalize dangl g.L.length g.R.length (u, v) = r at *
  generalize g.L.length = nL at *
  generalize g.R.length = nR at *
  clear hg
  go_enter Try.func35, Try.ntmps35
  go_wp2_with fail
  refine (H1.out _).mono ?_
  rintro e w1 ⟨rfl, rfl⟩
  cases h1 : exB u nL with
  | false =>
    go_wp2_with fail
    go_ret
    exact ⟨ret_bool (by rw [HD.out, h1]; rfl), HB.out⟩
  | true =>
    go_wp2_with fail
    refine (H2.out _).mono ?_
    rintro e w2 ⟨rfl, rfl⟩
    go_wp2_with fail
    go_ret
    exact ⟨ret_bool (by rw [HD.out, h1]; simp), HB.out⟩
end Go.Proofs.Ytpcdbnlljdfogaa
