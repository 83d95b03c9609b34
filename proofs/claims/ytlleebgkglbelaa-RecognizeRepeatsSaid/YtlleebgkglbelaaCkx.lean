/- Contracts of layer 19: tests of single items; which item fits first. -/
import Derived.Test.YtlleebgkglbelaaItm
import Derived.Test.YtlleebgkglbelaaChk
set_option linter.unusedSimpArgs false
set_option linter.unusedVariables false
namespace Go.Proofs.Ytlleebgkglbelaa
open Go.RowKit

def badC (x : It) : Bool := !codeS x.c
def badD (x : It) : Bool := decide (x.d < 0) || decide (x.d > 9)
/-- what a function value over items gives -/
def ItFn (g : Nat) (p : It → Bool) : Prop := ∀ (x : It), x.c.size ≤ 9223372036854775807 → ∀ (w : World), Calls Try.prog g #[x.val] w fun e w' => e = .returned (.bool (p x)) ∧ Below w.heap.size w w'
set_option maxHeartbeats 1000000 in
set_option maxRecDepth 100000 in
theorem badC_any : ItFn 53 badC := by
  intro x hs w
  have HC := Lib.hid (fun W => code_any x.c hs W)
  have HB := Lib.hid (show Below w.heap.size w (w.alloc (.cells #[.string x.c, .int .i64 x.d, .bool x.r, .bool x.v, .bool x.j] 29)) from (by repeat (first | with_reducible exact Below.refl _ _ | (with_reducible refine Below.setCell ?_ (by first | exact Nat.le_refl _ | omega | (simp; done) | (simp; omega)) _) | (with_reducible refine Below.alloc ?_ (by first | exact Nat.le_refl _ | omega | (simp; done) | (simp; omega)) _) | with_reducible refine Below.drew ?_ | with_reducible refine bel_drewN ?_ _ | (with_reducible refine bel_by (by with_reducible assumption) (by first | exact Nat.le_refl _ | omega | (simp; done) | (simp; omega)) ?_))))
  have HI := Lib.hid (it_new w x 29)
  unfold badC It.val
  obtain ⟨c, d, r, v, j⟩ := x
  simp only at HC HB HI ⊢
  go_enter Try.func53, Try.ntmps53
  go_wp2_with fail
  obtain ⟨z0, z1, z2, z3, z4, zf, zl⟩ := HI.out
  go_wp2_with fail
  refine (HC.out _).mono ?_
  rintro e w1 ⟨rfl, rfl⟩
  go_wp2_with fail
  go_ret
  exact ⟨rfl, HB.out⟩
set_option maxHeartbeats 1000000 in
set_option maxRecDepth 100000 in
theorem badD_any : ItFn 55 badD := by
  intro x hs w
  have HB := Lib.hid (show Below w.heap.size w (w.alloc (.cells #[.string x.c, .int .i64 x.d, .bool x.r, .bool x.v, .bool x.j] 29)) from (by repeat (first | with_reducible exact Below.refl _ _ | (with_reducible refine Below.setCell ?_ (by first | exact Nat.le_refl _ | omega | (simp; done) | (simp; omega)) _) | (with_reducible refine Below.alloc ?_ (by first | exact Nat.le_refl _ | omega | (simp; done) | (simp; omega)) _) | with_reducible refine Below.drew ?_ | with_reducible refine bel_drewN ?_ _ | (with_reducible refine bel_by (by with_reducible assumption) (by first | exact Nat.le_refl _ | omega | (simp; done) | (simp; omega)) ?_))))
  have HI := Lib.hid (it_new w x 29)
  unfold badD It.val
  obtain ⟨c, d, r, v, j⟩ := x
  simp only at HB HI ⊢
  by_cases h1 : d < 0
  · have k1 : decide (d < 0) = true := decide_eq_true h1
    go_enter Try.func55, Try.ntmps55
    go_wp2_with fail
    obtain ⟨z0, z1, z2, z3, z4, zf, zl⟩ := HI.out
    go_wp2_with fail
    go_ret
    exact ⟨ret_bool (by first | rfl | (rw [k1]; rfl)), HB.out⟩
  · have k1 : decide (d < 0) = false := decide_eq_false h1
    by_cases h2 : d > 9
    · have k2 : decide (d > 9) = true := decide_eq_true h2
      go_enter Try.func55, Try.ntmps55
      go_wp2_with fail
      obtain ⟨z0, z1, z2, z3, z4, zf, zl⟩ := HI.out
      go_wp2_with fail
      go_ret
      exact ⟨ret_bool (by first | rfl | (rw [k1, k2]; rfl)), HB.out⟩
    · have k2 : decide (d > 9) = false := decide_eq_false h2
      go_enter Try.func55, Try.ntmps55
      go_wp2_with fail
      obtain ⟨z0, z1, z2, z3, z4, zf, zl⟩ := HI.out
      go_wp2_with fail
      go_ret
      exact ⟨ret_bool (by first | rfl | (rw [k1, k2]; rfl)), HB.out⟩
theorem any_get {p : It → Bool} {L : List It} {k : Nat} (h : k < L.length) (hp : p (L[k]'h) = true) : L.any p = true := List.any_eq_true.2 ⟨_, List.getElem_mem h, hp⟩
theorem any_no {p : It → Bool} {L : List It} (h : ∀ (k : Nat) (h : k < L.length), p (L[k]'h) = false) : L.any p = false := by
  rw [List.any_eq_false]
  intro x hx
  obtain ⟨k, hk, rfl⟩ := List.mem_iff_getElem.1 hx
  simp [h k hk]
/-- codes that a machine can hold -/
def fitC (L : List It) : Prop := ∀ (k : Nat) (h : k < L.length), (L[k]'h).c.size ≤ 9223372036854775807
set_option maxHeartbeats 1000000 in
set_option maxRecDepth 100000 in
theorem index_any (g : Nat) (p : It → Bool) (hg : ItFn g p) (eg : ∀ args w, (callFunc g args).run Try.prog w = .ok (.enter g args) w) {w : World} {a : Option Addr} {b off len cap : Nat} {L : List It} (h : SlX w a b off len cap L) (hf : fitC L) :
    Calls Try.prog 68 #[.slice a len cap, .func (.func g) #[] #[]] w fun e w' => (∃ r : Int, e = .returned (.int .i64 r) ∧ decide (r ≥ 0) = L.any p) ∧ Below w.heap.size w w' := by
  have hl0 := h.hl
  have hcap := h.hcap
  have hmax := h.hmax
  unfold maxLen at hmax
  have hle : len ≤ 9223372036854775807 := by omega
  have HS := Lib.hid h
  have HG := Lib.hid hg
  have HF := Lib.hid hf
  clear hg h hf hcap hmax
  go_enter Try.func68, Try.ntmps68
  go_wp2_with fail
  go_loopw [8] (fun s8 wr => ∃ k : Nat, k ≤ len ∧ s8 = .int .i64 (k : Int) ∧ Hid (Below w.heap.size w wr) ∧ Hid (∀ (i : Nat) (h : i < L.length), i < k → p (L[i]'h) = false)) (fun s8 _ => (len - (intOf s8)).toNat)
  case atStart => exact ⟨0, Nat.zero_le _, rfl, Lib.hid (Below.refl _ _), Lib.hid (fun i _ h => absurd h (Nat.not_lt_zero i))⟩
  case round =>
    obtain ⟨k, hk, rfl, HB, HK⟩ := hrel
    by_cases hlt : k < len
    · have hl : (k : Int) < (len : Int) := by omega
      have hkL : k < L.length := by omega
      have S := HS.out.keep HB.out
      obtain rfl := S.ha (by omega)
      have sb := S.hb (by omega)
      have c0 := S.c0 k hkL
      have c1 := S.c1 k hkL
      have c2 := S.c2 k hkL
      have c3 := S.c3 k hkL
      have c4 := S.c4 k hkL
      clear S
      have HX := Lib.hid (HG.out (L[k]'hkL) (HF.out k hkL))
      obtain ⟨x, hx⟩ : ∃ x, L[k]'hkL = x := ⟨_, rfl⟩
      rw [hx] at c0 c1 c2 c3 c4 HX
      have HXE := Lib.hid hx
      clear hx
      unfold It.val at HX
      cases hp : p x with
      | true =>
        rw [hp] at HX
        have HP := Lib.hid hp
        clear hp
        go_wp2_with fail
        refine (HX.out _).mono ?_
        rintro e w1 ⟨rfl, hb1⟩
        have HB1 := Lib.hid (HB.out.trans (Below.mono hb1 HB.out.size))
        clear hb1
        go_wp2_with fail
        go_ret
        refine ⟨⟨(k : Int), rfl, ?_⟩, HB1.out⟩
        rw [any_get (p := p) hkL (by rw [HXE.out, HP.out])]
        exact decide_eq_true (by omega)
      | false =>
        rw [hp] at HX
        have HP := Lib.hid hp
        clear hp
        go_wp2_with fail
        refine (HX.out _).mono ?_
        rintro e w1 ⟨rfl, hb1⟩
        have HB1 := Lib.hid (HB.out.trans (Below.mono hb1 HB.out.size))
        clear hb1
        go_wp2_with fail
        have hbw := HB1.out
        go_roundw
        case rel =>
          refine ⟨k + 1, by omega, by go_num, Lib.hid (by repeat (first | with_reducible exact Below.refl _ _ | (with_reducible refine Below.setCell ?_ (by first | exact Nat.le_refl _ | omega | (simp; done) | (simp; omega)) _) | (with_reducible refine Below.alloc ?_ (by first | exact Nat.le_refl _ | omega | (simp; done) | (simp; omega)) _) | with_reducible refine Below.drew ?_ | with_reducible refine bel_drewN ?_ _ | (with_reducible refine bel_by (by with_reducible assumption) (by first | exact Nat.le_refl _ | omega | (simp; done) | (simp; omega)) ?_))), Lib.hid (fun i h hi => ?_)⟩
          by_cases e : i = k
          · subst e; rw [HXE.out, HP.out]
          · exact HK.out i h (by omega)
        case measure => simp [intOf]; omega
    · obtain rfl : k = len := by omega
      have hl : ¬ (k : Int) < (k : Int) := by omega
      go_wp2_with fail
      go_ret
      refine ⟨⟨-1, rfl, ?_⟩, HB.out⟩
      rw [any_no (p := p) (fun i hi => HK.out i hi (by omega))]
      rfl
set_option maxHeartbeats 1000000 in
set_option maxRecDepth 100000 in
theorem contains_any (g : Nat) (p : It → Bool) (hg : ItFn g p) (eg : ∀ args w, (callFunc g args).run Try.prog w = .ok (.enter g args) w) {w : World} {a : Option Addr} {b off len cap : Nat} {L : List It} (h : SlX w a b off len cap L) (hf : fitC L) :
    Calls Try.prog 52 #[.slice a len cap, .func (.func g) #[] #[]] w fun e w' => e = .returned (.bool (L.any p)) ∧ Below w.heap.size w w' := by
  have HI := Lib.hid (index_any g p hg eg h hf)
  clear hg h hf
  generalize L.any p = q at *
  go_enter Try.func52, Try.ntmps52
  go_wp2_with fail
  refine HI.out.mono ?_
  rintro e w1 ⟨⟨r, rfl, hr⟩, hb1⟩
  cases q with
  | true =>
    go_wp2_with fail
    go_ret
    exact ⟨by first | rfl | (rw [hr]), hb1⟩
  | false =>
    go_wp2_with fail
    go_ret
    exact ⟨by first | rfl | (rw [hr]), hb1⟩
end Go.Proofs.Ytlleebgkglbelaa
