/- Chains put together: plain; which chain is empty. -/
import Derived.Test.YtccglojnjakbfaaChs
import Derived.Test.YtccglojnjakbfaaChx
set_option linter.unusedSimpArgs false
set_option linter.unusedVariables false
namespace Go.Proofs.Ytccglojnjakbfaa
open Go.RowKit

/-- the items of a chain of n, from the i-th on, with their signs -/
def jnK (n : Nat) : Nat → List It → List It
  | _, [] => []
  | i, x :: t => ⟨x.c, x.d, x.r, x.v, decide (i + 1 < n)⟩ :: jnK n (i + 1) t
def jn (L : List It) : List It := jnK L.length 0 L
def mgL : List Lx → List It
  | [] => []
  | r :: t => jn r.L ++ mgL t
theorem jnK_len (n : Nat) : ∀ (l : List It) (i : Nat), (jnK n i l).length = l.length
  | [], _ => rfl
  | x :: t, i => by rw [jnK, List.length_cons, List.length_cons, jnK_len n t]
theorem jnK_cut {n : Nat} {L : List It} {i : Nat} (h : i < L.length) : jnK n i (L.drop i) = ⟨(L[i]'h).c, (L[i]'h).d, (L[i]'h).r, (L[i]'h).v, decide (i + 1 < n)⟩ :: jnK n (i + 1) (L.drop (i + 1)) := by
  rw [List.drop_eq_getElem_cons h, jnK]
theorem mgL_cut {M : List Lx} {k : Nat} (h : k < M.length) : mgL (M.drop k) = jn (M[k]'h).L ++ mgL (M.drop (k + 1)) := by
  rw [List.drop_eq_getElem_cons h, mgL]
theorem jnK_fit (n : Nat) : ∀ (l : List It) (i : Nat), (∀ x ∈ l, x.c.size ≤ 9223372036854775807) → ∀ y ∈ jnK n i l, y.c.size ≤ 9223372036854775807
  | [], _, _, y, hy => by simp [jnK] at hy
  | x :: t, i, h, y, hy => by
    rw [jnK] at hy
    rcases List.mem_cons.1 hy with rfl | hy
    · exact h x (by simp)
    · exact jnK_fit n t (i + 1) (fun z hz => h z (by simp [hz])) y hy
theorem mgL_fit : ∀ (M : List Lx), (∀ r ∈ M, fitC r.L) → fitC (mgL M) := by
  intro M h
  have : ∀ y ∈ mgL M, y.c.size ≤ 9223372036854775807 := by
    induction M with
    | nil => intro y hy; simp [mgL] at hy
    | cons r t ih =>
      intro y hy
      rw [mgL, List.mem_append] at hy
      rcases hy with hy | hy
      · refine jnK_fit _ _ _ (fun x hx => ?_) y hy
        obtain ⟨k, hk, rfl⟩ := List.mem_iff_getElem.1 hx
        exact h r (by simp) k hk
      · exact ih (fun r' hr' => h r' (by simp [hr'])) y hy
  intro k hk
  exact this _ (List.getElem_mem hk)
def emB (r : Lx) : Bool := decide (r.L.length = 0)
/-- the error of Merge -/
def mgE (M : List Lx) : Int := if M.any emB = true then 1 else errE (mgL M)
set_option maxHeartbeats 1000000 in
theorem emB_any (r : Lx) (w : World) : Calls Try.prog 35 #[r.val] w fun e w' => e = .returned (.bool (emB r)) ∧ w = w' := by
  obtain ⟨ra, rb, ro, rc, rL⟩ := r
  unfold emB Lx.val
  simp only
  by_cases h : rL.length = 0
  · have k : ((rL.length : Int) == 0) = true := by rw [h]; rfl
    have HR := Lib.hid (decide_eq_true h)
    go_enter Try.func35, Try.ntmps35
    go_wp2
    go_ret
    exact ⟨by rw [HR.out]; rfl, rfl⟩
  · have k : ((rL.length : Int) == 0) = false := by simp; intro e; exact h (by rw [e]; rfl)
    have HR := Lib.hid (decide_eq_false h)
    go_enter Try.func35, Try.ntmps35
    go_wp2
    go_ret
    exact ⟨by rw [HR.out]; rfl, rfl⟩
theorem eg35 : ∀ args w, (callFunc 35 args).run Try.prog w = .ok (.enter 35 args) w := fun _ _ => by kernel_rfl
theorem anyM_get {M : List Lx} {k : Nat} (h : k < M.length) (hp : emB (M[k]'h) = true) : M.any emB = true := List.any_eq_true.2 ⟨_, List.getElem_mem h, hp⟩
theorem anyM_no {M : List Lx} (h : ∀ (k : Nat) (h : k < M.length), emB (M[k]'h) = false) : M.any emB = false := by
  rw [List.any_eq_false]
  intro x hx
  obtain ⟨k, hk, rfl⟩ := List.mem_iff_getElem.1 hx
  simp [h k hk]
set_option maxHeartbeats 1000000 in
set_option maxRecDepth 100000 in
theorem indexM_any {w : World} {a : Option Addr} {b off len cap : Nat} {M : List Lx} (h : SlM w a b off len cap M) :
    Calls Try.prog 47 #[.slice a len cap, .func (.func 35) #[] #[]] w fun e w' => (∃ r : Int, e = .returned (.int .i64 r) ∧ decide (r ≥ 0) = M.any emB) ∧ w = w' := by
  have hl0 := h.s.hl
  have hle : len ≤ 9223372036854775807 := by have := h.s.hcap; have := h.s.hmax; unfold maxLen at this; omega
  have HS := Lib.hid h.s
  have HG := Lib.hid emB_any
  have eg := eg35
  clear h
  go_enter Try.func47, Try.ntmps47
  go_wp2_with fail
  go_loop [8] (fun s8 => ∃ k : Nat, k ≤ len ∧ s8 = .int .i64 (k : Int) ∧ Hid (∀ (i : Nat) (h : i < M.length), i < k → emB (M[i]'h) = false)) (fun s8 => (len - (intOf s8)).toNat)
  case atStart => exact ⟨0, Nat.zero_le _, rfl, Lib.hid (fun i _ h => absurd h (Nat.not_lt_zero i))⟩
  case round =>
    obtain ⟨k, hk, rfl, HK⟩ := hrel
    by_cases hlt : k < len
    · have hl : (k : Int) < (len : Int) := by omega
      have hkL : k < M.length := by omega
      obtain rfl := HS.out.ha (by omega)
      have sb := HS.out.hb (by omega)
      have c0 := HS.out.cell k hkL
      have HX := Lib.hid (HG.out (M[k]'hkL))
      have HXE := Lib.hid (show emB (M[k]'hkL) = emB (M[k]'hkL) from rfl)
      obtain ⟨x, hx⟩ : ∃ x, M[k]'hkL = x := ⟨_, rfl⟩
      have HXX := Lib.hid hx
      rw [hx] at c0 HX
      obtain ⟨ra, rb, ro, rc, rL⟩ := x
      unfold Lx.val at c0 HX
      simp only at c0 HX
      clear hx
      cases hp : emB ⟨ra, rb, ro, rc, rL⟩ with
      | true =>
        rw [hp] at HX
        have HP := Lib.hid hp
        clear hp
        go_wp2_with fail
        refine (HX.out _).mono ?_
        rintro e w1 ⟨rfl, rfl⟩
        go_wp2_with fail
        go_ret
        refine ⟨⟨(k : Int), rfl, ?_⟩, rfl⟩
        rw [anyM_get hkL (by rw [HXX.out, HP.out])]
        exact decide_eq_true (by omega)
      | false =>
        rw [hp] at HX
        have HP := Lib.hid hp
        clear hp
        go_wp2_with fail
        refine (HX.out _).mono ?_
        rintro e w1 ⟨rfl, rfl⟩
        go_wp2_with fail
        go_round
        case rel =>
          refine ⟨k + 1, by omega, by go_num, Lib.hid (fun i h hi => ?_)⟩
          by_cases e : i = k
          · subst e; rw [HXX.out, HP.out]
          · exact HK.out i h (by omega)
        case measure => simp [intOf]; omega
    · obtain rfl : k = len := by omega
      have hl : ¬ (k : Int) < (k : Int) := by omega
      go_wp2_with fail
      go_ret
      refine ⟨⟨-1, rfl, ?_⟩, rfl⟩
      rw [anyM_no (fun i hi => HK.out i hi (by omega))]
      rfl
set_option maxHeartbeats 1000000 in
set_option maxRecDepth 100000 in
theorem containsM_any {w : World} {a : Option Addr} {b off len cap : Nat} {M : List Lx} (h : SlM w a b off len cap M) :
    Calls Try.prog 34 #[.slice a len cap, .func (.func 35) #[] #[]] w fun e w' => e = .returned (.bool (M.any emB)) ∧ w = w' := by
  have HI := Lib.hid (indexM_any h)
  clear h
  generalize M.any emB = q at *
  go_enter Try.func34, Try.ntmps34
  go_wp2_with fail
  refine HI.out.mono ?_
  rintro e w1 ⟨⟨r, rfl, hr⟩, rfl⟩
  cases q with
  | true =>
    go_wp2_with fail
    go_ret
    exact ⟨by first | rfl | (rw [hr]), rfl⟩
  | false =>
    go_wp2_with fail
    go_ret
    exact ⟨by first | rfl | (rw [hr]), rfl⟩
end Go.Proofs.Ytccglojnjakbfaa
