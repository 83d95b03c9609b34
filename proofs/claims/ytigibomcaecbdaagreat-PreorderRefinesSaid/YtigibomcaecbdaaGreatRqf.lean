/- The reference of rankings: Compare and Ahead. -/
import Derived.Test.YtigibomcaecbdaaGreatRqk
import Derived.Test.YtigibomcaecbdaaGreatCpr
import Derived.Test.YtigibomcaecbdaaGreatPla
set_option linter.unusedSimpArgs false
set_option linter.unusedVariables false
namespace Go.Proofs.YtigibomcaecbdaaGreat
open Go.RowKit Go.Sort

set_option maxHeartbeats 2000000 in
set_option maxRecDepth 100000 in
theorem rcompare_any {a a' : Option Addr} {b b' off off' len len' cap cap' : Nat} {A B : List (Int × Int)} {w : World} (hA : SlF w a b off len cap A) (hB : SlF w a' b' off' len' cap' B) :
    Calls Tryz.prog 16 #[.slice a len cap, .slice a' len' cap'] w fun e w' => e = .returned (.tuple #[.int .i64 (rowC A B), .int .i64 (rowI A B)]) ∧ Below w.heap.size w w' := by
  have HA := Lib.hid hA
  have HB := Lib.hid hB
  have c1 := hA.hcap
  have c2 := hB.hcap
  have m1 := hA.hmax
  have m2 := hB.hmax
  unfold maxLen at m1 m2
  clear hA hB
  go_enter Tryz.func16, Tryz.ntmps16
  go_wp2_with fail
  go_loopw [6, 7] (fun s6 s7 wr => ∃ (k : Nat) (x : Value), k ≤ len ∧ k ≤ len' ∧ s6 = .int .i64 (k : Int) ∧ s7 = x ∧ Hid (Below w.heap.size w wr) ∧ Hid (∀ (j : Nat) (h1 : j < A.length) (h2 : j < B.length), j < k → cmpF (A[j]'h1) (B[j]'h2) = 0)) (fun s6 _ _ => (len - (intOf s6)).toNat)
  case atStart => exact ⟨0, _, Nat.zero_le _, Nat.zero_le _, rfl, rfl, Lib.hid (Below.refl _ _), Lib.hid (fun j _ _ h => absurd h (Nat.not_lt_zero j))⟩
  case round =>
    obtain ⟨k, x, hk, hk', rfl, hx7, HG, HZ⟩ := hrel
    replace hx7 := hx7.symm
    subst hx7
    by_cases hlt : k < len ∧ k < len'
    · obtain ⟨t1, t2⟩ := hlt
      have l2 : (k : Int) < (len : Int) := by omega
      have l3 : (k : Int) < (len' : Int) := by omega
      obtain rfl := HA.out.ha (by omega)
      obtain rfl := HB.out.ha (by omega)
      have hkA : k < A.length := by rw [HA.out.hl]; omega
      have hkB : k < B.length := by rw [HB.out.hl]; omega
      obtain ⟨x1, x2⟩ := (HA.out.keep HG.out).cell k hkA
      obtain ⟨y1, y2⟩ := (HB.out.keep HG.out).cell k hkB
      have bA := (HA.out.keep HG.out).hb (by omega)
      have bB := (HB.out.keep HG.out).hb (by omega)
      have wA := HA.out.wf _ (List.getElem_mem hkA)
      have wB := HB.out.wf _ (List.getElem_mem hkB)
      have HN := Lib.hid (fun (c : Int) (hc : cmpF (A[k]'hkA) (B[k]'hkB) = c) (hn : c ≠ 0) => rowI_at hkA hkB HZ.out hc hn)
      have HE := Lib.hid (fun (hc : cmpF (A[k]'hkA) (B[k]'hkB) = 0) => (fun (j : Nat) (h1 : j < A.length) (h2 : j < B.length) (hj : j < k + 1) => by
        by_cases e : j = k
        · subst e; exact hc
        · exact HZ.out j h1 h2 (by omega) : ∀ (j : Nat) (h1 : j < A.length) (h2 : j < B.length), j < k + 1 → cmpF (A[j]'h1) (B[j]'h2) = 0))
      obtain ⟨p, hp⟩ : ∃ p, A[k]'hkA = p := ⟨_, rfl⟩
      obtain ⟨q, hq⟩ : ∃ q, B[k]'hkB = q := ⟨_, rfl⟩
      rw [hp] at x1 x2 wA HN HE
      rw [hq] at y1 y2 wB HN HE
      clear hp hq HZ
      obtain ⟨pn, pd⟩ := p
      obtain ⟨qn, qd⟩ := q
      simp only at x1 x2 y1 y2
      have C := fun W => rcmp_any pn pd qn qd wA wB W
      rw [show cmpS pn pd qn qd = cmpF (pn, pd) (qn, qd) from rfl] at C
      obtain ⟨c, hc⟩ : ∃ c, cmpF (pn, pd) (qn, qd) = c := ⟨_, rfl⟩
      rw [hc] at C HN HE
      have HC := Lib.hid C
      clear C wA wB hkA hkB hc t1 t2
      have hd : decide ((k : Int) < (len' : Int)) = true := decide_eq_true l3
      by_cases h0 : c = 0
      · subst h0
        replace HE := Lib.hid (HE.out rfl)
        go_wp2_with fail
        go_region_held3 (fun w' => w'.cell? ⟨b, off + k * 2, none⟩ = some (.int .i64 pn) ∧ w'.cell? ⟨b, off + k * 2 + 1, none⟩ = some (.int .i64 pd) ∧ w'.cell? ⟨b', off' + k * 2, none⟩ = some (.int .i64 qn) ∧ w'.cell? ⟨b', off' + k * 2 + 1, none⟩ = some (.int .i64 qd))
          ((first | exact ⟨x1, x2, y1, y2⟩ | exact z))
          ((first | (go_at_call 41; refine (HC.out _).mono ?_; rintro e w3 ⟨rfl, hb⟩; (try (with_reducible replace hb := undrew hb)); have z := And.intro ((hb.cell (p := ⟨b, off + k * 2, none⟩) bA).trans x1) (And.intro ((hb.cell (p := ⟨b, off + k * 2 + 1, none⟩) bA).trans x2) (And.intro ((hb.cell (p := ⟨b', off' + k * 2, none⟩) bB).trans y1) ((hb.cell (p := ⟨b', off' + k * 2 + 1, none⟩) bB).trans y2))))))
        have HB3 := Lib.hid (HG.out.trans (hb.mono HG.out.size))
        clear z hb HG x1 x2 y1 y2 HC HN
        go_wp2_with fail
        go_roundw
        case rel => exact ⟨k + 1, _, by omega, by omega, by go_num, rfl, HB3, HE⟩
        case measure => simp [intOf]; omega
      · have k0 : (c != 0) = true := by simpa using h0
        have k1 : (c == 0) = false := by simpa using h0
        have H0 := Lib.hid (HN.out c rfl h0)
        clear h0
        go_wp2_with fail
        go_region_held3 (fun w' => w'.cell? ⟨b, off + k * 2, none⟩ = some (.int .i64 pn) ∧ w'.cell? ⟨b, off + k * 2 + 1, none⟩ = some (.int .i64 pd) ∧ w'.cell? ⟨b', off' + k * 2, none⟩ = some (.int .i64 qn) ∧ w'.cell? ⟨b', off' + k * 2 + 1, none⟩ = some (.int .i64 qd))
          ((first | exact ⟨x1, x2, y1, y2⟩ | exact z))
          ((first | (go_at_call 41; refine (HC.out _).mono ?_; rintro e w3 ⟨rfl, hb⟩; (try (with_reducible replace hb := undrew hb)); have z := And.intro ((hb.cell (p := ⟨b, off + k * 2, none⟩) bA).trans x1) (And.intro ((hb.cell (p := ⟨b, off + k * 2 + 1, none⟩) bA).trans x2) (And.intro ((hb.cell (p := ⟨b', off' + k * 2, none⟩) bB).trans y1) ((hb.cell (p := ⟨b', off' + k * 2 + 1, none⟩) bB).trans y2))))))
        have HB3 := Lib.hid (HG.out.trans (hb.mono HG.out.size))
        clear z hb HG x1 x2 y1 y2 HC HN HE
        go_wp2_with fail
        go_ret2
        exact ⟨by rw [H0.out.1, H0.out.2]; rfl, HB3.out⟩
    · have e1 : rowC A B = 0 := rowC_stop HZ.out (by rw [HA.out.hl, HB.out.hl]; omega)
      have H1 := Lib.hid (show rowC A B = 0 ∧ rowI A B = -1 from ⟨e1, rowI_none e1⟩)
      clear e1 HZ
      by_cases h1 : k < len
      · have l1 : (k : Int) < (len : Int) := by omega
        have l2 : ¬ (k : Int) < (len' : Int) := by omega
        have hd : decide ((k : Int) < (len' : Int)) = false := decide_eq_false l2
        clear hlt
        go_wp2_with fail
        go_ret2
        exact ⟨by rw [H1.out.1, H1.out.2]; rfl, HG.out⟩
      · have l1 : ¬ (k : Int) < (len : Int) := by omega
        have hd : decide ((k : Int) < (len : Int)) = false := decide_eq_false l1
        clear hlt
        go_wp2_with fail
        go_ret2
        exact ⟨by rw [H1.out.1, H1.out.2]; rfl, HG.out⟩
set_option maxHeartbeats 2000000 in
set_option maxRecDepth 100000 in
theorem rahead_any {a : Option Addr} {b off len cap : Nat} {M : List Rw} {w : World} (h : SlR w a b off len cap M) {i k : Nat} (hi : i < len) (hk : k < len) :
    Calls Tryz.prog 50 #[.slice a len cap, .int .i64 (i : Int), .int .i64 (k : Int)] w fun e w' => e = .returned (.bool (decide (ahC ((crit M).getD i []) ((crit M).getD k []) < 0))) ∧ Below w.heap.size w w' := by
  have hl := h.sl.hl
  have hcap := h.sl.hcap
  have hmax := h.sl.hmax
  unfold maxLen at hmax
  have hiM : i < M.length := by omega
  have hkM : k < M.length := by omega
  obtain rfl := h.sl.ha (by omega)
  have x1 := h.sl.cell i hiM
  have x2 := h.sl.cell k hkM
  have bA := h.sl.hb (by omega)
  have C := fun (W : World) (hB : Below w.heap.size w W) => rcompare_any ((h.rows _ (List.getElem_mem hiM)).keep hB).1 ((h.rows _ (List.getElem_mem hkM)).keep hB).1
  have ev : decide (ahC ((crit M).getD i []) ((crit M).getD k []) < 0) = decide (rowC (M[i]'hiM).L (M[k]'hkM).L > 0) := by
    have e1 : (crit M).getD i [] = (M[i]'hiM).L := by unfold crit; simp [List.getD, hiM]
    have e2 : (crit M).getD k [] = (M[k]'hkM).L := by unfold crit; simp [List.getD, hkM]
    rw [e1, e2]
    unfold ahC
    rw [rowC_turn, decide_eq_decide]
    omega
  rw [ev]
  unfold Rw.val at x1 x2
  generalize rowC (M[i]'hiM).L (M[k]'hkM).L = c at *
  generalize rowI (M[i]'hiM).L (M[k]'hkM).L = ci at *
  generalize (M[i]'hiM).L.length = n1 at *
  generalize (M[k]'hkM).L.length = n2 at *
  generalize (M[i]'hiM).a = a1 at *
  generalize (M[k]'hkM).a = a2 at *
  generalize (M[i]'hiM).cap = d1 at *
  generalize (M[k]'hkM).cap = d2 at *
  have HC := Lib.hid C
  have l1 : (i : Int) < (len : Int) := by omega
  have l2 : (k : Int) < (len : Int) := by omega
  clear C h ev hiM hkM
  go_enter Tryz.func50, Tryz.ntmps50
  go_wp2_with fail
  go_region_held3 (fun w' => w'.cell? ⟨b, off + i, none⟩ = some (.slice a1 n1 d1) ∧ w'.cell? ⟨b, off + k, none⟩ = some (.slice a2 n2 d2))
    ((first | exact ⟨x1, x2⟩ | exact z))
    ((first | (go_at_call 16; refine (HC.out _ (by repeat (first | with_reducible exact Below.refl _ _ | (with_reducible refine Below.setCell ?_ (by first | exact Nat.le_refl _ | omega | (simp; done) | (simp; omega)) _) | (with_reducible refine Below.alloc ?_ (by first | exact Nat.le_refl _ | omega | (simp; done) | (simp; omega)) _) | with_reducible refine Below.drew ?_ | with_reducible refine bel_drewN ?_ _ | (with_reducible refine bel_by (by with_reducible assumption) (by first | exact Nat.le_refl _ | omega | (simp; done) | (simp; omega)) ?_)))).mono ?_; rintro e w3 ⟨rfl, hb⟩; (try (with_reducible replace hb := undrew hb)); have z := And.intro ((hb.cell (p := ⟨b, off + i, none⟩) bA).trans x1) ((hb.cell (p := ⟨b, off + k, none⟩) bA).trans x2))))
  have HB3 := Lib.hid hb
  clear z hb x1 x2 HC
  go_wp2_with fail
  go_ret
  exact ⟨rfl, HB3.out⟩
end Go.Proofs.YtigibomcaecbdaaGreat
