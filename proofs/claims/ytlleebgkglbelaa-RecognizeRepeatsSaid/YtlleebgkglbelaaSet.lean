/- Contracts of layer 20: Clone of items, Settle. -/
import Derived.Test.YtlleebgkglbelaaRev
import Derived.Lib.SliceRun
set_option linter.unusedSimpArgs false
set_option linter.unusedVariables false
namespace Go.Proofs.Ytlleebgkglbelaa
open Go.RowKit

theorem slx_flat {w : World} {b off len cap : Nat} {L : List It} {a : Option Addr} (h : SlX w a b off len cap L) : ∀ j u, (flatX L)[j]? = some u → w.cell? ((⟨b, off, none⟩ : Addr).add j) = some u := by
  intro j u hu
  have hj : j < (flatX L).length := by
    by_cases hh : j < (flatX L).length
    · exact hh
    · rw [List.getElem?_eq_none (by omega)] at hu; exact absurd hu (by simp)
  rw [flatX_len] at hj
  have hk : j / 5 < L.length := by omega
  obtain ⟨e0, e1, e2, e3, e4⟩ := flatX_get L (j / 5) hk
  have c0 := h.c0 _ hk
  have c1 := h.c1 _ hk
  have c2 := h.c2 _ hk
  have c3 := h.c3 _ hk
  have c4 := h.c4 _ hk
  rcases (show j % 5 = 0 ∨ j % 5 = 1 ∨ j % 5 = 2 ∨ j % 5 = 3 ∨ j % 5 = 4 by omega) with hm | hm | hm | hm | hm
  · rw [show j / 5 * 5 = j by omega] at e0 c0
    rw [hu] at e0
    rw [e0, Addr.add_lit]
    exact c0
  · rw [show j / 5 * 5 + 1 = j by omega] at e1
    rw [show off + j / 5 * 5 + 1 = off + j by omega] at c1
    rw [hu] at e1
    rw [e1, Addr.add_lit]
    exact c1
  · rw [show j / 5 * 5 + 2 = j by omega] at e2
    rw [show off + j / 5 * 5 + 2 = off + j by omega] at c2
    rw [hu] at e2
    rw [e2, Addr.add_lit]
    exact c2
  · rw [show j / 5 * 5 + 3 = j by omega] at e3
    rw [show off + j / 5 * 5 + 3 = off + j by omega] at c3
    rw [hu] at e3
    rw [e3, Addr.add_lit]
    exact c3
  · rw [show j / 5 * 5 + 4 = j by omega] at e4
    rw [show off + j / 5 * 5 + 4 = off + j by omega] at c4
    rw [hu] at e4
    rw [e4, Addr.add_lit]
    exact c4
/-- what Clone gives -/
def ClnPost (w : World) (L : List It) (e : Ending) (w' : World) : Prop :=
  ∃ b cv, e = .returned (.slice (some ⟨b, 0, none⟩) L.length cv) ∧ w'.ownsRow w.heap.size 29 5 (.slice (some ⟨b, 0, none⟩) L.length cv) L.length (flatX L) ∧ Below w.heap.size w w'
set_option maxHeartbeats 4000000 in
set_option maxRecDepth 100000 in
theorem clone_any {b off len cap : Nat} {L : List It} {w : World} (h : SlX w (some ⟨b, off, none⟩) b off len cap L) (h0 : 0 < len) (hl : len ≤ 1000000) :
    Calls Try.prog 38 #[.slice (some ⟨b, off, none⟩) len cap] w (ClnPost w L) := by
  have HS := Lib.hid h
  have hln := h.hl
  have hfl := flatX_len L
  have HL1 := Lib.hid (flatX_one L)
  obtain ⟨iz, hi, hz0, hz1, hz2⟩ := info_parts infoX
  have HO := Lib.hid (World.ownsRow_made (e := 29) (size := 5) (base := w.heap.size) w #[] 0 (Nat.le_refl _) (Nat.zero_le _) rfl)
  have HC := Lib.hid (slx_flat (h.keep ((Below.refl _ _).alloc (Nat.le_refl _) (.cells #[] 29))))
  have HB := Lib.hid ((Below.refl w.heap.size w).alloc (Nat.le_refl _) (.cells #[] 29))
  have hq := fun (w : World) (a : Option Addr) (n c n' c' : Nat) => Lib.run_eql_slice_nil (P := Try.prog) w 32 29 a n c n' c' Try.underlying32
  unfold ClnPost
  clear h
  go_enter Try.func38, Try.ntmps38
  go_wp2_with (at_builtin; go_loud (refine wpList_append_blk _ rfl _ _ 32 rfl w.heap.size 29 iz (.agg #[.string ⟨#[]⟩, .int .i64 0, .bool false, .bool false, .bool false]) 5 32 Try.underlying32 hi hz0 hz1 hz2 rfl (by decide) _ _ _ rfl HO.out ⟨b, off, none⟩ len cap (flatX L) rfl (by rw [hfl, hln]) HC.out HL1.out ?n2 ?n3 ?n4 h0 ?_))
  case n2 => unfold maxLen; omega
  case n3 => omega
  case n4 => simp
  intro v' w1 ho hg hbk
  have ho2 : w1.ownsRow w.heap.size 29 5 v' L.length (flatX L) := by
    rw [hln]
    simpa using ho
  have HO2 := Lib.hid ho2
  have HB1 := Lib.hid (HB.out.grown hg (by simp) (by intro k hk; simp [Value.ownBlock] at hk; omega))
  have hform : ∃ g cv, v' = .slice (some ⟨g, 0, none⟩) L.length cv := by
    rcases ho2.2 with ⟨rfl, hh⟩ | ⟨g, cv, cur, rfl, _⟩
    · omega
    · exact ⟨g, cv, rfl⟩
  obtain ⟨g, cv, rfl⟩ := hform
  clear ho ho2 hg hbk
  go_wp2_with fail
  go_ret
  exact ⟨g, cv, rfl, HO2.out, HB1.out⟩
theorem flatX_set : ∀ (L : List It) (i : Nat) (h : i < L.length) (d : Int) (r v : Bool), (((flatX L).set (i * 5 + 2) (.bool r)).set (i * 5 + 1) (.int .i64 d)).set (i * 5 + 3) (.bool v) = flatX (L.set i ⟨(L[i]'h).c, d, r, v, (L[i]'h).j⟩)
  | [], i, h, _, _, _ => by simp at h
  | p :: t, 0, _, d, r, v => rfl
  | p :: t, i + 1, h, d, r, v => by
    have ih := flatX_set t i (by simpa using h) d r v
    rw [show (i + 1) * 5 + 2 = i * 5 + 2 + 5 by omega, show (i + 1) * 5 + 1 = i * 5 + 1 + 5 by omega, show (i + 1) * 5 + 3 = i * 5 + 3 + 5 by omega]
    show encX p ++ ((((flatX t).set (i * 5 + 2) (.bool r)).set (i * 5 + 1) (.int .i64 d)).set (i * 5 + 3) (.bool v)) = encX p ++ flatX (t.set i ⟨(t[i]'(by simpa using h)).c, d, r, v, (t[i]'(by simpa using h)).j⟩)
    rw [ih]
/-- the item after the review -/
def setI (x : It) (st : Int) (v : Bool) : It := ⟨x.c, x.d + min st 10, false, x.v || v, x.j⟩
/-- the line after the review of an item, or the error -/
def setS (L : List It) (i st : Int) (v : Bool) : Int × List It :=
  if chkL L = 0 then
    if i < 0 ∨ i ≥ (L.length : Int) ∨ st < 0 then (1, []) else
    if (L.getD i.toNat It.zero).r = false then (7, []) else
    if chkL (L.set i.toNat (setI (L.getD i.toNat It.zero) st v)) = 0 then (0, L.set i.toNat (setI (L.getD i.toNat It.zero) st v)) else (chkL (L.set i.toNat (setI (L.getD i.toNat It.zero) st v)), [])
  else (chkL L, [])
/-- what Settle gives -/
def StlPost (w : World) (q : Int × List It) (n : Nat) (e : Ending) (w' : World) : Prop :=
  Below w.heap.size w w' ∧ ((q.1 ≠ 0 ∧ e = .returned (.tuple #[.slice none 0 0, .int .i64 q.1])) ∨ (q.1 = 0 ∧ ∃ b cv, e = .returned (.tuple #[.slice (some ⟨b, 0, none⟩) n cv, .int .i64 0]) ∧ SlX w' (some ⟨b, 0, none⟩) b 0 n cv q.2 ∧ w.heap.size ≤ b))
end Go.Proofs.Ytlleebgkglbelaa
