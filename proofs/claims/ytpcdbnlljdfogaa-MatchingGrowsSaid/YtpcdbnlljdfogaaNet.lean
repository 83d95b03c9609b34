/- Networks: the plain search, and where a network lies. -/
import Derived.Test.YtpcdbnlljdfogaaRpt
set_option linter.unusedSimpArgs false
set_option linter.unusedVariables false
namespace Go.Proofs.Ytpcdbnlljdfogaa
open Go.RowKit

/-- one arc of a search: the notes and the queue -/
def arcS (H R : List Int) (st : List Int × List Int) (arc : Int) : List Int × List Int :=
  if atI R arc > 0 ∧ atI st.1 (atI H arc) = -1 then (st.1.set (atI H arc).toNat arc, st.2 ++ [atI H arc]) else st
def bfs (H R : List Int) (A : List (List Int)) : Nat → Nat → List Int × List Int → List Int
  | 0, _, st => st.1
  | f + 1, i, st => if i < st.2.length then bfs H R A f (i + 1) ((A.getD (st.2.getD i 0).toNat []).foldl (arcS H R) st) else st.1
def start (n : Nat) (v : Int) : List Int × List Int := ((List.replicate n (-1)).set v.toNat (-2), [v])
def srch (H R : List Int) (A : List (List Int)) (v : Int) : List Int := bfs H R A (A.length + 1) 0 (start A.length v)
/-- as many are noted as stand in the queue -/
structure BInv (n : Nat) (H : List Int) (st : List Int × List Int) : Prop where
  len : st.1.length = n
  cnt : st.2.length + st.1.count (-1) = n
  q : ∀ x ∈ st.2, 0 ≤ x ∧ x < (n : Int)
  b : ∀ x ∈ st.1, -2 ≤ x ∧ x < (H.length : Int)
theorem cnt_set {L : List Int} {k : Nat} (hk : k < L.length) (h1 : L[k]'hk = -1) {x : Int} (hx : x ≠ -1) : (L.set k x).count (-1) + 1 = L.count (-1) := by
  have h := List.count_set (a := x) (b := -1) (l := L) hk
  have hp : 0 < L.count (-1) := List.count_pos_iff.2 (h1 ▸ List.getElem_mem hk)
  rw [h, h1]
  simp [hx]
  omega
theorem binv_start {n : Nat} {H : List Int} {v : Int} (h0 : 0 ≤ v) (h1 : v < (n : Int)) : BInv n H (start n v) := by
  unfold start
  have hk : v.toNat < (List.replicate n (-1 : Int)).length := by simp; omega
  refine ⟨by simp, ?_, ?_, ?_⟩
  · have := cnt_set hk (by simp) (x := -2) (by decide)
    simp only [List.count_replicate] at this
    simp at this ⊢
    omega
  · intro x hx; simp at hx; subst hx; exact ⟨h0, h1⟩
  · intro x hx
    rcases List.mem_or_eq_of_mem_set hx with hx | rfl
    · have := List.eq_of_mem_replicate hx; subst this; constructor <;> omega
    · constructor <;> omega
theorem binv_arc {n : Nat} {H R : List Int} {st : List Int × List Int} (h : BInv n H st) {arc : Int} (ha : 0 ≤ arc ∧ arc < (H.length : Int)) (hH : ∀ x ∈ H, 0 ≤ x ∧ x < (n : Int)) : BInv n H (arcS H R st arc) := by
  unfold arcS
  split
  · rename_i hc
    have hal : arc.toNat < H.length := by omega
    have hv := hH _ (List.getElem_mem hal)
    rw [← atI_eq hal] at hv
    have hk : (atI H arc).toNat < st.1.length := by rw [h.len]; omega
    have h1 : st.1[(atI H arc).toNat]'hk = -1 := by rw [← atI_eq hk]; exact hc.2
    refine ⟨by simpa using h.len, ?_, ?_, ?_⟩
    · have := cnt_set hk h1 (x := arc) (by omega)
      have := h.cnt
      simp
      omega
    · intro x hx
      rw [List.mem_append, List.mem_singleton] at hx
      rcases hx with hx | rfl
      · exact h.q x hx
      · exact hv
    · intro x hx
      rcases List.mem_or_eq_of_mem_set hx with hx | rfl
      · exact h.b x hx
      · omega
  · exact h
/-- the arcs of a vertex, and where they lie -/
structure Ar where
  L : List Int
  a : Option Addr
  b : Nat
  o : Nat
  c : Nat
def Ar.val (r : Ar) : Value := .slice r.a r.L.length r.c
structure Nt where
  s : Int
  t : Int
  H : List Int
  R : List Int
  A : List Ar
  aH : Option Addr
  bH : Nat
  oH : Nat
  cH : Nat
  aR : Option Addr
  bR : Nat
  oR : Nat
  cR : Nat
  bA : Nat
  oA : Nat
  cA : Nat
def Nt.arcs (N : Nt) : List (List Int) := N.A.map Ar.L
structure NtAt (w : World) (nb : Nat) (N : Nt) : Prop where
  c0 : w.cell? ⟨nb, 0, none⟩ = some (.int .i64 N.s)
  c1 : w.cell? ⟨nb, 1, none⟩ = some (.int .i64 N.t)
  c2 : w.cell? ⟨nb, 2, none⟩ = some (.slice N.aH N.H.length N.cH)
  c3 : w.cell? ⟨nb, 3, none⟩ = some (.slice N.aR N.R.length N.cR)
  c4 : w.cell? ⟨nb, 4, none⟩ = some (.slice (some ⟨N.bA, N.oA, none⟩) N.A.length N.cA)
  lt : nb < w.heap.size
  h : SlI w N.aH N.bH N.oH N.H.length N.cH N.H
  r : SlI w N.aR N.bR N.oR N.R.length N.cR N.R
  al : N.bA < w.heap.size
  ac : N.A.length ≤ N.cA ∧ N.cA ≤ maxLen
  at_ : ∀ (k : Nat) (hk : k < N.A.length), w.cell? ⟨N.bA, N.oA + k, none⟩ = some (N.A[k]'hk).val
  i : ∀ r ∈ N.A, SlI w r.a r.b r.o r.L.length r.c r.L
theorem NtAt.keep {w w' : World} {nb : Nat} {N : Nt} (h : NtAt w nb N) (hB : Below w.heap.size w w') : NtAt w' nb N where
  c0 := (hB.cell (p := ⟨nb, 0, none⟩) h.lt).trans h.c0
  c1 := (hB.cell (p := ⟨nb, 1, none⟩) h.lt).trans h.c1
  c2 := (hB.cell (p := ⟨nb, 2, none⟩) h.lt).trans h.c2
  c3 := (hB.cell (p := ⟨nb, 3, none⟩) h.lt).trans h.c3
  c4 := (hB.cell (p := ⟨nb, 4, none⟩) h.lt).trans h.c4
  lt := Nat.lt_of_lt_of_le h.lt hB.size
  h := h.h.keep hB
  r := h.r.keep hB
  al := Nat.lt_of_lt_of_le h.al hB.size
  ac := h.ac
  at_ := fun k hk => (hB.cell (p := ⟨N.bA, N.oA + k, none⟩) h.al).trans (h.at_ k hk)
  i := fun r hr => (h.i r hr).keep hB
structure NtWf (N : Nt) : Prop where
  hr : N.H.length = N.R.length
  hs : N.H.length ≤ 10000
  asz : N.A.length ≤ 1000 ∧ 0 < N.A.length
  hv : ∀ x ∈ N.H, 0 ≤ x ∧ x < (N.A.length : Int)
  av : ∀ r ∈ N.A, ∀ x ∈ r.L, 0 ≤ x ∧ x < (N.H.length : Int)
  rv : ∀ x ∈ N.R, 0 ≤ x ∧ x ≤ 1000000
end Go.Proofs.Ytpcdbnlljdfogaa
