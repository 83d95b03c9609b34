/- Contracts of package encode: Data of a Writer: plain facts, and the copy out of a string. -/
import Derived.Test.YtljeialaefmbmaaDoorWriteC
import Derived.Lib.BufferWrite
set_option linter.unusedSimpArgs false
set_option linter.unusedVariables false
namespace Go.Proofs.YtljeialaefmbmaaDoor
open Go.RowKit

def joinR : List ByteArray → List UInt8
  | [] => []
  | t :: l => joinR l ++ t.data.toList
theorem joinR_len (l : List ByteArray) : (joinR l).length = sumLen l := by
  induction l with
  | nil => rfl
  | cons t l ih =>
    have e : sumLen (t :: l) = t.size + sumLen l := by simp [sumLen]
    rw [e, joinR, List.length_append, ih, ← Lib.size_eq]
    omega
def cellOf (c : UInt8) : Value := .int .u8 (c.toNat : Int)
theorem splice_mid {α : Type} {Z A B C cs : List α} {a N : Nat} (hZ : Z.take N = A ++ (B ++ C)) (hN : N ≤ Z.length) (hA : A.length = a) (hB : B.length = cs.length) : (splice Z a cs).take N = A ++ (cs ++ C) := by
  have e : Z = A ++ (B ++ (C ++ Z.drop N)) := by
    have := List.take_append_drop N Z
    rw [hZ] at this
    simpa using this.symm
  have hl : N = A.length + (B.length + C.length) := by
    have := congrArg List.length hZ
    rw [List.length_take, Nat.min_eq_left hN] at this
    simpa using this
  generalize Z.drop N = D at e
  subst e
  subst hA
  unfold splice
  rw [List.take_append_of_le_length (Nat.le_refl _), List.take_of_length_le (Nat.le_refl _), ← hB]
  have e2 : (A ++ (B ++ (C ++ D))).drop (A.length + B.length) = C ++ D := by
    rw [← List.append_assoc, List.drop_append_of_le_length (by simp), List.drop_of_length_le (by simp)]
    rfl
  rw [e2]
  have e3 : A ++ (cs ++ (C ++ D)) = (A ++ (cs ++ C)) ++ D := by simp
  rw [e3, List.take_append_of_le_length (by simp; omega), List.take_of_length_le (by simp; omega)]

/-- 'copy(dst, s)' out of a string, dst in a row that is known whole, as one step of a region that draws -/
theorem step_copy_rowstr {P : Program} {ops : Array Oper} {o : Oper} {a : Act} {w : World} {K : Act → World → Prop} {Q : Exit → Act → World → Prop} {E : Prop} (hgd : o.guard = none) (d s : Operand) (dT sT : TypeId)
    (ho : o.op = .call { callee := .builtin .copy, args := #[d, s], argTypes := #[dT, sT] }) (elem : TypeId) (hu : P.underlying dT = some (.slice elem)) (hsz : (P.info? elem).map (·.size) = some 1)
    (g off dLen dCap : Nat) (t : ByteArray) (hd : a.eval d = .slice (some ⟨g, off, none⟩) dLen dCap) (hs : a.eval s = .string t) (hle : t.size ≤ dLen)
    (cur : List Value) (ty : TypeId) (hg : w.heap[g]? = some (.cells cur.toArray ty (0, 0))) (hfit : off + t.size ≤ cur.length) (B : Nat) (w0 : World) (hb : RowKit.Below B w0 w) (hBg : B ≤ g)
    (h : ∀ w', RowKit.Hid (w'.heap[g]? = some (.cells (splice cur off (t.data.toList.map cellOf)).toArray ty (0, 0))) → RowKit.Below B w0 w' → K (a.put o.dst (goInt t.size)) w') :
    if Region.wanted o (yielded ops a.tmps) = true then Oper.wp P o a w K Q else E := by
  have hw : Region.wanted o (yielded ops a.tmps) = true := by simp [Region.wanted, hgd]
  rw [if_pos hw]
  have hrun := Lib.run_copy_row_string (P := P) w dT sT o.type elem g off dLen dCap t cur.toArray ty hu hsz hg hle (by simpa using hfit)
  unfold Oper.wp
  simp [execOp, ho, resolve, invoke, builtin, hd, hs, hrun, Result.andThen]
  refine h _ (show _ = _ from ?_) (below_setRow hb hBg _)
  have e : (List.take off cur ++ (Lib.byteCells t.data.toList ++ List.drop (off + t.size) cur)) = splice cur off (t.data.toList.map cellOf) := by
    unfold splice
    rw [List.length_map, ← Lib.size_eq]
    rfl
  have h2 := setRow_heap w g _ (splice cur off (t.data.toList.map cellOf)).toArray ty _ hg
  rw [← h2]
  congr 3
  simp [Lib.byteCells, splice, cellOf]

theorem data_text {P : Program} {w : World} {g : Nat} {t : TypeId} {N : Nat} {Z : List Value} {l : List UInt8} (hZ : w.heap[g]? = some (.cells Z.toArray t (0, 0))) (hN : Z.take N = l.map cellOf) (hl : l.length = N) (src dst e : TypeId) (hs : P.underlying src = some (.slice e)) (he : P.underlying e = some (.int .u8)) (hd : P.underlying dst = some .string) :
    (convert src dst (.slice (some ⟨g, 0, none⟩) N N)).run P w = .ok (.string ⟨l.toArray⟩) w := by
  subst hl
  refine run_convert_bytes_back w src dst e ⟨g, 0, none⟩ l.length l hs he hd (fun j hj => ?_)
  have e : ((⟨g, 0, none⟩ : Addr).add j) = ⟨g, j, none⟩ := by unfold Addr.add; split <;> simp_all
  have h2 : Z[j]? = some (cellOf l[j]) := by
    have := congrArg (fun l : List Value => l[j]?) hN
    simpa [hj] using this
  rw [e]
  simp [World.cell?, hZ, h2, cellOf]
end Go.Proofs.YtljeialaefmbmaaDoor
