/- push: a unit along the path that a search has noted. -/
import Derived.Test.YtpcdbnlljdfogaaEmp
import Derived.Deep.LoopGhost
set_option linter.unusedSimpArgs false
set_option linter.unusedVariables false
namespace Go.Proofs.Ytpcdbnlljdfogaa
open Go.RowKit

def upd (R : List Int) (a : Nat) : List Int := (R.set a (atI R (a : Int) - 1)).set (mate a) (atI R (mate a : Int) + 1)
/-- the rooms behind a walk back along the notes; none where it does not reach s, or a room is not as it should be -/
def pushO (H B : List Int) (s : Int) : Nat → Int → List Int → Option (List Int)
  | 0, v, R => if v = s then some R else none
  | f + 1, v, R => if v = s then some R else
    if 0 ≤ atI B v ∧ atI B v < (H.length : Int) ∧ 1 ≤ atI R (atI B v) ∧ atI R (mate (atI B v).toNat : Int) < 1000000 then pushO H B s f (atI H (mate (atI B v).toNat : Int)) (upd R (atI B v).toNat) else none
theorem upd_len (R : List Int) (a : Nat) : (upd R a).length = R.length := by simp [upd]
theorem pushO_at {H B : List Int} {s : Int} {f : Nat} {R R' : List Int} (h : pushO H B s f s R = some R') : R' = R := by
  cases f <;> simp [pushO] at h <;> exact h.symm
theorem pushO_step {H B : List Int} {s v : Int} {f : Nat} {R R' : List Int} (h : pushO H B s f v R = some R') (hv : v ≠ s) :
    ∃ f', f' < f ∧ 0 ≤ atI B v ∧ atI B v < (H.length : Int) ∧ 1 ≤ atI R (atI B v) ∧ atI R (mate (atI B v).toNat : Int) < 1000000 ∧ pushO H B s f' (atI H (mate (atI B v).toNat : Int)) (upd R (atI B v).toNat) = some R' := by
  cases f with
  | zero => simp [pushO, hv] at h
  | succ f =>
    unfold pushO at h
    rw [if_neg hv] at h
    split at h
    · rename_i hc
      exact ⟨f, Nat.lt_succ_self f, hc.1, hc.2.1, hc.2.2.1, hc.2.2.2, h⟩
    · cases h
theorem Gby.refl (w : World) (row : Option Nat) : w.grownBy w row := ⟨rfl, rfl, rfl, Nat.le_refl _, fun _ _ _ => rfl⟩
theorem Gby.trans {a b c : World} {row : Option Nat} (h : a.grownBy b row) (k : b.grownBy c row) : a.grownBy c row :=
  ⟨k.os.trans h.os, k.tape.trans h.tape, k.output.trans h.output, Nat.le_trans h.size k.size, fun i hi hn => (k.block i (Nat.lt_of_lt_of_le hi h.size) hn).trans (h.block i hi hn)⟩
theorem Gby.of {a b : World} (h : Below a.heap.size a b) (row : Option Nat) : a.grownBy b row := ⟨h.os, h.tape, h.output, h.size, fun k hk _ => h.block k hk⟩
theorem Gby.below {a b : World} {row : Option Nat} {B : Nat} (h : a.grownBy b row) (hB : B ≤ a.heap.size) (hr : ∀ k, row = some k → B ≤ k) : Below B a b :=
  (Below.refl B a).grown h hB hr
theorem NtO.keep {w w' : World} {B nb : Nat} {N : Nt} (h : NtO w B nb N) (hB : Below w.heap.size w w') : NtO w' B nb N := ⟨h.at_.keep hB, h.own.keep hB, h.nb, h.hb, h.rb⟩
theorem NtO.spot {w : World} {B nb : Nat} {N : Nt} (h : NtO w B nb N) (h0 : 0 < N.R.length) : N.aR = some ⟨N.bR, 0, none⟩ ∧ N.oR = 0 ∧ (Value.slice N.aR N.R.length N.cR).ownBlock = some N.bR := by
  have h1 := h.at_.r.ha h0
  obtain ⟨g, cap, hv, _⟩ := h.own.shape h0
  simp only [Value.slice.injEq] at hv
  have h2 := hv.1
  rw [h1] at h2
  simp at h2
  have : N.aR = some ⟨N.bR, 0, none⟩ := by rw [h1, h2.2]
  exact ⟨this, h2.2, by rw [this]; rfl⟩
/-- another room -/
def Nt.room (N : Nt) (R : List Int) : Nt := { N with R := R }
theorem NtO.set {w : World} {B nb : Nat} {N : Nt} (h : NtO w B nb N) {k : Nat} (hk : k < N.R.length) (x : Int) : NtO (w.setCell ⟨N.bR, k, none⟩ (.int .i64 x)) B nb (N.room (N.R.set k x)) := by
  obtain ⟨s1, s2, s3⟩ := h.spot (by omega)
  have hn := h.nb _ s3
  have e : (Value.slice N.aR (N.R.set k x).length N.cR) = .slice (some ⟨N.bR, 0, none⟩) N.R.length N.cR := by rw [s1, List.length_set]
  have hown : OwI (w.setCell ⟨N.bR, k, none⟩ (.int .i64 x)) B (.slice (some ⟨N.bR, 0, none⟩) N.R.length N.cR) N.R.length (N.R.set k x) := by
    have := h.own
    rw [s1] at this
    exact this.put k x
  have hx : ∀ (p : Addr), p.block ≠ N.bR → (w.setCell ⟨N.bR, k, none⟩ (.int .i64 x)).cell? p = w.cell? p := fun p hp => World.cell?_setCell_other _ _ _ _ (by intro e; exact hp (by rw [← e]))
  have hsz : (w.setCell ⟨N.bR, k, none⟩ (.int .i64 x)).heap.size = w.heap.size := by simp
  refine ⟨?_, ?_, ?_, ?_, ?_⟩
  · refine ⟨?_, ?_, ?_, ?_, ?_, by rw [hsz]; exact h.at_.lt, ?_, ?_, by show N.bA < _; rw [hsz]; exact h.at_.al, h.at_.ac, ?_, ?_⟩
    · rw [hx _ (by exact fun e => hn.1 e.symm)]; exact h.at_.c0
    · rw [hx _ (by exact fun e => hn.1 e.symm)]; exact h.at_.c1
    · rw [hx _ (by exact fun e => hn.1 e.symm)]; exact h.at_.c2
    · rw [hx _ (by exact fun e => hn.1 e.symm)]
      show _ = some (Value.slice N.aR (N.R.set k x).length N.cR)
      rw [List.length_set]
      exact h.at_.c3
    · rw [hx _ (by exact fun e => hn.1 e.symm)]; exact h.at_.c4
    · obtain ⟨q1, q2, q3, q4, q5, q6, q7⟩ := h.at_.h
      refine ⟨q1, q2, fun hh => by show N.bH < _; rw [hsz]; exact q3 hh, q4, q5, q6, fun j hj => ?_⟩
      have hj' : j < N.H.length := hj
      rw [hx _ (fun e => h.hb _ s3 (by omega) e.symm)]
      exact q7 j hj
    · have hc := h.at_.r.hcap
      have hm := h.at_.r.hmax
      have hb := h.at_.r.hb (by omega)
      refine ⟨rfl, fun hh => ?_, fun hh => by show N.bR < _; rw [hsz]; exact hb, ?_, hm, fun hh => ?_, fun j hj => ?_⟩
      · exact h.at_.r.ha (Nat.lt_of_le_of_lt (Nat.zero_le _) hk)
      · show (N.R.set k x).length ≤ N.cR
        rw [List.length_set]
        exact hc
      · have : N.aR = none := hh
        rw [s1] at this
        cases this
      · show (w.setCell ⟨N.bR, k, none⟩ (.int .i64 x)).cell? ⟨N.bR, N.oR + j, none⟩ = _
        rw [s2, Nat.zero_add]
        exact hown.at_ j hj
    · intro j hj
      rw [hx _ (by exact fun e => hn.2 e.symm)]
      exact h.at_.at_ j hj
    · intro r hr
      obtain ⟨q1, q2, q3, q4, q5, q6, q7⟩ := h.at_.i r hr
      refine ⟨q1, q2, fun hh => by rw [hsz]; exact q3 hh, q4, q5, q6, fun j hj => ?_⟩
      rw [hx _ (fun e => h.rb _ s3 r hr (by omega) e.symm)]
      exact q7 j hj
  · show OwI _ B (.slice N.aR (N.R.set k x).length N.cR) (N.R.set k x).length (N.R.set k x)
    rw [e, List.length_set]
    exact hown
  · intro j hj
    exact h.nb j (by rw [s3]; have : (Value.slice N.aR (N.R.set k x).length N.cR).ownBlock = some j := hj; rw [e] at this; exact this)
  · intro j hj
    exact h.hb j (by rw [s3]; have : (Value.slice N.aR (N.R.set k x).length N.cR).ownBlock = some j := hj; rw [e] at this; exact this)
  · intro j hj
    exact h.rb j (by rw [s3]; have : (Value.slice N.aR (N.R.set k x).length N.cR).ownBlock = some j := hj; rw [e] at this; exact this)
end Go.Proofs.Ytpcdbnlljdfogaa
