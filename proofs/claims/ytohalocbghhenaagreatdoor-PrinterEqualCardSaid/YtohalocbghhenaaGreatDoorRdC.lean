/- Cells of entries as a list of values: what an own slice of entries holds; one more entry. -/
import Derived.Test.YtohalocbghhenaaGreatDoorCls
set_option linter.unusedSimpArgs false
set_option linter.unusedVariables false
namespace Go.Proofs.YtohalocbghhenaaGreatDoor
open Go.RowKit

/-- values that read as entries -/
def RdC (w : World) (F : Nat → Prop) : List Value → Cls → Prop
  | vs, .nil => vs = []
  | vs, .cons wd xs bl kids a rest => ∃ aa ba oa la ca ak bk ok ck vs', vs = .string wd :: .slice aa la ca :: .bool bl :: .slice ak kids.len ck :: .int .i64 a :: vs' ∧
      SlT w aa ba oa la ca xs ∧ (0 < la → F ba) ∧ SlC w F ak bk ok kids.len ck kids ∧ RdC w F vs' rest
theorem RdC.len {w : World} {F : Nat → Prop} : ∀ {c : Cls} {vs : List Value}, RdC w F vs c → vs.length = c.len * 5
  | .nil, _, h => by rw [h]; rfl
  | .cons _ _ _ _ _ rest, _, h => by
    obtain ⟨_, _, _, _, _, _, _, _, _, vs', rfl, _, _, _, h'⟩ := h
    have := RdC.len h'
    simp only [List.length_cons, this, Cls.len]; omega
theorem Cls.len_app : ∀ (c m : Cls), (c.app m).len = c.len + m.len
  | .nil, _ => by simp [Cls.app, Cls.len]
  | .cons _ _ _ _ _ r, m => by simp only [Cls.app, Cls.len, Cls.len_app r m]; omega
theorem RdC.snoc {w : World} {F : Nat → Prop} {wd : ByteArray} {xs : List Tk} {bl : Bool} {kids : Cls} {a : Int} {aa ak : Option Addr} {ba oa la ca bk ok ck : Nat}
    (hx : SlT w aa ba oa la ca xs) (hf : 0 < la → F ba) (hk : SlC w F ak bk ok kids.len ck kids) :
    ∀ {c : Cls} {vs : List Value}, RdC w F vs c → RdC w F (vs ++ [.string wd, .slice aa la ca, .bool bl, .slice ak kids.len ck, .int .i64 a]) (c.app (.cons wd xs bl kids a .nil))
  | .nil, _, h => by
    rw [h]
    exact ⟨aa, ba, oa, la, ca, ak, bk, ok, ck, [], rfl, hx, hf, hk, rfl⟩
  | .cons _ _ _ _ _ rest, _, h => by
    obtain ⟨aa', ba', oa', la', ca', ak', bk', ok', ck', vs', rfl, h1, h2, h3, h'⟩ := h
    exact ⟨aa', ba', oa', la', ca', ak', bk', ok', ck', _, rfl, h1, h2, h3, RdC.snoc hx hf hk h'⟩
theorem RdC.agree {w w' : World} (hs : w.heap.size ≤ w'.heap.size) {F : Nat → Prop} (hF : ∀ x, F x → ∀ k, w'.cell? ⟨x, k, none⟩ = w.cell? ⟨x, k, none⟩) : ∀ {c : Cls} {vs : List Value}, RdC w F vs c → RdC w' F vs c
  | .nil, _, h => h
  | .cons _ _ _ _ _ rest, _, h => by
    obtain ⟨aa, ba, oa, la, ca, ak, bk, ok, ck, vs', rfl, h1, h2, ⟨k1, k2, k3, k4, k5⟩, h'⟩ := h
    exact ⟨aa, ba, oa, la, ca, ak, bk, ok, ck, vs', rfl, h1.agree hs fun h => hF _ (h2 h), h2,
      ⟨k1, k2, k3, fun h => ⟨(k4 h).1, Nat.lt_of_lt_of_le (k4 h).2.1 hs, (k4 h).2.2⟩, AtC.agree hs hF (fun h => hF _ (k4 h).2.2) k5⟩, RdC.agree hs hF h'⟩
theorem RdC.mono {w : World} {F G : Nat → Prop} (hF : ∀ x, F x → G x) : ∀ {c : Cls} {vs : List Value}, RdC w F vs c → RdC w G vs c
  | .nil, _, h => h
  | .cons _ _ _ _ _ rest, _, h => by
    obtain ⟨aa, ba, oa, la, ca, ak, bk, ok, ck, vs', rfl, h1, h2, h3, h'⟩ := h
    exact ⟨aa, ba, oa, la, ca, ak, bk, ok, ck, vs', rfl, h1, fun h => hF _ (h2 h), h3.mono hF, RdC.mono hF h'⟩
theorem RdC.here {w : World} {F : Nat → Prop} : ∀ {c : Cls} {vs : List Value}, RdC w F vs c → RdC w (fun x => F x ∧ x < w.heap.size) vs c
  | .nil, _, h => h
  | .cons _ _ _ _ _ rest, _, h => by
    obtain ⟨aa, ba, oa, la, ca, ak, bk, ok, ck, vs', rfl, h1, h2, h3, h'⟩ := h
    exact ⟨aa, ba, oa, la, ca, ak, bk, ok, ck, vs', rfl, h1, fun h => ⟨h2 h, h1.hb h⟩, h3.here, RdC.here h'⟩
/-- values that stand in a block -/
theorem RdC.at {w : World} {F : Nat → Prop} {b : Nat} : ∀ {c : Cls} {vs : List Value} {o : Nat}, RdC w F vs c → (∀ j (h : j < vs.length), w.cell? ⟨b, o + j, none⟩ = some (vs[j]'h)) → AtC w c F b o
  | .nil, _, _, _, _ => trivial
  | .cons _ _ _ _ _ rest, _, o, h, hc => by
    obtain ⟨aa, ba, oa, la, ca, ak, bk, ok, ck, vs', rfl, h1, h2, ⟨k1, k2, k3, k4, k5⟩, h'⟩ := h
    refine ⟨⟨aa, ba, oa, la, ca, hc 1 (by simp), h1, h2⟩, ⟨ak, bk, ok, ck, hc 3 (by simp), k2, k3, k4, k5⟩, hc 0 (by simp), hc 2 (by simp), hc 4 (by simp), RdC.at h' fun j hj => ?_⟩
    have := hc (j + 5) (by simp; omega)
    rw [show o + 5 + j = o + (j + 5) by omega, this]
    rfl
/-- a slice of the call's own, read -/
theorem slC_own {w : World} {F : Nat → Prop} {base e : Nat} {v : Value} {c : Cls} {vs : List Value} (h : w.ownsRow base e 5 v c.len vs) (hr : RdC w F vs c) (hF : ∀ x, v.ownBlock = some x → F x) :
    ∃ a b cap, v = .slice a c.len cap ∧ SlC w F a b 0 c.len cap c := by
  have hcell := h
  rcases h.2 with ⟨rfl, h0⟩ | ⟨g, cap, cur, rfl, hg, hb, h1, h2, h3, h4⟩
  · have : c = .nil := by
      cases c with
      | nil => rfl
      | cons _ _ _ _ _ r => simp [Cls.len] at h0
    subst this
    exact ⟨none, 0, 0, rfl, slC_nil w F⟩
  · have hgs : g < w.heap.size := (Array.getElem?_eq_some_iff.1 hb).1
    refine ⟨_, g, cap, rfl, rfl, h1, h2, fun _ => ⟨rfl, hgs, hF g rfl⟩, hr.at fun j hj => ?_⟩
    have := hr.len
    rw [Nat.zero_add, hcell.cellAt j (by omega), List.getElem?_eq_getElem hj]
end Go.Proofs.YtohalocbghhenaaGreatDoor
