/- Lists of entries in memory: what a slice of them reads as, and in which blocks. -/
import Derived.Test.YtohalocbghhenaaGreatDoorParP
import Derived.Test.YtohalocbghhenaaGreatDoorTks
set_option linter.unusedSimpArgs false
set_option linter.unusedVariables false
namespace Go.Proofs.YtohalocbghhenaaGreatDoor
open Go.RowKit

/-- cells of a block, from an offset, that read as entries; F holds of each other block that is read -/
def AtC (w : World) : Cls → (Nat → Prop) → Nat → Nat → Prop
  | .nil, _, _, _ => True
  | .cons wd xs bl kids a rest, F, b, o =>
    (∃ aa ba oa la ca, w.cell? ⟨b, o + 1, none⟩ = some (.slice aa la ca) ∧ SlT w aa ba oa la ca xs ∧ (0 < la → F ba)) ∧
    (∃ ak bk ok ck, w.cell? ⟨b, o + 3, none⟩ = some (.slice ak kids.len ck) ∧ kids.len ≤ ck ∧ ck ≤ maxLen ∧ (0 < kids.len → ak = some ⟨bk, ok, none⟩ ∧ bk < w.heap.size ∧ F bk) ∧ AtC w kids F bk ok) ∧
    w.cell? ⟨b, o, none⟩ = some (.string wd) ∧ w.cell? ⟨b, o + 2, none⟩ = some (.bool bl) ∧ w.cell? ⟨b, o + 4, none⟩ = some (.int .i64 a) ∧ AtC w rest F b (o + 5)
/-- a slice that reads as a list of entries -/
def SlC (w : World) (F : Nat → Prop) (a : Option Addr) (b o len cap : Nat) (c : Cls) : Prop :=
  len = c.len ∧ len ≤ cap ∧ cap ≤ maxLen ∧ (0 < len → a = some ⟨b, o, none⟩ ∧ b < w.heap.size ∧ F b) ∧ AtC w c F b o
theorem slC_nil (w : World) (F : Nat → Prop) : SlC w F none 0 0 0 0 .nil :=
  ⟨rfl, Nat.le_refl _, Nat.zero_le _, fun h => absurd h (Nat.lt_irrefl 0), trivial⟩
theorem SlT.agree {w w' : World} {a : Option Addr} {b off len cap : Nat} {L : List Tk} (h : SlT w a b off len cap L) (hs : w.heap.size ≤ w'.heap.size) (hc : 0 < len → ∀ k, w'.cell? ⟨b, k, none⟩ = w.cell? ⟨b, k, none⟩) : SlT w' a b off len cap L := by
  obtain ⟨h1, h2, h3, h4, h5, h6, h7, h8, h9⟩ := h
  refine ⟨h1, h2, fun h => Nat.lt_of_lt_of_le (h3 h) hs, h4, h5, fun k hk => ?_, fun k hk => ?_, fun k hk => ?_, fun k hk => ?_⟩
  · exact (hc (by omega) _).trans (h6 k hk)
  · exact (hc (by omega) _).trans (h7 k hk)
  · exact (hc (by omega) _).trans (h8 k hk)
  · exact (hc (by omega) _).trans (h9 k hk)
/-- a later world with the same cells in the blocks that are read -/
theorem AtC.agree {w w' : World} (hs : w.heap.size ≤ w'.heap.size) {F : Nat → Prop} (hF : ∀ x, F x → ∀ k, w'.cell? ⟨x, k, none⟩ = w.cell? ⟨x, k, none⟩) :
    ∀ {c : Cls} {b o : Nat}, (0 < c.len → ∀ k, w'.cell? ⟨b, k, none⟩ = w.cell? ⟨b, k, none⟩) → AtC w c F b o → AtC w' c F b o
  | .nil, _, _, _, _ => trivial
  | .cons wd xs bl kids a rest, b, o, hb, h => by
    have hb := hb (by simp [Cls.len])
    obtain ⟨⟨aa, ba, oa, la, ca, h1, h2, h3⟩, ⟨ak, bk, ok, ck, k1, k2, k3, k4, k5⟩, h4, h5, h6, h7⟩ := h
    exact ⟨⟨aa, ba, oa, la, ca, (hb _).trans h1, h2.agree hs fun h => hF _ (h3 h), h3⟩,
      ⟨ak, bk, ok, ck, (hb _).trans k1, k2, k3, fun h => ⟨(k4 h).1, Nat.lt_of_lt_of_le (k4 h).2.1 hs, (k4 h).2.2⟩, AtC.agree hs hF (fun h => hF _ (k4 h).2.2) k5⟩,
      (hb _).trans h4, (hb _).trans h5, (hb _).trans h6, AtC.agree hs hF (fun _ => hb) h7⟩
theorem AtC.mono {w : World} {F G : Nat → Prop} (hF : ∀ x, F x → G x) : ∀ {c : Cls} {b o : Nat}, AtC w c F b o → AtC w c G b o
  | .nil, _, _, _ => trivial
  | .cons wd xs bl kids a rest, b, o, h => by
    obtain ⟨⟨aa, ba, oa, la, ca, h1, h2, h3⟩, ⟨ak, bk, ok, ck, k1, k2, k3, k4, k5⟩, h4, h5, h6, h7⟩ := h
    exact ⟨⟨aa, ba, oa, la, ca, h1, h2, fun h => hF _ (h3 h)⟩, ⟨ak, bk, ok, ck, k1, k2, k3, fun h => ⟨(k4 h).1, (k4 h).2.1, hF _ (k4 h).2.2⟩, AtC.mono hF k5⟩, h4, h5, h6, AtC.mono hF h7⟩
/-- each block that is read is there: F may be taken within the world -/
theorem AtC.here {w : World} {F : Nat → Prop} : ∀ {c : Cls} {b o : Nat}, AtC w c F b o → AtC w c (fun x => F x ∧ x < w.heap.size) b o
  | .nil, _, _, _ => trivial
  | .cons wd xs bl kids a rest, b, o, h => by
    obtain ⟨⟨aa, ba, oa, la, ca, h1, h2, h3⟩, ⟨ak, bk, ok, ck, k1, k2, k3, k4, k5⟩, h4, h5, h6, h7⟩ := h
    exact ⟨⟨aa, ba, oa, la, ca, h1, h2, fun h => ⟨h3 h, h2.hb h⟩⟩, ⟨ak, bk, ok, ck, k1, k2, k3, fun h => ⟨(k4 h).1, (k4 h).2.1, (k4 h).2.2, (k4 h).2.1⟩, AtC.here k5⟩, h4, h5, h6, AtC.here h7⟩
theorem SlC.low {w w' : World} {B : Nat} {F : Nat → Prop} {a : Option Addr} {b o len cap : Nat} {c : Cls} (h : SlC w F a b o len cap c) (hF : ∀ x, F x → x < B) (hB : Below B w w') : SlC w' F a b o len cap c := by
  obtain ⟨h1, h2, h3, h4, h5⟩ := h
  refine ⟨h1, h2, h3, fun h => ⟨(h4 h).1, Nat.lt_of_lt_of_le (h4 h).2.1 hB.size, (h4 h).2.2⟩, ?_⟩
  exact AtC.agree hB.size (fun x hx k => hB.cell (p := ⟨x, k, none⟩) (hF x hx)) (fun h k => hB.cell (p := ⟨b, k, none⟩) (hF b (h4 (by omega)).2.2)) h5
theorem SlC.here {w : World} {F : Nat → Prop} {a : Option Addr} {b o len cap : Nat} {c : Cls} (h : SlC w F a b o len cap c) : SlC w (fun x => F x ∧ x < w.heap.size) a b o len cap c := by
  obtain ⟨h1, h2, h3, h4, h5⟩ := h
  exact ⟨h1, h2, h3, fun h => ⟨(h4 h).1, (h4 h).2.1, (h4 h).2.2, (h4 h).2.1⟩, h5.here⟩
theorem SlC.mono {w : World} {F G : Nat → Prop} {a : Option Addr} {b o len cap : Nat} {c : Cls} (hF : ∀ x, F x → G x) (h : SlC w F a b o len cap c) : SlC w G a b o len cap c := by
  obtain ⟨h1, h2, h3, h4, h5⟩ := h
  exact ⟨h1, h2, h3, fun h => ⟨(h4 h).1, (h4 h).2.1, hF _ (h4 h).2.2⟩, h5.mono hF⟩
/-- the entry at an index, and its kids as a slice -/
theorem AtC.get {w : World} {F : Nat → Prop} : ∀ {c : Cls} {b o : Nat} (i : Nat), i < c.len → AtC w c F b o →
    ∃ wd xs bl kids a rest aa ba oa la ca ak bk ok ck, c.drop i = .cons wd xs bl kids a rest ∧
      w.cell? ⟨b, o + i * 5, none⟩ = some (.string wd) ∧ w.cell? ⟨b, o + i * 5 + 1, none⟩ = some (.slice aa la ca) ∧ w.cell? ⟨b, o + i * 5 + 2, none⟩ = some (.bool bl) ∧
      w.cell? ⟨b, o + i * 5 + 3, none⟩ = some (.slice ak kids.len ck) ∧ w.cell? ⟨b, o + i * 5 + 4, none⟩ = some (.int .i64 a) ∧
      SlT w aa ba oa la ca xs ∧ (0 < la → F ba) ∧ SlC w F ak bk ok kids.len ck kids
  | .nil, _, _, _, hi, _ => absurd hi (Nat.not_lt_zero _)
  | .cons wd xs bl kids a rest, b, o, 0, _, h => by
    obtain ⟨⟨aa, ba, oa, la, ca, h1, h2, h3⟩, ⟨ak, bk, ok, ck, k1, k2, k3, k4, k5⟩, h4, h5, h6, h7⟩ := h
    exact ⟨wd, xs, bl, kids, a, rest, aa, ba, oa, la, ca, ak, bk, ok, ck, rfl, by simpa using h4, by simpa using h1, by simpa using h5, by simpa using k1, by simpa using h6, h2, h3, rfl, k2, k3, k4, k5⟩
  | .cons wd xs bl kids a rest, b, o, i + 1, hi, h => by
    obtain ⟨_, _, _, _, _, h7⟩ := h
    have := AtC.get i (by simp [Cls.len] at hi; omega) h7
    rw [show o + 5 + i * 5 = o + (i + 1) * 5 by omega] at this
    exact this
end Go.Proofs.YtohalocbghhenaaGreatDoor
