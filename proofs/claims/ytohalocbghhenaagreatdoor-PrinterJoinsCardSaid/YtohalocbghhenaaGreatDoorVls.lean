/- Entries as values: a slice of them appended to another one. -/
import Derived.Test.YtohalocbghhenaaGreatDoorPrl
set_option linter.unusedSimpArgs false
set_option linter.unusedVariables false
namespace Go.Proofs.YtohalocbghhenaaGreatDoor
open Go.RowKit

theorem AtC.vals {w : World} {F : Nat → Prop} : ∀ {c : Cls} {b o : Nat}, AtC w c F b o → ∃ vs, RdC w F vs c ∧ vs.length = c.len * 5 ∧ (∀ j u, vs[j]? = some u → w.cell? ⟨b, o + j, none⟩ = some u) ∧ (∀ u ∈ vs, u.oneCell' = true)
  | .nil, _, _, _ => ⟨[], rfl, rfl, fun j u h => by simp at h, fun u h => by simp at h⟩
  | .cons wd xs bl kids a rest, b, o, h => by
    obtain ⟨⟨aa, ba, oa, la, ca, h1, h2, h3⟩, ⟨ak, bk, ok, ck, k1, k2, k3, k4, k5⟩, h4, h5, h6, h7⟩ := h
    obtain ⟨vs, r1, r2, r3, r4⟩ := AtC.vals h7
    refine ⟨.string wd :: .slice aa la ca :: .bool bl :: .slice ak kids.len ck :: .int .i64 a :: vs, ⟨aa, ba, oa, la, ca, ak, bk, ok, ck, vs, rfl, h2, h3, ⟨rfl, k2, k3, k4, k5⟩, r1⟩, ?_, fun j u hu => ?_, fun u hu => ?_⟩
    · simp only [List.length_cons, r2, Cls.len]; omega
    · match j, hu with
      | 0, hu => simp at hu; rw [← hu]; exact h4
      | 1, hu => simp at hu; rw [← hu]; exact h1
      | 2, hu => simp at hu; rw [← hu]; exact h5
      | 3, hu => simp at hu; rw [← hu]; exact k1
      | 4, hu => simp at hu; rw [← hu]; exact h6
      | j + 5, hu =>
        have := r3 j u (by simpa using hu)
        rw [show o + (j + 5) = o + 5 + j by omega]
        exact this
    · simp only [List.mem_cons] at hu
      rcases hu with rfl | rfl | rfl | rfl | rfl | hu
      · rfl
      · rfl
      · rfl
      · rfl
      · rfl
      · exact r4 u hu
theorem RdC.app {w : World} {F : Nat → Prop} {d : Cls} {us : List Value} (hd : RdC w F us d) : ∀ {c : Cls} {vs : List Value}, RdC w F vs c → RdC w F (vs ++ us) (c.app d)
  | .nil, _, h => by rw [h]; exact hd
  | .cons _ _ _ _ _ rest, _, h => by
    obtain ⟨aa, ba, oa, la, ca, ak, bk, ok, ck, vs', rfl, h1, h2, h3, h'⟩ := h
    exact ⟨aa, ba, oa, la, ca, ak, bk, ok, ck, _, rfl, h1, h2, h3, RdC.app hd h'⟩
theorem RdC.low {w w' : World} {B : Nat} {F : Nat → Prop} (hF : ∀ x, F x → x < B) (hB : Below B w w') {c : Cls} {vs : List Value} (h : RdC w F vs c) : RdC w' F vs c :=
  RdC.agree hB.size (fun x hx k => hB.cell (p := ⟨x, k, none⟩) (hF x hx)) h
/-- append to a slice of the call's own that is not nil, whatever is appended -/
theorem wpList_append_all {P : Program} (w : World) {ops : Array Oper} {rest : List Oper} {o : Oper} {a : Act} {Q : Exit → Act → World → Prop} (hgd : o.guard = none) (s x : Operand) (t : TypeId)
    (ho : o.op = .call { callee := .builtin .append, args := #[s, x], argTypes := #[t, t] })
    (base : Nat) (e : TypeId) (i : TypeInfo) (z : Value) (size bytes : Nat) (ht : P.underlying t = some (.slice e)) (hi : P.info? e = some i) (hz : i.zero = some z)
    (hsize : i.size = size) (hby : i.bytes = bytes) (hzs : z.cells.size = size) (hsz : 0 < size)
    (g n cap : Nat) (xs : List Value) (hs : a.eval s = .slice (some ⟨g, 0, none⟩) n cap) (hown : w.ownsRow base e size (.slice (some ⟨g, 0, none⟩) n cap) n xs)
    (ao : Option Addr) (m c : Nat) (news : List Value) (hx : a.eval x = .slice ao m c) (hl : news.length = m * size) (hnone : ao = none → m = 0 ∧ c = 0) (hnews : ∀ ad, ao = some ad → ∀ j u, news[j]? = some u → w.cell? (ad.add j) = some u) (h1 : ∀ u ∈ news, u.oneCell' = true)
    (h63 : n + m ≤ maxLen) (hbytes : (n + m) * bytes ≤ 140737488355328) (hbase : base ≤ w.heap.size)
    (h : ∀ g' cap' w', w'.ownsRow base e size (.slice (some ⟨g', 0, none⟩) (n + m) cap') (n + m) (xs ++ news) → w.grownBy w' (some g) → wpList P ops Q rest (a.put o.dst (.slice (some ⟨g', 0, none⟩) (n + m) cap')) w') : wpList P ops Q (o :: rest) a w := by
  by_cases hm : 0 < m
  · obtain ⟨ad, rfl⟩ : ∃ ad, ao = some ad := by
      cases ao with
      | none => have := (hnone rfl).1; omega
      | some ad => exact ⟨ad, rfl⟩
    refine wpList_append_blk w hgd s x t ho base e i z size bytes ht hi hz hsize hby hzs hsz _ n xs hs hown ad m c news hx hl (hnews ad rfl) h1 h63 hbytes hbase hm ?_
    intro v' w' ho' hg' _
    rcases ho'.2 with ⟨_, h0⟩ | ⟨g', cap', cur, rfl, _⟩
    · omega
    · exact h g' cap' w' ho' hg'
  · obtain rfl : m = 0 := by omega
    have hcap : n ≤ cap := by
      rcases hown.2 with ⟨h', _⟩ | ⟨g', cap', cur, h', _, _, h2, _⟩
      · simp at h'
      · simp only [Value.slice.injEq, Option.some.injEq, Addr.mk.injEq, and_true, true_and] at h'
        obtain ⟨_, rfl⟩ := h'
        exact h2
    exact wpList_append_fits_any w hgd s x t ho base e i size ht hi hsize g n cap xs hs hown ao 0 c news hx hl hnone hnews h1 hcap (fun w' r1 r2 => h g cap w' r1 r2)
end Go.Proofs.YtohalocbghhenaaGreatDoor
