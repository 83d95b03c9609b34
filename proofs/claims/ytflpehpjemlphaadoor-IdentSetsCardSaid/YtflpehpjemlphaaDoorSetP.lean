/- Plain facts of sets: a strictly increasing list is known by its members. -/
import Derived.Test.YtflpehpjemlphaaDoorAbbP
set_option linter.unusedSimpArgs false
set_option linter.unusedVariables false
namespace Go.Proofs.YtflpehpjemlphaaDoor
open Go.RowKit

/-- strictly increasing, as the library says it of pairs -/
theorem srt_pw {L : List ByteArray} (h : srtL L = true) : L.Pairwise (fun a b => Lib.compareBytes a.data.toList b.data.toList < 0) := by
  rw [List.pairwise_iff_getElem]
  intro i j hi hj hij
  exact srt_lt' h hij hj
theorem pw_srt {L : List ByteArray} (h : L.Pairwise (fun a b => Lib.compareBytes a.data.toList b.data.toList < 0)) : srtL L = true := by
  rw [List.pairwise_iff_getElem] at h
  rw [srt_iff]
  intro k hk
  unfold lessB
  rw [blt]
  exact decide_eq_true (h k (k + 1) (by omega) hk (by omega))
theorem srt_tail {a : ByteArray} {t : List ByteArray} (h : srtL (a :: t) = true) : srtL t = true ∧ ∀ x ∈ t, Lib.compareBytes a.data.toList x.data.toList < 0 := by
  have := List.pairwise_cons.1 (srt_pw h)
  exact ⟨pw_srt this.2, this.1⟩
/-- nothing stands ahead of itself -/
theorem not_lt_self (x : ByteArray) : ¬ Lib.compareBytes x.data.toList x.data.toList < 0 := by
  rw [tot_bytes.refl x.data.toList]; omega
/-- two of one membership are one -/
theorem srt_ext : ∀ {A B : List ByteArray}, srtL A = true → srtL B = true → (∀ x, x ∈ A ↔ x ∈ B) → A = B
  | [], [], _, _, _ => rfl
  | [], b :: _, _, _, h => by have := (h b).2 (by simp); simp at this
  | a :: _, [], _, _, h => by have := (h a).1 (by simp); simp at this
  | a :: s, b :: t, ha, hb, h => by
    have ⟨ha1, ha2⟩ := srt_tail ha
    have ⟨hb1, hb2⟩ := srt_tail hb
    have e : a = b := by
      have h1 := (h a).1 (by simp)
      have h2 := (h b).2 (by simp)
      rcases List.mem_cons.1 h1 with h1 | h1
      · exact h1
      · rcases List.mem_cons.1 h2 with h2 | h2
        · exact h2.symm
        · have q1 := hb2 a h1
          have q2 := ha2 b h2
          have := tot_bytes.turn a.data.toList b.data.toList
          omega
    subst e
    congr 1
    apply srt_ext ha1 hb1
    intro x
    constructor
    · intro hx
      rcases List.mem_cons.1 ((h x).1 (List.mem_cons_of_mem _ hx)) with e | e
      · exact absurd (e ▸ ha2 x hx) (not_lt_self _)
      · exact e
    · intro hx
      rcases List.mem_cons.1 ((h x).2 (List.mem_cons_of_mem _ hx)) with e | e
      · exact absurd (e ▸ hb2 x hx) (not_lt_self _)
      · exact e
/-- what a filter leaves of one -/
theorem srt_filter {A : List ByteArray} (h : srtL A = true) (p : ByteArray → Bool) : srtL (A.filter p) = true :=
  pw_srt ((srt_pw h).filter p)
/-- put in its place, once -/
def insL (x : ByteArray) : List ByteArray → List ByteArray
  | [] => [x]
  | a :: t => if lessB x a then x :: a :: t else if lessB a x then a :: insL x t else a :: t
theorem blt' (a b : ByteArray) : lessB a b = true ↔ Lib.compareBytes a.data.toList b.data.toList < 0 := by
  unfold lessB; rw [blt, decide_eq_true_eq]
theorem eq_of_cmp {a b : ByteArray} (h1 : ¬ lessB a b = true) (h2 : ¬ lessB b a = true) : a = b := by
  rw [blt'] at h1 h2
  have := tot_bytes.turn a.data.toList b.data.toList
  have h0 : Lib.compareBytes a.data.toList b.data.toList = 0 := by omega
  rw [bytes_zero] at h0
  cases a with | mk u => cases b with | mk v =>
  simp at h0
  rw [h0]
theorem ins_mem (x y : ByteArray) : ∀ (L : List ByteArray), y ∈ insL x L ↔ y = x ∨ y ∈ L
  | [] => by simp [insL]
  | a :: t => by
    unfold insL
    split
    · simp
    · split
      · rw [List.mem_cons, ins_mem x y t, List.mem_cons]
        constructor
        · rintro (h | h | h) <;> simp [h]
        · rintro (h | h | h) <;> simp [h]
      · rename_i h1 h2
        have e := eq_of_cmp h1 h2
        subst e
        simp
theorem ins_srt (x : ByteArray) : ∀ {L : List ByteArray}, srtL L = true → srtL (insL x L) = true
  | [], _ => by simp [insL, srtL]
  | a :: t, h => by
    have ⟨h1, h2⟩ := srt_tail h
    unfold insL
    split
    · rename_i hx
      rw [srtL, hx, h]; rfl
    · split
      · rename_i hx
        apply pw_srt
        rw [List.pairwise_cons]
        refine ⟨fun y hy => ?_, srt_pw (ins_srt x h1)⟩
        rcases (ins_mem x y t).1 hy with e | e
        · subst e; exact (blt' a y).1 hx
        · exact h2 y e
      · exact h
/-- the set of a list -/
def setL (L : List ByteArray) : List ByteArray := L.foldr insL []
theorem set_mem (y : ByteArray) : ∀ (L : List ByteArray), y ∈ setL L ↔ y ∈ L
  | [] => by simp [setL]
  | a :: t => by
    have := set_mem y t
    unfold setL at this ⊢
    rw [List.foldr_cons, ins_mem, this, List.mem_cons]
theorem set_srt : ∀ (L : List ByteArray), srtL (setL L) = true
  | [] => rfl
  | a :: t => by
    have := set_srt t
    unfold setL at this ⊢
    rw [List.foldr_cons]
    exact ins_srt a this
/-- any strictly increasing list of its members is its set -/
theorem set_of {L S : List ByteArray} (hs : srtL S = true) (hm : ∀ x, x ∈ S ↔ x ∈ L) : S = setL L :=
  srt_ext hs (set_srt L) (fun x => (hm x).trans (set_mem x L).symm)
/-- unions do not mind the order, the grouping, or what stands twice -/
theorem set_comm (A B : List ByteArray) : setL (A ++ B) = setL (B ++ A) :=
  set_of (set_srt _) (fun x => by rw [set_mem]; simp [or_comm])
theorem set_assoc (A B C : List ByteArray) : setL (setL (A ++ B) ++ C) = setL (A ++ setL (B ++ C)) :=
  srt_ext (set_srt _) (set_srt _) (fun x => by simp only [set_mem, List.mem_append, or_assoc])
theorem set_self {A : List ByteArray} (h : srtL A = true) : setL (A ++ A) = A :=
  (set_of h (fun x => by simp)).symm
theorem set_id {A : List ByteArray} (h : srtL A = true) : setL A = A := (set_of h (fun _ => Iff.rfl)).symm
end Go.Proofs.YtflpehpjemlphaaDoor
