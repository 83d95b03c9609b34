/- A network whose rooms are its own: put together out of its rows and the arcs of its vertices. -/
import Derived.Test.YtpcdbnlljdfogaaLea
set_option linter.unusedSimpArgs false
set_option linter.unusedVariables false
namespace Go.Proofs.Ytpcdbnlljdfogaa
open Go.RowKit

theorem own_sli {w : World} {B n : Nat} {v : Value} {L : List Int} (h : OwI w B v n L) : ∃ a b cap, v = .slice a n cap ∧ SlI w a b 0 n cap L ∧ (∀ k, v.ownBlock = some k → k = b) := by
  rcases h.2 with ⟨hv, h0⟩ | ⟨g, cap, cur, rfl, hb, hg, h1, h2, _⟩
  · subst hv
    subst h0
    obtain rfl : L = [] := List.eq_nil_of_length_eq_zero h.len
    exact ⟨none, 0, 0, rfl, sli_nil w, fun k hk => by simp [Value.ownBlock] at hk⟩
  · refine ⟨some ⟨g, 0, none⟩, g, cap, rfl, ⟨h.len, fun _ => rfl, fun _ => (World.ownsRow.lt h g rfl).2, h1, h2, fun hh => (by cases hh), fun k hk => ?_⟩, fun k hk => by simp [Value.ownBlock] at hk; exact hk.symm⟩
    rw [Nat.zero_add]
    exact h.at_ k hk
structure NtO (w : World) (B nb : Nat) (N : Nt) : Prop where
  at_ : NtAt w nb N
  own : OwI w B (.slice N.aR N.R.length N.cR) N.R.length N.R
  nb : ∀ k, (Value.slice N.aR N.R.length N.cR).ownBlock = some k → k ≠ nb ∧ k ≠ N.bA
  hb : ∀ k, (Value.slice N.aR N.R.length N.cR).ownBlock = some k → 0 < N.H.length → k ≠ N.bH
  rb : ∀ k, (Value.slice N.aR N.R.length N.cR).ownBlock = some k → ∀ r ∈ N.A, 0 < r.L.length → k ≠ r.b
def arcsA (H : List Int) (n : Nat) : List (List Int) := (List.range n).map fun v => arcsL (swp H) v H.length
theorem nt_made {w : World} {B D nb gl gr n : Nat} {vH vR : Value} {H R C : List Int} {s t : Int} (hw : Rws w B nb vH vR H R) (hl : LevK w D gl gr n H H.length C) (hB : B ≤ D) (hn : nb < B)
    (hH : ∀ k, vH.ownBlock = some k → k < D) (hR : ∀ k, vR.ownBlock = some k → k < D)
    (c0 : w.cell? ⟨nb, 0, none⟩ = some (.int .i64 s)) (c1 : w.cell? ⟨nb, 1, none⟩ = some (.int .i64 t)) (c4 : w.cell? ⟨nb, 4, none⟩ = some (.slice (some ⟨gl, 0, none⟩) n n)) (hnl : nb < w.heap.size) :
    ∃ N : Nt, NtO w B nb N ∧ N.s = s ∧ N.t = t ∧ N.H = H ∧ N.R = R ∧ N.arcs = arcsA H n ∧ N.A.length = n := by
  obtain ⟨aH, bH, cH, rfl, hsH, hoH⟩ := own_sli hw.h
  obtain ⟨aR, bR, cR, rfl, hsR, hoR⟩ := own_sli hw.r
  have hgl := World.ownsRow.lt hl.l gl rfl
  have hgr := World.ownsRow.lt hl.g gr rfl
  have hmaxl : n ≤ maxLen := by
    rcases hl.l.2 with ⟨h, _⟩ | ⟨g, cap, cur, h, _, _, _, h3, _⟩
    · cases h
    · cases h; exact h3
  have hmaxg : H.length ≤ maxLen := by
    rcases hl.g.2 with ⟨h, _⟩ | ⟨g, cap, cur, h, _, _, _, h3, _⟩
    · cases h
    · simp only [Value.slice.injEq] at h
      omega
  have hA : ((List.range n).map fun v => (⟨arcsL (swp H) v H.length, some ⟨gr, po H v, none⟩, gr, po H v, H.count (v : Int)⟩ : Ar)).length = n := by simp
  refine ⟨⟨s, t, H, R, (List.range n).map fun v => ⟨arcsL (swp H) v H.length, some ⟨gr, po H v, none⟩, gr, po H v, H.count (v : Int)⟩, aH, bH, 0, cH, aR, bR, 0, cR, gl, 0, n⟩, ⟨⟨c0, c1, hw.c2, hw.c3, ?_, hnl, hsH, hsR, hgl.2, ?_, ?_, ?_⟩, hw.r, ?_, ?_, ?_⟩, rfl, rfl, rfl, rfl, ?_, hA⟩
  · show _ = some (Value.slice (some ⟨gl, 0, none⟩) _ n)
    rw [hA]
    exact c4
  · show _ ≤ n ∧ n ≤ maxLen
    rw [hA]
    exact ⟨Nat.le_refl _, hmaxl⟩
  · intro k hk
    have hk' : k < n := by simpa using hk
    show w.cell? ⟨gl, 0 + k, none⟩ = _
    rw [Nat.zero_add, World.ownsRow.cellAt hl.l k (by omega), List.getElem?_map, List.getElem?_range hk']
    simp [Ar.val, lv]
  · intro r hr
    obtain ⟨v, hv, rfl⟩ := List.mem_map.1 hr
    rw [List.mem_range] at hv
    have hle := arcsL_le (swp H) v H.length (by rw [swp_length]; exact Nat.le_refl _)
    rw [swp_cnt _ _ H (Nat.le_refl _)] at hle
    have hcl : H.count (v : Int) ≤ H.length := List.count_le_length
    refine ⟨rfl, fun _ => rfl, fun _ => hgr.2, hle, by show H.count (v : Int) ≤ maxLen; omega, fun hh => (by cases hh), fun k hk => ?_⟩
    have hk' : k < (arcsL (swp H) v H.length).length := hk
    have ho := offs_le H (v + 1)
    have ho' : offs H (v + 1) = offs H v + H.count (v : Int) := rfl
    have hpo : po H v = offs H v := po_eq H v (by omega)
    have hc := hl.c v hv k _ (List.getElem?_eq_getElem hk')
    obtain ⟨h1, h2⟩ := List.getElem?_eq_some_iff.1 hc
    have := hl.g.at_ _ h1
    rw [h2] at this
    show w.cell? ⟨gr, po H v + k, none⟩ = _
    rw [hpo]
    exact this
  · intro k hk
    have h1 := hR k hk
    have h2 := (World.ownsRow.lt hw.r k hk).1
    exact ⟨by omega, by show k ≠ gl; omega⟩
  · intro k hk h0
    show k ≠ bH
    intro e
    subst e
    have h3 : (Value.slice aH H.length cH).ownBlock = some k := by
      have := hsH.ha h0
      subst this
      rfl
    exact hw.far k h3 hk
  · intro k hk r hr _
    obtain ⟨v, hv, rfl⟩ := List.mem_map.1 hr
    have h1 := hR k hk
    show k ≠ gr
    omega
  · show ((List.range n).map fun v => (⟨arcsL (swp H) v H.length, some ⟨gr, po H v, none⟩, gr, po H v, H.count (v : Int)⟩ : Ar)).map Ar.L = _
    rw [List.map_map]
    rfl
end Go.Proofs.Ytpcdbnlljdfogaa
