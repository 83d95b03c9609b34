/- slices.Concat of two slices of strings. -/
import Derived.Test.YtflpehpjemlphaaDoorGrow
import Derived.Test.YtflpehpjemlphaaDoorBin
import Derived.Lib.SlFresh
import Derived.Laws.OwnMore
set_option linter.unusedSimpArgs false
set_option linter.unusedVariables false
namespace Go.Proofs.YtflpehpjemlphaaDoor
open Go.RowKit

def CatPost (w : World) (L : List ByteArray) (e : Ending) (w' : World) : Prop :=
  ∃ v, e = .returned v ∧ w'.ownsRow w.heap.size 9 1 v L.length (L.map Value.string) ∧ Below w.heap.size w w'
theorem strs_one (L : List ByteArray) : ∀ u ∈ L.map Value.string, u.oneCell' = true := by
  intro u hu
  obtain ⟨x, _, rfl⟩ := List.mem_map.1 hu
  rfl
theorem SlS.news {w : World} {a : Option Addr} {b off len cap : Nat} {L : List ByteArray} (h : SlS w a b off len cap L) :
    ∀ ad, a = some ad → ∀ j u, (L.map Value.string)[j]? = some u → w.cell? (ad.add j) = some u := by
  intro ad ha j u hu
  rw [List.getElem?_map] at hu
  cases hj : L[j]? with
  | none => rw [hj] at hu; simp at hu
  | some x =>
    rw [hj] at hu
    simp only [Option.map_some, Option.some.injEq] at hu
    obtain ⟨hjl, hx⟩ := List.getElem?_eq_some_iff.1 hj
    have h1 := h.ha (by rw [← h.hl]; omega)
    rw [ha] at h1
    simp only [Option.some.injEq] at h1
    subst h1
    rw [Addr.add_lit, h.cell j hjl, hx, hu]
theorem SlS.nil {w : World} {a : Option Addr} {b off len cap : Nat} {L : List ByteArray} (h : SlS w a b off len cap L) (hc : a = none → cap = 0) : a = none → len = 0 ∧ cap = 0 := by
  intro e
  have := hc e
  have := h.hcap
  exact ⟨by omega, by omega⟩
theorem append_nothing (i : TypeInfo) (hi : Tryd.prog.info? 9 = some i) (a : Option Addr) (c : Nat) (ty : TypeId) (w : World) :
    (Builtin.append_ #[22, 22] ty #[.slice none 0 0, .slice a 0 c]).run Tryd.prog w = .ok (.slice none 0 0) w := by
  cases a with
  | none => simp [Builtin.append_, run_underlying Tryd.underlying22, sizeOf, typeInfo, hi, Builtin.lenOf, Builtin.firstCells]
  | some ad =>
    have := run_firstCells_some (P := Tryd.prog) w i.size 0 ad 0 c [] (by simp) (by simp)
    simp [Builtin.append_, run_underlying Tryd.underlying22, sizeOf, typeInfo, hi, Builtin.lenOf, this]
set_option maxHeartbeats 1000000 in
set_option maxRecDepth 100000 in
theorem concat_any {a a' : Option Addr} {b b' off off' len len' cap cap' : Nat} {A B : List ByteArray} {w : World} (hA : SlS w a b off len cap A) (hB : SlS w a' b' off' len' cap' B) (na : a = none → cap = 0) (nb : a' = none → cap' = 0)
    (gb go : Nat) (hg : gb < w.heap.size) (c0 : w.cell? ⟨gb, go, none⟩ = some (.slice a len cap)) (c1 : w.cell? ⟨gb, go + 1, none⟩ = some (.slice a' len' cap')) (h1 : len ≤ 500000) (h2 : len' ≤ 500000) :
    Calls Tryd.prog 27 #[.slice (some ⟨gb, go, none⟩) 2 2] w (CatPost w (A ++ B)) := by
  obtain ⟨i0, hi, hz0, hz1, hz2⟩ := info_parts infoS
  have HA := Lib.hid hA
  have HB := Lib.hid hB
  clear hA hB
  by_cases h0 : len + len' = 0
  · obtain rfl : len = 0 := by omega
    obtain rfl : len' = 0 := by omega
    have eA : A = [] := List.eq_nil_of_length_eq_zero HA.out.hl
    have eB : B = [] := List.eq_nil_of_length_eq_zero HB.out.hl
    subst eA eB
    clear HA HB
    have ra := append_nothing i0 hi a cap
    have rb := append_nothing i0 hi a' cap'
    go_enter Tryd.func27, Tryd.ntmps27
    go_wp2_with fail
    refine wp_loop_rounds 3 ?_
    rw [rounds_succ]
    go_wp2_with fail
    rw [rounds_succ]
    go_wp2_with fail
    rw [rounds_succ]
    go_wp2_with fail
    refine (grow_zero w).mono ?_
    rintro e w1 ⟨rfl, rfl⟩
    go_wp2_with fail
    refine wp_loop_rounds 3 ?_
    rw [rounds_succ]
    go_wp2_with (at_builtin; refine Lib.wpList_append_run_sl _ rfl _ _ 22 rfl (.slice none 0 0) (.slice a 0 cap) rfl rfl (ra _ _) ?_)
    rw [rounds_succ]
    go_wp2_with (at_builtin; refine Lib.wpList_append_run_sl _ rfl _ _ 22 rfl (.slice none 0 0) (.slice a' 0 cap') rfl rfl (rb _ _) ?_)
    rw [rounds_succ]
    go_wp2
    go_ret
    exact ⟨.slice none 0 0, rfl, World.ownsRow_nil w1 _ _ _, Below.refl _ _⟩
  · go_enter Tryd.func27, Tryd.ntmps27
    go_wp2_with fail
    refine wp_loop_rounds 3 ?_
    rw [rounds_succ]
    go_wp2_with fail
    rw [rounds_succ]
    go_wp2_with fail
    rw [rounds_succ]
    go_wp2_with fail
    have gr := grow_none (len + len') w (by omega) (by omega)
    rw [Int.natCast_add] at gr
    refine gr.mono ?_
    rintro e w1 ⟨G, hG1, hG2, rfl, rfl⟩
    have hB1 : Below w.heap.size w (w.drew.alloc (.cells (List.replicate G (Value.string ⟨#[]⟩)).toArray 9)) := (by repeat (first | with_reducible exact Below.refl _ _ | (with_reducible refine Below.setCell ?_ (by first | exact Nat.le_refl _ | omega | (simp; done) | (simp; omega)) _) | (with_reducible refine Below.alloc ?_ (by first | exact Nat.le_refl _ | omega | (simp; done) | (simp; omega)) _) | with_reducible refine Below.drew ?_ | with_reducible refine bel_drewN ?_ _ | (with_reducible refine bel_by (by with_reducible assumption) (by first | exact Nat.le_refl _ | omega | (simp; done) | (simp; omega)) ?_)))
    have hown1 : (w.drew.alloc (.cells (List.replicate G (Value.string ⟨#[]⟩)).toArray 9)).ownsRow w.heap.size 9 1 (.slice (some ⟨w.heap.size, 0, none⟩) 0 G) 0 [] := by
      refine ⟨rfl, Or.inr ⟨w.heap.size, G, _, rfl, Nat.le_refl _, heap_alloc_new w.drew _, Nat.zero_le _, hG2, by simp, by simp⟩⟩
    generalize w.drew.alloc (.cells (List.replicate G (Value.string ⟨#[]⟩)).toArray 9) = w1 at *
    clear gr
    have HA1 := Lib.hid (HA.out.keep hB1)
    have HB1 := Lib.hid (HB.out.keep hB1)
    have c01 : w1.cell? ⟨gb, go, none⟩ = some (.slice a len cap) := (hB1.cell (p := ⟨gb, go, none⟩) hg).trans c0
    have HW := Lib.hid hB1
    have hg1 : w.heap.size ≤ w1.heap.size := hB1.size
    clear hB1
    go_wp2_with fail
    refine wp_loop_rounds 3 ?_
    rw [rounds_succ]
    go_wp2_with (at_builtin; refine wpList_append_fits_any _ rfl _ _ 22 rfl w.heap.size 9 i0 1 Tryd.underlying22 hi hz1 w.heap.size 0 G [] rfl hown1 a len cap (A.map Value.string) rfl (by simp [HA.out.hl]) ?hn ?hc ?h1 ?b1 ?k)
    case hn => exact HA1.out.nil na
    case hc => exact HA1.out.news
    case h1 => exact strs_one A
    case b1 => omega
    case k =>
      intro w2 hown2 hgrow2
      have hB2 := HW.out.grown hgrow2 hg1 (by simp)
      have HB2 := Lib.hid (HB.out.keep hB2)
      have c12 : w2.cell? ⟨gb, go + 1, none⟩ = some (.slice a' len' cap') := (hB2.cell (p := ⟨gb, go + 1, none⟩) hg).trans c1
      have HW2 := Lib.hid hB2
      have hg2 : w.heap.size ≤ w2.heap.size := hB2.size
      clear hB2 hgrow2 HB1 HA1 HW hown1
      go_wp2_with fail
      rw [rounds_succ]
      go_wp2_with (at_builtin; refine wpList_append_fits_any _ rfl _ _ 22 rfl w.heap.size 9 i0 1 Tryd.underlying22 hi hz1 w.heap.size len G (A.map Value.string) rfl hown2 a' len' cap' (B.map Value.string) rfl (by simp [HB.out.hl]) ?hn ?hc ?h1 ?b1 ?k)
      case hn => exact HB2.out.nil nb
      case hc => exact HB2.out.news
      case h1 => exact strs_one B
      case b1 => omega
      case k =>
        intro w3 hown3 hgrow3
        have HW3 := Lib.hid (HW2.out.grown hgrow3 hg2 (by simp))
        clear hgrow3 HB2 HW2 hown2
        go_wp2_with fail
        rw [rounds_succ]
        go_wp2
        go_ret
        exact ⟨.slice (some ⟨w.heap.size, 0, none⟩) (len + len') G, rfl, by simpa [List.map_append, HA.out.hl, HB.out.hl] using hown3, HW3.out⟩
end Go.Proofs.YtflpehpjemlphaaDoor
