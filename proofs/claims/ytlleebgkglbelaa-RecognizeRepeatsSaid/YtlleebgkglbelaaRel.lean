/- Contracts of layer 14's reference: Element, Group. -/
import Derived.Test.YtlleebgkglbelaaCat
set_option linter.unusedSimpArgs false
set_option linter.unusedVariables false
namespace Go.Proofs.Ytlleebgkglbelaa
open Go.RowKit

/-- the index of the first element with a code, or -1 -/
def idxE (L : List El) (s : ByteArray) : Int := if L.findIdx (fun x => decide (x.c = s)) < L.length then ((L.findIdx (fun x => decide (x.c = s)) : Nat) : Int) else -1
theorem idxE_hit {L : List El} {s : ByteArray} {k : Nat} (hk : k < L.length) (he : (L[k]'hk).c = s) (hb : ∀ (j : Nat) (h : j < L.length), j < k → (L[j]'h).c ≠ s) : idxE L s = (k : Int) := by
  have : L.findIdx (fun x => decide (x.c = s)) = k := by
    rw [List.findIdx_eq hk]
    refine ⟨by simpa using he, fun j hj => ?_⟩
    simpa using hb j (by omega) hj
  unfold idxE
  rw [this, if_pos hk]
theorem idxE_miss {L : List El} {s : ByteArray} (hb : ∀ (j : Nat) (h : j < L.length), (L[j]'h).c ≠ s) : idxE L s = -1 := by
  have : L.findIdx (fun x => decide (x.c = s)) = L.length := by
    rw [List.findIdx_eq_length]
    intro x hx
    obtain ⟨k, hk, rfl⟩ := List.mem_iff_getElem.1 hx
    simpa using hb k hk
  unfold idxE
  rw [this, if_neg (by omega)]
def idxP (L : List Gp) (s : ByteArray) : Int := if L.findIdx (fun x => decide (x.c = s)) < L.length then ((L.findIdx (fun x => decide (x.c = s)) : Nat) : Int) else -1
theorem idxP_hit {L : List Gp} {s : ByteArray} {k : Nat} (hk : k < L.length) (he : (L[k]'hk).c = s) (hb : ∀ (j : Nat) (h : j < L.length), j < k → (L[j]'h).c ≠ s) : idxP L s = (k : Int) := by
  have : L.findIdx (fun x => decide (x.c = s)) = k := by
    rw [List.findIdx_eq hk]
    refine ⟨by simpa using he, fun j hj => ?_⟩
    simpa using hb j (by omega) hj
  unfold idxP
  rw [this, if_pos hk]
theorem idxP_miss {L : List Gp} {s : ByteArray} (hb : ∀ (j : Nat) (h : j < L.length), (L[j]'h).c ≠ s) : idxP L s = -1 := by
  have : L.findIdx (fun x => decide (x.c = s)) = L.length := by
    rw [List.findIdx_eq_length]
    intro x hx
    obtain ⟨k, hk, rfl⟩ := List.mem_iff_getElem.1 hx
    simpa using hb k hk
  unfold idxP
  rw [this, if_neg (by omega)]
set_option maxHeartbeats 4000000 in
set_option maxRecDepth 100000 in
theorem relem_any {w : World} {c : Ct} (h : CtOk w c) (s : ByteArray) : Calls Try.prog 36 #[c.val, .string s] w fun e w' => e = .returned (.int .i64 (idxE c.E s)) ∧ Below w.heap.size w w' := by
  have hl0 := h.e.hl
  have hle : c.ne ≤ 9223372036854775807 := by have := h.e.hcap; have := h.e.hmax; unfold maxLen at this; omega
  have HN := Lib.hid (ct_new w c 27)
  have HB0 := Lib.hid (show Below w.heap.size w (w.alloc (.cells #[.slice c.ag c.ng c.cg, .slice c.ak c.nk c.ck, .slice c.ae c.ne c.ce, .slice c.ac c.nc c.cc] 27)) from (by repeat (first | with_reducible exact Below.refl _ _ | (with_reducible refine Below.setCell ?_ (by first | exact Nat.le_refl _ | omega | (simp; done) | (simp; omega)) _) | (with_reducible refine Below.alloc ?_ (by first | exact Nat.le_refl _ | omega | (simp; done) | (simp; omega)) _) | with_reducible refine Below.drew ?_ | with_reducible refine bel_drewN ?_ _ | (with_reducible refine bel_by (by with_reducible assumption) (by first | exact Nat.le_refl _ | omega | (simp; done) | (simp; omega)) ?_))))
  have HS := Lib.hid (h.e.keep ((Below.refl _ _).alloc (Nat.le_refl _) (.cells #[.slice c.ag c.ng c.cg, .slice c.ak c.nk c.ck, .slice c.ae c.ne c.ce, .slice c.ac c.nc c.cc] 27)))
  have HH := Lib.hid (fun k (hk : k < c.E.length) he hb => idxE_hit (L := c.E) (s := s) hk he hb)
  have HM := Lib.hid (fun hb => idxE_miss (L := c.E) (s := s) hb)
  obtain ⟨r, hr⟩ : ∃ r, idxE c.E s = r := ⟨_, rfl⟩
  rw [hr] at HH HM ⊢
  clear h hr
  unfold Ct.val
  obtain ⟨ag, bg, og, ng, cg, ak, bk, ok, nk, ck, ae, be, oe, ne, ce, ac, bc, oc, nc, cc, G, K, E, X⟩ := c
  simp only at hl0 hle HN HB0 HS HH HM ⊢
  go_enter Try.func36, Try.ntmps36
  go_wp2_with fail
  obtain ⟨z0, z1, z2, z3, zf, zl⟩ := HN.out
  simp only at z0 z1 z2 z3
  go_wp2_with fail
  go_loop [5] (fun s5 => ∃ k : Nat, k ≤ ne ∧ s5 = .int .i64 (k : Int) ∧ Hid (∀ (j : Nat) (h : j < E.length), j < k → (E[j]'h).c ≠ s)) (fun s5 => (ne - (intOf s5)).toNat)
  case atStart => exact ⟨0, Nat.zero_le _, rfl, Lib.hid (fun j _ h => absurd h (Nat.not_lt_zero j))⟩
  case round =>
    obtain ⟨k, hk, rfl, HK⟩ := hrel
    by_cases hlt : k < ne
    · have hl : (k : Int) < (ne : Int) := by omega
      have hkL : k < E.length := by omega
      have S := HS.out
      obtain rfl := S.ha (by omega)
      have sb := S.hb (by omega)
      have c0 := S.c0 k hkL
      clear S
      cases he : ((E[k]'hkL).c.toList == s.toList) with
      | true =>
        have HR := Lib.hid (HH.out k hkL (eq_iff.1 he) HK.out)
        go_wp2_with fail
        go_ret
        exact ⟨by rw [← HR.out]; rfl, HB0.out⟩
      | false =>
        have HE := Lib.hid (eq_no.1 he)
        go_wp2_with fail
        go_round
        case rel =>
          refine ⟨k + 1, by omega, by go_num, Lib.hid (fun j h hj => ?_)⟩
          by_cases e : j = k
          · subst e; exact HE.out
          · exact HK.out j h (by omega)
        case measure => simp [intOf]; omega
    · obtain rfl : k = ne := by omega
      have hl : ¬ (k : Int) < (k : Int) := by omega
      have HR := Lib.hid (HM.out (fun j h => HK.out j h (by omega)))
      go_wp2_with fail
      go_ret
      exact ⟨by rw [← HR.out]; rfl, HB0.out⟩
set_option maxHeartbeats 4000000 in
set_option maxRecDepth 100000 in
theorem rgroup_any {w : World} {c : Ct} (h : CtOk w c) (s : ByteArray) : Calls Try.prog 57 #[c.val, .string s] w fun e w' => e = .returned (.int .i64 (idxP c.G s)) ∧ Below w.heap.size w w' := by
  have hl0 := h.g.hl
  have hle : c.ng ≤ 9223372036854775807 := by have := h.g.hcap; have := h.g.hmax; unfold maxLen at this; omega
  have HN := Lib.hid (ct_new w c 27)
  have HB0 := Lib.hid (show Below w.heap.size w (w.alloc (.cells #[.slice c.ag c.ng c.cg, .slice c.ak c.nk c.ck, .slice c.ae c.ne c.ce, .slice c.ac c.nc c.cc] 27)) from (by repeat (first | with_reducible exact Below.refl _ _ | (with_reducible refine Below.setCell ?_ (by first | exact Nat.le_refl _ | omega | (simp; done) | (simp; omega)) _) | (with_reducible refine Below.alloc ?_ (by first | exact Nat.le_refl _ | omega | (simp; done) | (simp; omega)) _) | with_reducible refine Below.drew ?_ | with_reducible refine bel_drewN ?_ _ | (with_reducible refine bel_by (by with_reducible assumption) (by first | exact Nat.le_refl _ | omega | (simp; done) | (simp; omega)) ?_))))
  have HS := Lib.hid (h.g.keep ((Below.refl _ _).alloc (Nat.le_refl _) (.cells #[.slice c.ag c.ng c.cg, .slice c.ak c.nk c.ck, .slice c.ae c.ne c.ce, .slice c.ac c.nc c.cc] 27)))
  have HH := Lib.hid (fun k (hk : k < c.G.length) he hb => idxP_hit (L := c.G) (s := s) hk he hb)
  have HM := Lib.hid (fun hb => idxP_miss (L := c.G) (s := s) hb)
  obtain ⟨r, hr⟩ : ∃ r, idxP c.G s = r := ⟨_, rfl⟩
  rw [hr] at HH HM ⊢
  clear h hr
  unfold Ct.val
  obtain ⟨ag, bg, og, ng, cg, ak, bk, ok, nk, ck, ae, be, oe, ne, ce, ac, bc, oc, nc, cc, G, K, E, X⟩ := c
  simp only at hl0 hle HN HB0 HS HH HM ⊢
  go_enter Try.func57, Try.ntmps57
  go_wp2_with fail
  obtain ⟨z0, z1, z2, z3, zf, zl⟩ := HN.out
  simp only at z0 z1 z2 z3
  go_wp2_with fail
  go_loop [5] (fun s5 => ∃ k : Nat, k ≤ ng ∧ s5 = .int .i64 (k : Int) ∧ Hid (∀ (j : Nat) (h : j < G.length), j < k → (G[j]'h).c ≠ s)) (fun s5 => (ng - (intOf s5)).toNat)
  case atStart => exact ⟨0, Nat.zero_le _, rfl, Lib.hid (fun j _ h => absurd h (Nat.not_lt_zero j))⟩
  case round =>
    obtain ⟨k, hk, rfl, HK⟩ := hrel
    by_cases hlt : k < ng
    · have hl : (k : Int) < (ng : Int) := by omega
      have hkL : k < G.length := by omega
      have S := HS.out
      obtain rfl := S.ha (by omega)
      have sb := S.hb (by omega)
      have c0 := S.c0 k hkL
      clear S
      cases he : ((G[k]'hkL).c.toList == s.toList) with
      | true =>
        have HR := Lib.hid (HH.out k hkL (eq_iff.1 he) HK.out)
        go_wp2_with fail
        go_ret
        exact ⟨by rw [← HR.out]; rfl, HB0.out⟩
      | false =>
        have HE := Lib.hid (eq_no.1 he)
        go_wp2_with fail
        go_round
        case rel =>
          refine ⟨k + 1, by omega, by go_num, Lib.hid (fun j h hj => ?_)⟩
          by_cases e : j = k
          · subst e; exact HE.out
          · exact HK.out j h (by omega)
        case measure => simp [intOf]; omega
    · obtain rfl : k = ng := by omega
      have hl : ¬ (k : Int) < (k : Int) := by omega
      have HR := Lib.hid (HM.out (fun j h => HK.out j h (by omega)))
      go_wp2_with fail
      go_ret
      exact ⟨by rw [← HR.out]; rfl, HB0.out⟩
end Go.Proofs.Ytlleebgkglbelaa
