/- filled: pushes from the source to the sink until there is no path. -/
import Derived.Test.YtpcdbnlljdfogaaPsw
set_option linter.unusedSimpArgs false
set_option linter.unusedVariables false
namespace Go.Proofs.Ytpcdbnlljdfogaa
open Go.RowKit

def fillO (H : List Int) (A : List (List Int)) (s t : Int) (F : Nat) : Nat → List Int → Option (List Int)
  | 0, _ => none
  | k + 1, R => match pushP H R A s t F with
    | some (true, R') => fillO H A s t F k R'
    | some (false, R') => some R'
    | none => none
theorem fill_step {H : List Int} {A : List (List Int)} {s t : Int} {F k : Nat} {R Rf : List Int} (h : fillO H A s t F k R = some Rf) :
    ∃ k' b R', k' < k ∧ pushP H R A s t F = some (b, R') ∧ (b = false → R' = Rf) ∧ (b = true → fillO H A s t F k' R' = some Rf) := by
  cases k with
  | zero => simp [fillO] at h
  | succ k =>
    unfold fillO at h
    cases hp : pushP H R A s t F with
    | none => rw [hp] at h; cases h
    | some q =>
      obtain ⟨b, R'⟩ := q
      rw [hp] at h
      cases b with
      | true => exact ⟨k, true, R', Nat.lt_succ_self k, rfl, (fun h => by cases h), fun _ => h⟩
      | false => exact ⟨k, false, R', Nat.lt_succ_self k, rfl, (fun _ => by simpa using h), fun h => by cases h⟩
theorem netR_len (g : Gph) : (netR g).length = 2 * (g.E.length + g.L.length + g.R.length) := by
  unfold netR; rw [List.length_append, List.length_append, roomE_len, roomC_len, roomC_len]; omega
theorem netH_len (g : Gph) : (netH g).length = 2 * (g.E.length + g.L.length + g.R.length) := by
  unfold netH; rw [List.length_append, List.length_append, headE_len, headL_len, headR_len]; omega
theorem netR_ok (g : Gph) (hL : ∀ x ∈ g.L, 0 ≤ x ∧ x ≤ 1000) (hR : ∀ x ∈ g.R, 0 ≤ x ∧ x ≤ 1000) : ∀ x ∈ netR g, 0 ≤ x ∧ x ≤ 1000 := by
  intro x hx
  unfold netR roomE roomC at hx
  rw [List.mem_append, List.mem_append, List.mem_flatMap, List.mem_flatMap, List.mem_flatMap] at hx
  rcases hx with (⟨e, he, hx⟩ | ⟨e, he, hx⟩) | ⟨e, he, hx⟩
  · simp at hx; omega
  · have := hL e he; simp at hx; omega
  · have := hR e he; simp at hx; omega
theorem net_wf {g : Gph} {N : Nt} (hc : chk g = 0) (h1 : N.H = netH g) (h2 : N.R = netR g) (h3 : N.arcs = arcsA (netH g) (g.L.length + g.R.length + 2)) (h4 : N.A.length = g.L.length + g.R.length + 2) : NtWf N := by
  obtain ⟨l1, l2, l3, hL, hR, hE, hN⟩ := chk_ok hc
  have hlH := netH_len g
  have hlR := netR_len g
  refine ⟨by rw [h1, h2]; omega, by rw [h1]; omega, by omega, ?_, ?_, ?_⟩
  · rw [h1, h4]
    exact netH_ok g hE
  · intro r hr x hx
    have hm : r.L ∈ N.arcs := List.mem_map_of_mem hr
    rw [h3] at hm
    unfold arcsA at hm
    obtain ⟨v, hv, hvr⟩ := List.mem_map.1 hm
    rw [← hvr] at hx
    obtain ⟨a, rfl, ha, _⟩ := (arcsL_mem _ _ _ _).1 hx
    rw [h1]
    omega
  · rw [h2]
    intro x hx
    have := netR_ok g hL hR x hx
    omega
/-- a network of a graph: all but its rooms -/
structure NetOf (g : Gph) (N : Nt) : Prop where
  s : N.s = (g.L.length : Int) + (g.R.length : Int)
  t : N.t = (g.L.length : Int) + (g.R.length : Int) + 1
  h : N.H = netH g
  a : N.arcs = arcsA (netH g) (g.L.length + g.R.length + 2)
  n : N.A.length = g.L.length + g.R.length + 2
def fillG (g : Gph) (F K : Nat) : Option (List Int) := fillO (netH g) (arcsA (netH g) (g.L.length + g.R.length + 2)) ((g.L.length + g.R.length : Nat) : Int) ((g.L.length + g.R.length + 1 : Nat) : Int) F K (netR g)
set_option maxHeartbeats 8000000 in
set_option maxRecDepth 100000 in
theorem fil_any (g : Gph) (w : World) (hg : GpAt w g) (hc : chk g = 0) (F K : Nat) (Rf : List Int) (hf : fillG g F K = some Rf) :
    Calls Try.prog 39 #[g.val] w fun e w' => ∃ nb N, e = .returned (.pointer (some ⟨nb, 0, none⟩)) ∧ NtO w' w.heap.size nb N ∧ NetOf g N ∧ NtWf N ∧ N.R = Rf ∧ Below w.heap.size w w' := by
  have HB1 := Lib.hid ((Below.refl w.heap.size w).alloc (Nat.le_refl _) (.cells #[.slice g.aL g.L.length g.cL, .slice g.aR g.R.length g.cR, .slice g.aE g.E.length g.cE] 25))
  have HEm := Lib.hid (emp_any g (w.alloc (.cells #[.slice g.aL g.L.length g.cL, .slice g.aR g.R.length g.cR, .slice g.aE g.E.length g.cE] 25)) (hg.keep HB1.out) hc)
  have HWn := Lib.hid (fun N h1 h2 h3 h4 => net_wf (g := g) (N := N) hc h1 h2 h3 h4)
  have HFl := Lib.hid hf
  have hlH := netH_len g
  have HEv := Lib.hid (show (netH g).length % 2 = 0 by omega)
  clear hg hc hf hlH
  unfold Gph.val at HEm ⊢
  unfold fillG at HFl
  obtain ⟨nl, hnl⟩ : ∃ y, y = g.L.length := ⟨_, rfl⟩
  obtain ⟨nr, hnr⟩ : ∃ y, y = g.R.length := ⟨_, rfl⟩
  obtain ⟨ne, hne⟩ : ∃ y, y = g.E.length := ⟨_, rfl⟩
  have HNo := Lib.hid (fun N a b c d e => NetOf.mk (g := g) (N := N) a b c d e)
  rw [← hnl, ← hnr, ← hne] at HB1 HEm ⊢
  rw [← hnl, ← hnr] at HWn HFl HNo
  clear hnl hnr hne
  go_enter Try.func39, Try.ntmps39
  go_wp2_with fail
  refine HEm.out.mono ?_
  rintro e w2 ⟨nb, N, rfl, hN, e1, e2, e3, e4, e5, e6, hb⟩
  have HN := Lib.hid hN
  have HB2 := Lib.hid (HB1.out.trans (hb.mono (by simp)))
  have HW := Lib.hid (HWn.out N e3 e4 e5 e6)
  have HNf := Lib.hid (HNo.out N e1 e2 e3 e5 e6)
  have hAl := HW.out.asz
  rw [← e3] at HEv HFl
  rw [e3, ← e5] at HFl
  rw [← e3, ← e4] at HFl
  have HHs := Lib.hid e3
  have hNb := (HN.out.at_.lt)
  have h23 := HB2.out.size
  clear hN hb HEm HWn HNo e3 e4 e5 HB1
  have HN0 := Lib.hid (show NtO w2 w.heap.size nb (N.room N.R) from ⟨HN.out.at_, HN.out.own.mono (by simp; omega), HN.out.nb, HN.out.hb, HN.out.rb⟩)
  have HW0 := Lib.hid (show NtWf (N.room N.R) from HW.out)
  have he1 : N.s = ((nl + nr : Nat) : Int) := by rw [e1]; omega
  have he2 : N.t = ((nl + nr + 1 : Nat) : Int) := by rw [e2]; omega
  clear e1 e2 HN hNb h23
  go_wp2_with fail
  go_loopg [6] K (fun k _ wq => ∃ (Rk : List Int), Hid (fillO N.H N.arcs ((nl + nr : Nat) : Int) ((nl + nr + 1 : Nat) : Int) F k Rk = some Rf) ∧ Hid (NtO wq w.heap.size nb (N.room Rk)) ∧ Hid (NtWf (N.room Rk)) ∧ Hid (Below w.heap.size w wq))
  case atStart => exact ⟨N.R, HFl, HN0, HW0, HB2⟩
  case round =>
    clear HFl HN0 HW0 HB2
    obtain ⟨Rk, HFk, HNk, HWk, HB⟩ := hrel
    obtain ⟨k', b, R', hk', hp, hbf, hbt⟩ := fill_step HFk.out
    have c0 := HNk.out.at_.c0
    have c1 := HNk.out.at_.c1
    replace c0 : wr.cell? ⟨nb, 0, none⟩ = some (.int .i64 ((nl + nr : Nat) : Int)) := by rw [← he1]; exact c0
    replace c1 : wr.cell? ⟨nb, 1, none⟩ = some (.int .i64 ((nl + nr + 1 : Nat) : Int)) := by rw [← he2]; exact c1
    have HPs := Lib.hid (psh_any (N.room Rk) nb w.heap.size F wr.drew (HNk.out.keep (Below.refl _ _).drew) HWk.out HEv.out (nl + nr) (nl + nr + 1) (by show _ < N.A.length; omega) (by show _ < N.A.length; omega) b R' hp)
    have Hbf := Lib.hid hbf
    have Hbt := Lib.hid hbt
    have HRo := Lib.hid (fun k hk => (World.ownsRow.lt HNk.out.own k hk).1)
    have hwr := HB.out.size
    clear hp hbf hbt HNk HWk HFk
    go_wp2_with fail
    refine wp_region_s (fun w' => w'.cell? ⟨nb, 0, none⟩ = some (.int .i64 ((nl + nr : Nat) : Int)) ∧ w'.cell? ⟨nb, 1, none⟩ = some (.int .i64 ((nl + nr + 1 : Nat) : Int))) 9 (by kernel_rfl) ?_
    refine AnyS.take0 (i := 0) (v := (.pointer (some ⟨nb, 0, none⟩))) rfl (by kernel_rfl) (by kernel_rfl) (by kernel_rfl) (by kernel_rfl) (fun _ _ _ h => h) (fun _ => ⟨c0, c1⟩) (Or.inl ⟨by rfl, fun w' _ => (by go_simp)⟩) ?_
    simp only [Act.put, List.setIfInBounds_toArray, List.set_cons_zero, List.set_cons_succ]
    refine AnyS.take0 (i := 1) (v := (.pointer (some ⟨nb, 0, none⟩))) rfl (by kernel_rfl) (by kernel_rfl) (by kernel_rfl) (by kernel_rfl) (fun _ _ _ h => h) (fun _ => ⟨c0, c1⟩) (Or.inl ⟨by rfl, fun w' _ => (by go_simp)⟩) ?_
    simp only [Act.put, List.setIfInBounds_toArray, List.set_cons_zero, List.set_cons_succ]
    refine AnyS.take0 (i := 2) (v := (.pointer (some ⟨nb, 0, none⟩))) rfl (by kernel_rfl) (by kernel_rfl) (by kernel_rfl) (by kernel_rfl) (fun _ _ _ h => h) (fun _ => ⟨c0, c1⟩) (Or.inl ⟨by rfl, fun w' _ => (by go_simp)⟩) ?_
    simp only [Act.put, List.setIfInBounds_toArray, List.set_cons_zero, List.set_cons_succ]
    refine AnyS.take0 (i := 3) (v := (.pointer (some ⟨nb, 0, none⟩))) rfl (by kernel_rfl) (by kernel_rfl) (by kernel_rfl) (by kernel_rfl) (fun _ _ _ h => h) (fun _ => ⟨c0, c1⟩) (Or.inl ⟨by rfl, fun w' _ => (by go_simp)⟩) ?_
    simp only [Act.put, List.setIfInBounds_toArray, List.set_cons_zero, List.set_cons_succ]
    refine AnyS.take (i := 4) (v := (.int .i64 ((nl + nr : Nat) : Int))) [9] rfl (by kernel_rfl) (by kernel_rfl) (by kernel_rfl) (by kernel_rfl) (fun _ _ _ h => h) ⟨c0, c1⟩ (Or.inl ⟨by rfl, fun w' hw' => (by obtain ⟨t0, t1⟩ := hw'; go_simp)⟩) ?_
    simp only [Act.put, List.setIfInBounds_toArray, List.set_cons_zero, List.set_cons_succ]
    refine AnyS.take0 (i := 5) (v := (.pointer (some ⟨nb, 0, none⟩))) rfl (by kernel_rfl) (by kernel_rfl) (by kernel_rfl) (by kernel_rfl) (fun _ _ _ h => h) (fun _ => ⟨c0, c1⟩) (Or.inl ⟨by rfl, fun w' _ => (by go_simp)⟩) ?_
    simp only [Act.put, List.setIfInBounds_toArray, List.set_cons_zero, List.set_cons_succ]
    refine AnyS.take0 (i := 6) (v := (.pointer (some ⟨nb, 0, none⟩))) rfl (by kernel_rfl) (by kernel_rfl) (by kernel_rfl) (by kernel_rfl) (fun _ _ _ h => h) (fun _ => ⟨c0, c1⟩) (Or.inl ⟨by rfl, fun w' _ => (by go_simp)⟩) ?_
    simp only [Act.put, List.setIfInBounds_toArray, List.set_cons_zero, List.set_cons_succ]
    refine AnyS.take0 (i := 7) (v := (.pointer (some ⟨nb, 1, none⟩))) rfl (by kernel_rfl) (by kernel_rfl) (by kernel_rfl) (by kernel_rfl) (fun _ _ _ h => h) (fun _ => ⟨c0, c1⟩) (Or.inl ⟨by rfl, fun w' _ => (by go_simp)⟩) ?_
    simp only [Act.put, List.setIfInBounds_toArray, List.set_cons_zero, List.set_cons_succ]
    refine AnyS.take (i := 8) (v := (.int .i64 ((nl + nr + 1 : Nat) : Int))) [9] rfl (by kernel_rfl) (by kernel_rfl) (by kernel_rfl) (by kernel_rfl) (fun _ _ _ h => h) ⟨c0, c1⟩ (Or.inl ⟨by rfl, fun w' hw' => (by obtain ⟨t0, t1⟩ := hw'; go_simp)⟩) ?_
    simp only [Act.put, List.setIfInBounds_toArray, List.set_cons_zero, List.set_cons_succ]
    refine AnyS.step (j := 9) rfl (by kernel_rfl) (fun K hK => ?_)
    go_simp
    refine HPs.out.mono ?_
    rintro e w3 ⟨rfl, hN3, hW3, hg3⟩
    have HN3 := Lib.hid (show NtO w3 w.heap.size nb (N.room R') from hN3)
    have HW3 := Lib.hid (show NtWf (N.room R') from hW3)
    have HB3 := Lib.hid (HB.out.drew.trans (Gby.below hg3 (by show w.heap.size ≤ wr.heap.size; exact hwr) HRo.out))
    clear hN3 hW3 hg3 HPs HB HRo
    refine hK.out _ _ (fun h => absurd h (by decide)) ?_
    clear hK c0 c1
    refine AnyS.rest 10 (by kernel_rfl) rfl (by kernel_rfl) ?_
    change wpList _ _ _ [] _ _
    cases b with
    | true =>
      have HFn := Lib.hid (Hbt.out rfl)
      go_wp2_with fail
      go_roundg k'
      case measure => exact hk'
      case rel => exact ⟨_, HFn, HN3, HW3, HB3⟩
    | false =>
      have hRf := Hbf.out rfl
      subst hRf
      go_wp2_with fail
      go_ret
      exact ⟨nb, rfl, N.room R', HN3.out, ⟨HNf.out.s, HNf.out.t, HNf.out.h, HNf.out.a, HNf.out.n⟩, HW3.out, rfl, HB3.out⟩
end Go.Proofs.Ytpcdbnlljdfogaa
