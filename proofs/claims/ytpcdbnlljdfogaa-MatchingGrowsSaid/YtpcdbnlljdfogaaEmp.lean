/- empty: the network of a graph without a flow. -/
import Derived.Test.YtpcdbnlljdfogaaNto
set_option linter.unusedSimpArgs false
set_option linter.unusedVariables false
namespace Go.Proofs.Ytpcdbnlljdfogaa
open Go.RowKit

def headE (nl : Nat) (E : List (Int × Int)) : List Int := E.flatMap fun e => [(nl : Int) + e.2, e.1]
def headL (src : Int) (n : Nat) : List Int := (List.range n).flatMap fun (i : Nat) => [(i : Int), src]
def headR (nl : Nat) (snk : Int) (n : Nat) : List Int := (List.range n).flatMap fun (i : Nat) => [snk, ((nl + i : Nat) : Int)]
def roomC (L : List Int) : List Int := L.flatMap fun c => [c, 0]
def roomE (n : Nat) : List Int := (List.range n).flatMap fun _ => [1, 0]
def netH (g : Gph) : List Int := headE g.L.length g.E ++ headL ((g.L.length + g.R.length : Nat) : Int) g.L.length ++ headR g.L.length ((g.L.length + g.R.length + 1 : Nat) : Int) g.R.length
def netR (g : Gph) : List Int := roomE g.E.length ++ roomC g.L ++ roomC g.R
theorem Rws.keep {w w' : World} {B nb : Nat} {vH vR : Value} {H R : List Int} (h : Rws w B nb vH vR H R) (hn : nb < w.heap.size) (hB : Below w.heap.size w w') : Rws w' B nb vH vR H R :=
  ⟨(hB.cell (p := ⟨nb, 2, none⟩) hn).trans h.c2, (hB.cell (p := ⟨nb, 3, none⟩) hn).trans h.c3, (hB.frozen (p := ⟨nb, 2, none⟩) hn).trans h.f2, (hB.frozen (p := ⟨nb, 3, none⟩) hn).trans h.f3, h.h.keep hB, h.r.keep hB, h.far⟩
theorem Gon.below {B C nb : Nat} {w w' : World} (h : Gon B nb w w') (h1 : C ≤ nb) (h2 : C ≤ B) : Below C w w' :=
  ⟨h.os, h.tape, h.output, h.size, fun k hk => h.block k (Nat.lt_of_lt_of_le hk h2) (by omega)⟩
theorem Gon.far {B nb b o : Nat} {w w' : World} (h : Gon B nb w w') (hb : b < B) (hn : b ≠ nb) : w'.cell? ⟨b, o, none⟩ = w.cell? ⟨b, o, none⟩ := by
  unfold World.cell?
  rw [h.block b hb hn]
theorem fm_take {α : Type} {l : List α} {f : α → List Int} {k : Nat} (hk : k < l.length) : (l.take (k + 1)).flatMap f = (l.take k).flatMap f ++ f (l[k]'hk) := by
  rw [List.take_add_one, List.getElem?_eq_getElem hk, List.flatMap_append]
  simp
theorem fm_range {f : Nat → List Int} {k : Nat} : (List.range (k + 1)).flatMap f = (List.range k).flatMap f ++ f k := by
  rw [List.range_succ, List.flatMap_append]
  simp
theorem fm_len {α : Type} {l : List α} {f : α → List Int} (h : ∀ x, (f x).length = 2) : (l.flatMap f).length = 2 * l.length := by
  induction l with
  | nil => rfl
  | cons a r ih => rw [List.flatMap_cons, List.length_append, h, ih, List.length_cons]; omega
theorem headE_len (nl : Nat) (E : List (Int × Int)) : (headE nl E).length = 2 * E.length := fm_len (fun _ => rfl)
theorem headL_len (s : Int) (n : Nat) : (headL s n).length = 2 * n := by unfold headL; rw [fm_len (fun _ => rfl)]; simp
theorem headR_len (nl : Nat) (s : Int) (n : Nat) : (headR nl s n).length = 2 * n := by unfold headR; rw [fm_len (fun _ => rfl)]; simp
theorem roomE_len (n : Nat) : (roomE n).length = 2 * n := by unfold roomE; rw [fm_len (fun _ => rfl)]; simp
theorem roomC_len (L : List Int) : (roomC L).length = 2 * L.length := fm_len (fun _ => rfl)
theorem netH_ok (g : Gph) (hE : ∀ e ∈ g.E, 0 ≤ e.1 ∧ e.1 < (g.L.length : Int) ∧ 0 ≤ e.2 ∧ e.2 < (g.R.length : Int)) : ∀ x ∈ netH g, 0 ≤ x ∧ x < ((g.L.length + g.R.length + 2 : Nat) : Int) := by
  intro x hx
  unfold netH at hx
  rw [List.mem_append, List.mem_append] at hx
  rcases hx with (hx | hx) | hx
  · unfold headE at hx
    rw [List.mem_flatMap] at hx
    obtain ⟨e, he, hx⟩ := hx
    have := hE e he
    simp at hx
    omega
  · unfold headL at hx
    rw [List.mem_flatMap] at hx
    obtain ⟨i, hi, hx⟩ := hx
    rw [List.mem_range] at hi
    simp at hx
    omega
  · unfold headR at hx
    rw [List.mem_flatMap] at hx
    obtain ⟨i, hi, hx⟩ := hx
    rw [List.mem_range] at hi
    simp at hx
    omega
theorem Rws.out4 {w : World} {B nb : Nat} {vH vR : Value} {H R : List Int} (h : Rws w B nb vH vR H R) (hn : nb < B) (v : Value) : Rws (w.setCell ⟨nb, 4, none⟩ v) B nb vH vR H R := by
  refine ⟨?_, ?_, ?_, ?_, h.h.far _ (fun e => ?_), h.r.far _ (fun e => ?_), h.far⟩
  · rw [World.cell?_setCell_other _ _ _ _ (by simp)]; exact h.c2
  · rw [World.cell?_setCell_other _ _ _ _ (by simp)]; exact h.c3
  · rw [World.frozen?_setCell]; exact h.f2
  · rw [World.frozen?_setCell]; exact h.f3
  · have := (World.ownsRow.lt h.h nb e).1; omega
  · have := (World.ownsRow.lt h.r nb e).1; omega
theorem LevK.out4 {w : World} {B nb gl gr n k : Nat} {H C : List Int} (h : LevK w B gl gr n H k C) (hn : nb < B) (v : Value) : LevK (w.setCell ⟨nb, 4, none⟩ v) B gl gr n H k C := by
  refine ⟨h.g.far _ (fun e => ?_), World.ownsRow.kept h.l (grownBy_set w ⟨nb, 4, none⟩ v) (.inr fun e => ?_), h.c, h.ne⟩
  · have := (World.ownsRow.lt h.g nb e).1; omega
  · have := (World.ownsRow.lt h.l nb e).1; omega
set_option maxHeartbeats 16000000 in
set_option maxRecDepth 100000 in
theorem emp_any (g : Gph) (w : World) (hg : GpAt w g) (hc : chk g = 0) :
    Calls Try.prog 59 #[g.val] w fun e w' => ∃ nb N, e = .returned (.pointer (some ⟨nb, 0, none⟩)) ∧ NtO w' (w.heap.size + 3) nb N ∧ N.s = (g.L.length : Int) + (g.R.length : Int) ∧ N.t = (g.L.length : Int) + (g.R.length : Int) + 1 ∧ N.H = netH g ∧ N.R = netR g ∧ N.arcs = arcsA (netH g) (g.L.length + g.R.length + 2) ∧ N.A.length = g.L.length + g.R.length + 2 ∧ Below w.heap.size w w' := by
  have HG := Lib.hid hg
  have hck := chk_ok hc
  obtain ⟨l1, l2, l3, hL, hR, hE, hN⟩ := hck
  have HL := Lib.hid hL
  have HR := Lib.hid hR
  have HE := Lib.hid hE
  have HTH := Lib.hid (show netH g = headE g.L.length g.E ++ headL ((g.L.length + g.R.length : Nat) : Int) g.L.length ++ headR g.L.length ((g.L.length + g.R.length + 1 : Nat) : Int) g.R.length from rfl)
  have HTR := Lib.hid (show netR g = roomE g.E.length ++ roomC g.L ++ roomC g.R from rfl)
  clear hg hc hL hR hE hN
  have HB1 := Lib.hid ((Below.refl w.heap.size w).alloc (Nat.le_refl _) (.cells #[.slice g.aL g.L.length g.cL, .slice g.aR g.R.length g.cR, .slice g.aE g.E.length g.cE] 25))
  have hg1 := gb_new w g 25
  have HG1 := Lib.hid hg1
  obtain ⟨g0, g1, g2, _⟩ := hg1
  unfold Gph.val
  obtain ⟨nl, hnl⟩ : ∃ y, y = g.L.length := ⟨_, rfl⟩
  obtain ⟨nr, hnr⟩ : ∃ y, y = g.R.length := ⟨_, rfl⟩
  obtain ⟨ne, hne⟩ : ∃ y, y = g.E.length := ⟨_, rfl⟩
  rw [← hnl, ← hnr, ← hne] at g0 g1 g2 HB1
  rw [← hnl, ← hnr] at HTH
  rw [← hne] at HTR
  rw [← hnl] at l1
  rw [← hnr] at l2
  rw [← hne] at l3
  rw [← hnl, ← hnr, ← hne]
  have Hnl := Lib.hid hnl
  have Hnr := Lib.hid hnr
  have Hne := Lib.hid hne
  clear hnl hnr hne
  go_enter Try.func59, Try.ntmps59
  go_wp2_with fail
  go_quiet (fail)
  go_wp2_with fail
  obtain ⟨W5, hW5⟩ : ∃ W5, W5 = ((((w.alloc (.cells #[.slice g.aL nl g.cL, .slice g.aR nr g.cR, .slice g.aE ne g.cE] 25)).drewN nq).alloc (.cells #[.int .i64 ((nl : Int) + (nr : Int)), .int .i64 ((nl : Int) + (nr : Int) + 1), .slice none 0 0, .slice none 0 0, .slice none 0 0] 64)).alloc (.cells #[.pointer (some ⟨w.heap.size + 1, 0, none⟩)] 60)) := ⟨_, rfl⟩
  rw [← hW5]
  have HSz := Lib.hid (show W5.heap.size = w.heap.size + 3 by rw [hW5]; simp [go_sem])
  have HBW := Lib.hid (show Below w.heap.size w W5 by rw [hW5]; exact ((bel_drewN HB1.out nq).alloc (by simp) _).alloc (by simp; omega) _)
  have cv := show W5.cell? ⟨w.heap.size + 1 + 1, 0, none⟩ = some (.pointer (some ⟨w.heap.size + 1, 0, none⟩)) by rw [hW5]; simp [go_sem]
  have n0 := show W5.cell? ⟨w.heap.size + 1, 0, none⟩ = some (.int .i64 ((nl : Int) + (nr : Int))) by rw [hW5]; simp [go_sem]
  have n1 := show W5.cell? ⟨w.heap.size + 1, 1, none⟩ = some (.int .i64 ((nl : Int) + (nr : Int) + 1)) by rw [hW5]; simp [go_sem]
  have n4 := show W5.cell? ⟨w.heap.size + 1, 4, none⟩ = some (.slice none 0 0) by rw [hW5]; simp [go_sem]
  have f4 := show W5.frozen? ⟨w.heap.size + 1, 4, none⟩ = false by rw [hW5]; simp [go_sem]
  have gg0 := show W5.cell? ⟨w.heap.size, 0, none⟩ = some (.slice g.aL nl g.cL) by rw [hW5]; simp [go_sem]
  have gg1 := show W5.cell? ⟨w.heap.size, 1, none⟩ = some (.slice g.aR nr g.cR) by rw [hW5]; simp [go_sem]
  have HRw := Lib.hid (show Rws W5 (w.heap.size + 3) (w.heap.size + 1) (.slice none 0 0) (.slice none 0 0) (headE nl (g.E.take 0)) (roomE 0) from
    ⟨by rw [hW5]; simp [go_sem], by rw [hW5]; simp [go_sem], by rw [hW5]; simp [go_sem], by rw [hW5]; simp [go_sem], World.ownsRow_nil _ _ _ _, World.ownsRow_nil _ _ _ _, fun k hk => by simp [Value.ownBlock] at hk⟩)
  clear hW5 g0 g1 g2 HB1 HG1
  have HGo := Lib.hid (Gon.refl (w.heap.size + 3) (w.heap.size + 1) W5)
  go_loopw [8, 32] (fun _ sc wq => ∃ (k : Nat) (vH vR : Value), sc = .int .i64 (k : Int) ∧ k ≤ ne ∧ Hid (Rws wq (w.heap.size + 3) (w.heap.size + 1) vH vR (headE nl (g.E.take k)) (roomE k)) ∧ Hid (Gon (w.heap.size + 3) (w.heap.size + 1) W5 wq)) (fun _ sc _ => (ne - (intOf sc)).toNat)
  case atStart => exact ⟨0, _, _, rfl, Nat.zero_le _, HRw, HGo⟩
  case round =>
    clear HRw HGo
    obtain ⟨k, vH, vR, rfl, hk, HRw, HGo⟩ := hrel
    have hws := HGo.out.size
    have hw5 := HSz.out
    have HBr := Lib.hid (HBW.out.trans (HGo.out.below (C := w.heap.size) (by omega) (by omega)))
    have cvr := (HGo.out.far (b := w.heap.size + 1 + 1) (o := 0) (by omega) (by omega)).trans cv
    by_cases hlt : k < ne
    · have hlz : (k : Int) < (ne : Int) := by omega
      have hkE : k < g.E.length := by have := Hne.out; omega
      have HGr := Lib.hid (HG.out.e.low (B := w.heap.size) (fun h => HG.out.e.hb h) HBr.out)
      have haE : g.aE = some ⟨g.bE, g.oE, none⟩ := HGr.out.ha (by omega)
      have bE := HGr.out.hb (by omega)
      have hcE := HGr.out.hcap
      have hmE := HGr.out.hmax
      unfold maxLen at hmE
      rw [← Hne.out] at hcE
      have c0 := HGr.out.c0 k hkE
      have c1 := HGr.out.c1 k hkE
      have hEv := HE.out _ (List.getElem_mem hkE)
      rw [← Hnl.out, ← Hnr.out] at hEv
      have HFm := Lib.hid (show headE nl (g.E.take (k + 1)) = headE nl (g.E.take k) ++ [(nl : Int) + (g.E[k]'hkE).2, (g.E[k]'hkE).1] from fm_take hkE)
      have HFr := Lib.hid (show roomE (k + 1) = roomE k ++ [1, 0] from fm_range)
      have hl1 : (headE nl (g.E.take k)).length ≤ 100000 := by rw [headE_len, List.length_take]; omega
      have hl2 : (roomE k).length ≤ 100000 := by rw [roomE_len]; omega
      obtain ⟨eu, heu⟩ : ∃ y, y = (g.E[k]'hkE).1 := ⟨_, rfl⟩
      obtain ⟨ev, hev⟩ : ∃ y, y = (g.E[k]'hkE).2 := ⟨_, rfl⟩
      rw [← heu] at c0 hEv HFm
      rw [← hev] at c1 hEv HFm
      obtain ⟨e1, e2, e3, e4⟩ := hEv
      generalize g.aE = aE at *
      obtain rfl := haE
      clear heu hev HGr
      have HBa := Lib.hid ((Below.refl wr.heap.size wr).alloc (Nat.le_refl _) (.cells #[.int .i64 eu, .int .i64 ev] 52))
      have HRa := Lib.hid (HRw.out.keep (by omega) HBa.out)
      have cva := (HBa.out.cell (p := ⟨w.heap.size + 1 + 1, 0, none⟩) (by simp; omega)).trans cvr
      have HCn := Lib.hid (con_any (wr.alloc (.cells #[.int .i64 eu, .int .i64 ev] 52)) (w.heap.size + 3) (w.heap.size + 1 + 1) (w.heap.size + 1) ((nl : Int) + ev) eu 1 vH vR _ _ cva (by omega) (by omega) (by omega) (by simp; omega) HRa.out hl1 hl2)
      have HGa := Lib.hid (HGo.out.trans (Gon.of (HBa.out.mono (by omega)) (by omega)))
      rw [← HFm.out, ← HFr.out] at HCn
      clear HRa hl1 hl2 HRw cva
      go_wp2_with fail
      refine HCn.out.mono ?_
      rintro e w2 ⟨rfl, vH2, vR2, hr2, hg2⟩
      have HR2 := Lib.hid hr2
      have HG2 := Lib.hid (HGa.out.trans hg2)
      clear hr2 hg2 HCn
      go_wp2_with fail
      go_roundw
      case rel => exact ⟨k + 1, _, _, by go_num, by omega, HR2, HG2⟩
      case measure => simp [intOf]; omega
    · have hlz : ¬ (k : Int) < (ne : Int) := by omega
      have hkn : k = ne := by omega
      have ggr := (HGo.out.far (b := w.heap.size) (o := 0) (by omega) (by omega)).trans gg0
      rw [hkn, Hne.out, List.take_length, ← Hne.out] at HRw
      have hr0 : Rws wr (w.heap.size + 3) (w.heap.size + 1) vH vR (headE nl g.E ++ headL ((nl + nr : Nat) : Int) 0) (roomE ne ++ roomC (g.L.take 0)) := by simpa [headL, roomC] using HRw.out
      replace HRw := Lib.hid hr0
      clear hr0 hlt hk hkn cvr hws hw5 HBr
      go_wp2_with fail
      go_loopw [9, 10, 48] (fun _ _ sc wq => ∃ (k : Nat) (vH vR : Value), sc = .int .i64 (k : Int) ∧ k ≤ nl ∧ Hid (Rws wq (w.heap.size + 3) (w.heap.size + 1) vH vR (headE nl g.E ++ headL ((nl + nr : Nat) : Int) k) (roomE ne ++ roomC (g.L.take k))) ∧ Hid (Gon (w.heap.size + 3) (w.heap.size + 1) W5 wq)) (fun _ _ sc _ => (nl - (intOf sc)).toNat)
      case atStart => exact ⟨0, _, _, rfl, Nat.zero_le _, HRw, HGo⟩
      case round =>
        clear HRw HGo
        obtain ⟨k, vH, vR, rfl, hk, HRw, HGo⟩ := hrel
        have hws := HGo.out.size
        have hw5 := HSz.out
        have HBr := Lib.hid (HBW.out.trans (HGo.out.below (C := w.heap.size) (by omega) (by omega)))
        have cvr := (HGo.out.far (b := w.heap.size + 1 + 1) (o := 0) (by omega) (by omega)).trans cv
        by_cases hlt : k < nl
        · have hlz : (k : Int) < (nl : Int) := by omega
          have hkL : k < g.L.length := by have := Hnl.out; omega
          have HGr := Lib.hid (HG.out.l.low (B := w.heap.size) (fun h => HG.out.l.hb h) HBr.out)
          have haL : g.aL = some ⟨g.bL, g.oL, none⟩ := HGr.out.ha (by omega)
          have bL := HGr.out.hb (by omega)
          have hcL := HGr.out.hcap
          have hmL := HGr.out.hmax
          unfold maxLen at hmL
          rw [← Hnl.out] at hcL
          have c0 := HGr.out.cell k hkL
          have n0r := (HGo.out.cell 0 (by decide) (by decide)).trans n0
          have HFm := Lib.hid (show headE nl g.E ++ headL ((nl + nr : Nat) : Int) (k + 1) = headE nl g.E ++ headL ((nl + nr : Nat) : Int) k ++ [(k : Int), ((nl + nr : Nat) : Int)] by rw [List.append_assoc]; congr 1; exact fm_range)
          have HFr := Lib.hid (show roomE ne ++ roomC (g.L.take (k + 1)) = roomE ne ++ roomC (g.L.take k) ++ [g.L[k]'hkL, 0] by rw [List.append_assoc]; congr 1; exact fm_take hkL)
          have hl1 : (headE nl g.E ++ headL ((nl + nr : Nat) : Int) k).length ≤ 100000 := by rw [List.length_append, headE_len, headL_len, ← Hne.out]; omega
          have hl2 : (roomE ne ++ roomC (g.L.take k)).length ≤ 100000 := by rw [List.length_append, roomE_len, roomC_len, List.length_take]; omega
          obtain ⟨eu, heu⟩ : ∃ y, y = (g.L[k]'hkL) := ⟨_, rfl⟩
          rw [← heu] at c0 HFr
          generalize g.aL = aL at *
          obtain rfl := haL
          clear heu HGr
          have HCn := Lib.hid (con_any wr (w.heap.size + 3) (w.heap.size + 1 + 1) (w.heap.size + 1) (k : Int) ((nl + nr : Nat) : Int) eu vH vR _ _ cvr (by omega) (by omega) (by omega) (by omega) HRw.out hl1 hl2)
          have HGa := HGo
          rw [← HFm.out, ← HFr.out, Int.natCast_add] at HCn
          rw [Int.natCast_add]
          clear hl1 hl2 HRw
          go_wp2_with fail
          refine HCn.out.mono ?_
          rintro e w2 ⟨rfl, vH2, vR2, hr2, hg2⟩
          have HR2 := Lib.hid hr2
          have HG2 := Lib.hid (HGa.out.trans hg2)
          clear hr2 hg2 HCn
          go_wp2_with fail
          go_roundw
          case rel => exact ⟨k + 1, _, _, by go_num, by omega, HR2, HG2⟩
          case measure => simp [intOf]; omega
        · have hlz : ¬ (k : Int) < (nl : Int) := by omega
          have hkn : k = nl := by omega
          have ggr := (HGo.out.far (b := w.heap.size) (o := 1) (by omega) (by omega)).trans gg1
          rw [hkn, Hnl.out, List.take_length, ← Hnl.out] at HRw
          have hr0 : Rws wr (w.heap.size + 3) (w.heap.size + 1) vH vR (headE nl g.E ++ headL ((nl + nr : Nat) : Int) nl ++ headR nl ((nl + nr + 1 : Nat) : Int) 0) (roomE ne ++ roomC g.L ++ roomC (g.R.take 0)) := by simpa [headR, roomC] using HRw.out
          replace HRw := Lib.hid hr0
          clear hr0 hlt hk hkn cvr hws hw5 HBr
          go_wp2_with fail
          go_loopw [11, 12, 65] (fun _ _ sc wq => ∃ (k : Nat) (vH vR : Value), sc = .int .i64 (k : Int) ∧ k ≤ nr ∧ Hid (Rws wq (w.heap.size + 3) (w.heap.size + 1) vH vR (headE nl g.E ++ headL ((nl + nr : Nat) : Int) nl ++ headR nl ((nl + nr + 1 : Nat) : Int) k) (roomE ne ++ roomC g.L ++ roomC (g.R.take k))) ∧ Hid (Gon (w.heap.size + 3) (w.heap.size + 1) W5 wq)) (fun _ _ sc _ => (nr - (intOf sc)).toNat)
          case atStart => exact ⟨0, _, _, rfl, Nat.zero_le _, HRw, HGo⟩
          case round =>
            clear HRw HGo
            obtain ⟨k, vH, vR, rfl, hk, HRw, HGo⟩ := hrel
            have hws := HGo.out.size
            have hw5 := HSz.out
            have HBr := Lib.hid (HBW.out.trans (HGo.out.below (C := w.heap.size) (by omega) (by omega)))
            have cvr := (HGo.out.far (b := w.heap.size + 1 + 1) (o := 0) (by omega) (by omega)).trans cv
            by_cases hlt : k < nr
            · have hlz : (k : Int) < (nr : Int) := by omega
              have hkR : k < g.R.length := by have := Hnr.out; omega
              have HGr := Lib.hid (HG.out.r.low (B := w.heap.size) (fun h => HG.out.r.hb h) HBr.out)
              have haR : g.aR = some ⟨g.bR, g.oR, none⟩ := HGr.out.ha (by omega)
              have bR := HGr.out.hb (by omega)
              have hcR := HGr.out.hcap
              have hmR := HGr.out.hmax
              unfold maxLen at hmR
              rw [← Hnr.out] at hcR
              have c0 := HGr.out.cell k hkR
              have n0r := (HGo.out.cell 1 (by decide) (by decide)).trans n1
              have HFm := Lib.hid (show headE nl g.E ++ headL ((nl + nr : Nat) : Int) nl ++ headR nl ((nl + nr + 1 : Nat) : Int) (k + 1) = headE nl g.E ++ headL ((nl + nr : Nat) : Int) nl ++ headR nl ((nl + nr + 1 : Nat) : Int) k ++ [((nl + nr + 1 : Nat) : Int), ((nl + k : Nat) : Int)] by rw [List.append_assoc _ (headR nl ((nl + nr + 1 : Nat) : Int) k)]; congr 1; exact fm_range)
              have HFr := Lib.hid (show roomE ne ++ roomC g.L ++ roomC (g.R.take (k + 1)) = roomE ne ++ roomC g.L ++ roomC (g.R.take k) ++ [g.R[k]'hkR, 0] by rw [List.append_assoc _ (roomC (g.R.take k))]; congr 1; exact fm_take hkR)
              have hl1 : (headE nl g.E ++ headL ((nl + nr : Nat) : Int) nl ++ headR nl ((nl + nr + 1 : Nat) : Int) k).length ≤ 100000 := by rw [List.length_append, List.length_append, headE_len, headL_len, headR_len, ← Hne.out]; omega
              have hl2 : (roomE ne ++ roomC g.L ++ roomC (g.R.take k)).length ≤ 100000 := by rw [List.length_append, List.length_append, roomE_len, roomC_len, roomC_len, List.length_take, ← Hnl.out]; omega
              obtain ⟨eu, heu⟩ : ∃ y, y = (g.R[k]'hkR) := ⟨_, rfl⟩
              rw [← heu] at c0 HFr
              generalize g.aR = aR at *
              obtain rfl := haR
              clear heu HGr
              have HCn := Lib.hid (con_any wr (w.heap.size + 3) (w.heap.size + 1 + 1) (w.heap.size + 1) ((nl + nr + 1 : Nat) : Int) ((nl + k : Nat) : Int) eu vH vR _ _ cvr (by omega) (by omega) (by omega) (by omega) HRw.out hl1 hl2)
              have HGa := HGo
              rw [← HFm.out, ← HFr.out, Int.natCast_add nl k, Int.natCast_add (nl + nr) 1, Int.natCast_add nl nr] at HCn
              rw [Int.natCast_add nl nr, Int.natCast_add (nl + nr) 1, Int.natCast_add nl nr]
              clear hl1 hl2 HRw
              go_wp2_with fail
              refine HCn.out.mono ?_
              rintro e w2 ⟨rfl, vH2, vR2, hr2, hg2⟩
              have HR2 := Lib.hid hr2
              have HG2 := Lib.hid (HGa.out.trans hg2)
              clear hr2 hg2 HCn
              go_wp2_with fail
              go_roundw
              case rel => exact ⟨k + 1, _, _, by go_num, by omega, HR2, HG2⟩
              case measure => simp [intOf]; omega
            · have hlz : ¬ (k : Int) < (nr : Int) := by omega
              have hkn : k = nr := by omega
              rw [hkn, Hnr.out, List.take_length, ← Hnr.out, ← HTH.out, ← HTR.out] at HRw
              have HVn := Lib.hid (netH_ok g (fun e he => by have := HE.out e he; omega))
              have hLn : (netH g).length = 2 * (ne + nl + nr) := by rw [HTH.out]; rw [List.length_append, List.length_append, headE_len, headL_len, headR_len, ← Hne.out]; omega
              rw [← Hnl.out, ← Hnr.out] at HVn
              have hLe : (netH g).length ≤ 10000 ∧ (netH g).length % 2 = 0 := by rw [hLn]; omega
              clear hLn
              obtain ⟨aH, bH, cH, hvH, hsH, hoH⟩ := own_sli HRw.out.h
              subst hvH
              have HSH := Lib.hid hsH
              have hnn : (((nl + nr + 2 : Nat) : Nat) : Int) = (nl : Int) + (nr : Int) + 2 := by omega
              have HLv := Lib.hid (lev_any (nl + nr + 2) aH bH 0 (netH g).length cH (netH g) wr.drew (hsH.keep (Below.refl _ _).drew) ⟨by omega, by omega⟩ hLe.1 hLe.2 HVn.out)
              clear hLe
              rw [hnn] at HLv
              have h2 := HRw.out.c2
              have hw1 : IntKind.i64.wrap ((nl : Int) + (nr : Int)) = (nl : Int) + (nr : Int) := IntWalk.i64_in _ (by omega)
              have hw2 : IntKind.i64.wrap ((nl : Int) + (nr : Int) + 2) = (nl : Int) + (nr : Int) + 2 := IntWalk.i64_in _ (by omega)
              clear hsH hlt hk hlz
              go_wp2_with fail
              refine wp_region_s (fun w' => w'.cell? ⟨w.heap.size + 1 + 1, 0, none⟩ = some (.pointer (some ⟨w.heap.size + 1, 0, none⟩)) ∧ w'.cell? ⟨w.heap.size + 1, 2, none⟩ = some (.slice aH (netH g).length cH)) 12 (by kernel_rfl) ?_
              have hv := cvr
              refine AnyS.take (i := 0) (v := (.pointer (some ⟨w.heap.size + 1, 0, none⟩))) [12, 11, 10] rfl (by kernel_rfl) (by kernel_rfl) (by kernel_rfl) (by kernel_rfl) (fun _ _ _ h => h) ⟨hv, h2⟩ (Or.inl ⟨by rfl, fun w' hw' => (by obtain ⟨t0, t1⟩ := hw'; go_simp)⟩) ?_
              simp only [Act.put, List.setIfInBounds_toArray, List.set_cons_zero, List.set_cons_succ]
              refine AnyS.take0 (i := 1) (v := (.int .i64 (nl : Int))) rfl (by kernel_rfl) (by kernel_rfl) (by kernel_rfl) (by kernel_rfl) (fun _ _ _ h => h) (fun _ => ⟨hv, h2⟩) (Or.inl ⟨by rfl, fun w' _ => (by go_simp)⟩) ?_
              simp only [Act.put, List.setIfInBounds_toArray, List.set_cons_zero, List.set_cons_succ]
              refine AnyS.take0 (i := 2) (v := (.int .i64 (nr : Int))) rfl (by kernel_rfl) (by kernel_rfl) (by kernel_rfl) (by kernel_rfl) (fun _ _ _ h => h) (fun _ => ⟨hv, h2⟩) (Or.inl ⟨by rfl, fun w' _ => (by go_simp)⟩) ?_
              simp only [Act.put, List.setIfInBounds_toArray, List.set_cons_zero, List.set_cons_succ]
              refine AnyS.take0 (i := 3) (v := (.int .i64 ((nl : Int) + (nr : Int)))) rfl (by kernel_rfl) (by kernel_rfl) (by kernel_rfl) (by kernel_rfl) (fun _ _ _ h => h) (fun _ => ⟨hv, h2⟩) (Or.inl ⟨by rfl, fun w' _ => (by go_simp)⟩) ?_
              simp only [Act.put, List.setIfInBounds_toArray, List.set_cons_zero, List.set_cons_succ]
              refine AnyS.take0 (i := 4) (v := (.int .i64 ((nl : Int) + (nr : Int) + 2))) rfl (by kernel_rfl) (by kernel_rfl) (by kernel_rfl) (by kernel_rfl) (fun _ _ _ h => h) (fun _ => ⟨hv, h2⟩) (Or.inl ⟨by rfl, fun w' _ => (by go_simp)⟩) ?_
              simp only [Act.put, List.setIfInBounds_toArray, List.set_cons_zero, List.set_cons_succ]
              refine AnyS.take (i := 5) (v := (.pointer (some ⟨w.heap.size + 1, 0, none⟩))) [12, 9, 8, 7, 6] rfl (by kernel_rfl) (by kernel_rfl) (by kernel_rfl) (by kernel_rfl) (fun _ _ _ h => h) ⟨hv, h2⟩ (Or.inl ⟨by rfl, fun w' hw' => (by obtain ⟨t0, t1⟩ := hw'; go_simp)⟩) ?_
              simp only [Act.put, List.setIfInBounds_toArray, List.set_cons_zero, List.set_cons_succ]
              refine AnyS.take0 (i := 6) (v := (.pointer (some ⟨w.heap.size + 1, 0, none⟩))) rfl (by kernel_rfl) (by kernel_rfl) (by kernel_rfl) (by kernel_rfl) (fun _ _ _ h => h) (fun _ => ⟨hv, h2⟩) (Or.inl ⟨by rfl, fun w' _ => (by go_simp)⟩) ?_
              simp only [Act.put, List.setIfInBounds_toArray, List.set_cons_zero, List.set_cons_succ]
              refine AnyS.take0 (i := 7) (v := (.pointer (some ⟨w.heap.size + 1, 2, none⟩))) rfl (by kernel_rfl) (by kernel_rfl) (by kernel_rfl) (by kernel_rfl) (fun _ _ _ h => h) (fun _ => ⟨hv, h2⟩) (Or.inl ⟨by rfl, fun w' _ => (by go_simp)⟩) ?_
              simp only [Act.put, List.setIfInBounds_toArray, List.set_cons_zero, List.set_cons_succ]
              refine AnyS.take (i := 8) (v := (.slice aH (netH g).length cH)) [12, 9] rfl (by kernel_rfl) (by kernel_rfl) (by kernel_rfl) (by kernel_rfl) (fun _ _ _ h => h) ⟨hv, h2⟩ (Or.inl ⟨by rfl, fun w' hw' => (by obtain ⟨t0, t1⟩ := hw'; go_simp)⟩) ?_
              simp only [Act.put, List.setIfInBounds_toArray, List.set_cons_zero, List.set_cons_succ]
              refine AnyS.step (j := 9) rfl (by kernel_rfl) (fun K hK => ?_)
              go_simp
              refine HLv.out.mono ?_
              rintro e w2 ⟨gl, gr, C, rfl, hlk, hb2⟩
              replace hb2 := undrew hb2
              have HLK := Lib.hid hlk
              have HRk := Lib.hid (HRw.out.keep (by omega) hb2)
              have HnH := Lib.hid (fun k hk => (World.ownsRow.lt HRw.out.h k hk).2)
              have HnR := Lib.hid (fun k hk => (World.ownsRow.lt HRw.out.r k hk).2)
              have n0s := (hb2.cell (p := ⟨w.heap.size + 1, 0, none⟩) (by simp; omega)).trans ((HGo.out.cell 0 (by decide) (by decide)).trans n0)
              have n1s := (hb2.cell (p := ⟨w.heap.size + 1, 1, none⟩) (by simp; omega)).trans ((HGo.out.cell 1 (by decide) (by decide)).trans n1)
              have HB2 := Lib.hid hb2
              have hv2 := (hb2.cell (p := ⟨w.heap.size + 1 + 1, 0, none⟩) (by simp; omega)).trans hv
              have h22 := (hb2.cell (p := ⟨w.heap.size + 1, 2, none⟩) (by simp; omega)).trans h2
              have hc4 := (hb2.cell (p := ⟨w.heap.size + 1, 4, none⟩) (by simp; omega)).trans ((HGo.out.cell 4 (by decide) (by decide)).trans n4)
              have hf4 := (hb2.frozen (p := ⟨w.heap.size + 1, 4, none⟩) (by simp; omega)).trans ((HGo.out.fz 4).trans f4)
              refine hK.out _ _ (fun _ => ⟨hv2, h22⟩) ?_
              clear hK hlk hb2 HLv hv h2
              refine AnyS.step (j := 10) rfl (by kernel_rfl) (fun K hK => ?_)
              go_simp
              refine hK.out _ _ (fun _ => ⟨hv2, h22⟩) ?_
              clear hK
              refine AnyS.step (j := 11) rfl (by kernel_rfl) (fun K hK => ?_)
              go_simp
              refine hK.out _ _ (fun _ => ⟨hv2, h22⟩) ?_
              clear hK
              refine AnyS.step (j := 12) rfl (by kernel_rfl) (fun K hK => ?_)
              go_simp
              refine hK.out _ _ (fun h => absurd h (by decide)) ?_
              clear hK
              refine AnyS.rest 13 (by kernel_rfl) rfl (by kernel_rfl) ?_
              change wpList _ _ _ [] _ _
              go_wp2_with fail
              have hv3 := show (w2.setCell ⟨w.heap.size + 1, 4, none⟩ (.slice (some ⟨gl, 0, none⟩) (nl + nr + 2) (nl + nr + 2))).cell? ⟨w.heap.size + 1 + 1, 0, none⟩ = some (.pointer (some ⟨w.heap.size + 1, 0, none⟩)) by
                rw [World.cell?_setCell_other _ _ _ _ (by simp)]
                exact hv2
              have HFin := Lib.hid (nt_made (w := w2.setCell ⟨w.heap.size + 1, 4, none⟩ (.slice (some ⟨gl, 0, none⟩) (nl + nr + 2) (nl + nr + 2))) (B := w.heap.size + 3) (D := wr.heap.size) (nb := w.heap.size + 1) (n := nl + nr + 2) (H := netH g) (R := netR g) (C := C) (s := (nl : Int) + (nr : Int)) (t := (nl : Int) + (nr : Int) + 1)
                (HRk.out.out4 (by omega) _) (HLK.out.out4 (by show w.heap.size + 1 < wr.heap.size; omega) _) (by omega) (by omega) HnH.out HnR.out
                (by rw [World.cell?_setCell_other _ _ _ _ (by simp)]; exact n0s) (by rw [World.cell?_setCell_other _ _ _ _ (by simp)]; exact n1s) (World.cell?_setCell_same _ _ _ hc4) (by simp; have := HB2.out.size; omega))
              have HBf := Lib.hid ((HBr.out.trans (HB2.out.mono (by omega))).setCell (p := ⟨w.heap.size + 1, 4, none⟩) (by simp) (.slice (some ⟨gl, 0, none⟩) (nl + nr + 2) (nl + nr + 2)))
              clear HLK HRk HnH HnR n0s n1s
              go_ret
              obtain ⟨N, z1, z2, z3, z4, z5, z6, z7⟩ := HFin.out
              exact ⟨_, _, rfl, z1, z2, z3, z4, z5, z6, z7, HBf.out⟩
end Go.Proofs.Ytpcdbnlljdfogaa
