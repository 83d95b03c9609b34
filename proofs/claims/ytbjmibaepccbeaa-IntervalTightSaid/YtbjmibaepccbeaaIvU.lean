/- Intervals: the program's span. -/
import Derived.Test.YtbjmibaepccbeaaIvT
import Derived.Test.YtbjmibaepccbeaaRgn
set_option linter.unusedSimpArgs false
set_option linter.unusedVariables false
namespace Go.Proofs.Ytbjmibaepccbeaa
open Go.RowKit
open Iv

set_option maxHeartbeats 4000000 in
set_option maxRecDepth 100000 in
theorem span_any (g : Nat) (r : F → F → R) (hg : FrFn g r) (eg : ∀ args w, (callFunc g args).run Try.prog w = .ok (.enter g args) w) (b off n cap : Nat) (ps : List V) (w : World) (hlen : ps.length = n) (h1 : 1 ≤ n) (h4 : n ≤ 4)
    (hb : b < w.heap.size) (hl : n ≤ cap) (hcap : cap ≤ maxLen) (hc : VsAt w b off ps) (hw : ∀ p ∈ ps, WfV p) (hr : ∀ p ∈ ps, Wf64 (r p.1 p.2).1) :
    Calls Try.prog 48 #[.func (.func g) #[] #[], .slice (some ⟨b, off, none⟩) n cap] w fun e w' => e = .returned (.tuple #[(.agg #[.int .i64 ((spanV (ps.map fun p => r p.1 p.2)).1).1.1, .int .i64 ((spanV (ps.map fun p => r p.1 p.2)).1).1.2, .int .i64 ((spanV (ps.map fun p => r p.1 p.2)).1).2.1, .int .i64 ((spanV (ps.map fun p => r p.1 p.2)).1).2.2]), .int .i64 (spanV (ps.map fun p => r p.1 p.2)).2]) ∧ Below w.heap.size w w' := by
  unfold maxLen at hcap
  have HLEN := Lib.hid hlen
  have HC := Lib.hid hc
  have HW := Lib.hid hw
  have HG := Lib.hid hg
  have HR := Lib.hid hr
  clear hlen hc hw hg hr
  go_enter Try.func48, Try.ntmps48
  go_wp2_with fail
  go_loopw [16] (fun s16 wr => ∃ (k : Nat) (Z : List F), k ≤ n ∧ s16 = .int .i64 (k : Int) ∧ Hid (SpA w wr Z) ∧ Hid (Z.length = 4) ∧ Hid (∀ j (h : j < ps.length), j < k → (r (ps[j]'h).1 (ps[j]'h).2).2 = 0 ∧ Z[j]? = some (r (ps[j]'h).1 (ps[j]'h).2).1)) (fun s16 _ => (n - (intOf s16)).toNat)
  case atStart => 
    refine ⟨0, [zF, zF, zF, zF], Nat.zero_le _, rfl, Lib.hid ?_, Lib.hid rfl, Lib.hid (fun j _ h => absurd h (Nat.not_lt_zero j))⟩
    refine ⟨⟨by simp, fun k hk => ?_, fun o => by simp⟩, by simp [go_sem], by simp [go_sem], by simp [go_sem], by simp [go_sem], fun o => by simp, (by repeat (first | with_reducible exact Below.refl _ _ | (with_reducible refine Below.setCell ?_ (by first | exact Nat.le_refl _ | omega | (simp; done) | (simp; omega)) _) | (with_reducible refine Below.alloc ?_ (by first | exact Nat.le_refl _ | omega | (simp; done) | (simp; omega)) _) | with_reducible refine Below.drew ?_ | with_reducible refine bel_drewN ?_ _ | (with_reducible refine bel_by (by with_reducible assumption) (by first | exact Nat.le_refl _ | omega | (simp; done) | (simp; omega)) ?_)))⟩
    match k, hk with
    | 0, _ => exact ⟨by simp [go_sem, zF], by simp [go_sem, zF]⟩
    | 1, _ => exact ⟨by simp [go_sem, zF], by simp [go_sem, zF]⟩
    | 2, _ => exact ⟨by simp [go_sem, zF], by simp [go_sem, zF]⟩
    | 3, _ => exact ⟨by simp [go_sem, zF], by simp [go_sem, zF]⟩
    | k + 4, hk => exact absurd hk (by simp only [List.length_cons, List.length_nil]; omega)
  case round =>
    obtain ⟨k, Z, hk, rfl, HS, HZ, HP⟩ := hrel
    by_cases hlt : k < n
    · have l1 : (k : Int) < (n : Int) := by omega
      have hkp : k < ps.length := by rw [HLEN.out]; exact hlt
      obtain ⟨x0, x1, x2, x3⟩ := (HC.out.low hb HS.out.bel) k hkp
      have HF := Lib.hid (HG.out (ps[k]'hkp).1 (ps[k]'hkp).2 (HW.out _ (List.getElem_mem hkp)).l (HW.out _ (List.getElem_mem hkp)).h)
      have HRW := Lib.hid (HR.out _ (List.getElem_mem hkp))
      have hsz := HS.out.sz
      obtain ⟨p, hp⟩ : ∃ p, ps[k]'hkp = p := ⟨_, rfl⟩
      rw [hp] at x0 x1 x2 x3 HF HRW
      obtain ⟨t, ht⟩ : ∃ t, r p.1 p.2 = t := ⟨_, rfl⟩
      rw [ht] at HF HRW
      have HPV := Lib.hid (And.intro hp ht)
      clear hp ht
      obtain ⟨⟨p1, p2⟩, ⟨p3, p4⟩⟩ := p
      obtain ⟨⟨t1, t2⟩, te⟩ := t
      simp only at x0 x1 x2 x3 HF HRW
      go_wp2_with fail
      refine (HF.out _).mono ?_
      rintro e w3 ⟨rfl, hb3⟩
      have HS3 := Lib.hid ((HS.out.keep (Below.alloc (Below.refl _ _) (Nat.le_refl _) (.cells #[.int .i64 p1, .int .i64 p2, .int .i64 p3, .int .i64 p4] 54))).keep hb3)
      have hs3 := HS3.out.sz
      clear hb3 HS HF x0 x1 x2 x3 hsz
      by_cases h0 : te = 0
      · subst h0
        have hkz : k < Z.length := by rw [HZ.out]; omega
        have HS4 := Lib.hid (HS3.out.keep (Below.alloc (Below.refl _ _) (Nat.le_refl _) (.cells #[.int .i64 t1, .int .i64 t2] 23)))
        obtain ⟨d1, d2⟩ := HS4.out.rs.cell k hkz
        have fr := HS4.out.rs.fr
        have HS5 := Lib.hid (HS4.out.put hkz (t1, t2))
        have HP5 := Lib.hid (show ∀ j (h : j < ps.length), j < k + 1 → (r (ps[j]'h).1 (ps[j]'h).2).2 = 0 ∧ (Z.set k (t1, t2))[j]? = some (r (ps[j]'h).1 (ps[j]'h).2).1 from fun j h hj => by
          by_cases e : j = k
          · subst e
            rw [HPV.out.1, HPV.out.2]
            exact ⟨rfl, List.getElem?_set_self hkz⟩
          · rw [List.getElem?_set_ne (fun e' => e e'.symm)]
            exact HP.out j h (by omega))
        have HZ5 := Lib.hid (show (Z.set k (t1, t2)).length = 4 by rw [List.length_set]; exact HZ.out)
        have l4 : (k : Int) < 4 := by omega
        clear HP HPV HZ
        go_wp2_with fail
        go_roundw
        case rel => exact ⟨k + 1, _, by omega, by go_num, HS5, HZ5, HP5⟩
        case measure => simp [intOf]; omega
      · have k0 : (te != 0) = true := by simpa using h0
        have HE := Lib.hid (show errs (ps.map fun p => r p.1 p.2) = te by
          have hkm : k < (ps.map fun p => r p.1 p.2).length := by simpa using hkp
          have hv : (ps.map fun p => r p.1 p.2)[k]'hkm = ((t1, t2), te) := by rw [List.getElem_map, HPV.out.1]; exact HPV.out.2
          have := errs_pre hkm (fun j hj hjk => by rw [List.getElem_map]; exact (HP.out j (by simpa using hj) hjk).1) (by rw [hv]; exact h0)
          rw [this, hv])
        have H0 := Lib.hid h0
        have q0 := HS3.out.q0
        have q1 := HS3.out.q1
        have q2 := HS3.out.q2
        have q3 := HS3.out.q3
        have fq := HS3.out.f
        have hl3 : w.heap.size < w3.heap.size := by omega
        have HB3 := Lib.hid HS3.out.bel
        clear HP HPV HZ h0
        go_wp2
        refine bodyPost_ret (v := .tuple #[(.agg #[.int .i64 (zV).1.1, .int .i64 (zV).1.2, .int .i64 (zV).2.1, .int .i64 (zV).2.2]), .int .i64 te]) (by simp [results, Try.results48, go_sem, q0, q1, q2, q3, fq, hl3, zV, zF]) rfl ⟨?_, ?_⟩
        · unfold spanV
          rw [HE.out, if_neg H0.out]
        · have := HB3.out
          exact (by repeat (first | with_reducible exact Below.refl _ _ | (with_reducible refine Below.setCell ?_ (by first | exact Nat.le_refl _ | omega | (simp; done) | (simp; omega)) _) | (with_reducible refine Below.alloc ?_ (by first | exact Nat.le_refl _ | omega | (simp; done) | (simp; omega)) _) | with_reducible refine Below.drew ?_ | with_reducible refine bel_drewN ?_ _ | (with_reducible refine bel_by (by with_reducible assumption) (by first | exact Nat.le_refl _ | omega | (simp; done) | (simp; omega)) ?_)))
    · obtain rfl : k = n := by omega
      have l1 : ¬ (k : Int) < (k : Int) := by omega
      have HFS := Lib.hid (show ∀ j (h : j < ((ps.map fun p => r p.1 p.2).map Prod.fst).length), Z[j]? = some (((ps.map fun p => r p.1 p.2).map Prod.fst)[j]'h) from fun j h => by
        have hj : j < ps.length := by simpa using h
        rw [(HP.out j hj (by rw [← HLEN.out]; exact hj)).2]
        simp)
      have HE0 := Lib.hid (show errs (ps.map fun p => r p.1 p.2) = 0 from errs_all (fun j hj => by
        have hj' : j < ps.length := by simpa using hj
        rw [List.getElem_map]
        exact (HP.out j hj' (by rw [← HLEN.out]; exact hj')).1))
      have HWF := Lib.hid (show ∀ x ∈ (ps.map fun p => r p.1 p.2).map Prod.fst, Wf64 x from fun x hx => by
        obtain ⟨y, hy, rfl⟩ := List.mem_map.1 hx
        obtain ⟨p, hp, rfl⟩ := List.mem_map.1 hy
        exact HR.out p hp)
      have hfl : ((ps.map fun p => r p.1 p.2).map Prod.fst).length = k := by simp [HLEN.out]
      obtain ⟨fs, hfs⟩ : ∃ fs, (ps.map fun p => r p.1 p.2).map Prod.fst = fs := ⟨_, rfl⟩
      have HSP := Lib.hid (show spanV (ps.map fun p => r p.1 p.2) = (foldV fs, 0) by unfold spanV; rw [HE0.out, if_pos rfl, hfs])
      rw [hfs] at hfl HFS HWF
      clear HP HE0 HC HW HG HR eg hfs
      have HFL := Lib.hid hfl
      have h0f : 0 < fs.length := by omega
      have hz0 := HFS.out 0 h0f
      obtain ⟨f0, hf0⟩ : ∃ f0, fs[0]'h0f = f0 := ⟨_, rfl⟩
      have HWF0 := Lib.hid (HWF.out _ (List.getElem_mem h0f))
      rw [hf0] at hz0 HWF0
      have HF0 := Lib.hid (show foldV fs = fs.foldl ext (f0, f0) from by
        match fs, h0f, hf0 with
        | a :: t, _, h => subst h; rfl)
      have h0z : 0 < Z.length := by rw [HZ.out]; omega
      have hz0' : Z[0]'h0z = f0 := by
        rw [List.getElem?_eq_getElem h0z] at hz0
        exact Option.some.inj hz0
      obtain ⟨d1, d2⟩ := HS.out.rs.cell 0 h0z
      rw [hz0'] at d1 d2
      rw [Nat.zero_mul] at d1
      rw [Nat.zero_mul, Nat.zero_add] at d2
      have hsz := HS.out.sz
      have lk4 : (k : Int) ≤ 4 := by omega
      have lk0 : (0 : Int) ≤ (k : Int) := by omega
      obtain ⟨g1, g2⟩ := f0
      simp only at d1 d2
      have HSA := Lib.hid (HS.out.keep (Below.alloc (Below.refl _ _) (Nat.le_refl _) (.cells #[.int .i64 g1, .int .i64 g2, .int .i64 g1, .int .i64 g2] 25)))
      have HAL := Lib.hid (show AlB (wr.alloc (.cells #[.int .i64 g1, .int .i64 g2, .int .i64 g1, .int .i64 g2] 25)) wr.heap.size ((g1, g2), (g1, g2)) from
        ⟨by simp [go_sem], by simp [go_sem], by simp [go_sem], by simp [go_sem], by simp, fun o => by simp⟩)
      clear HS hfl hz0 hz0' hf0
      go_wp2_with fail
      have HAB := Lib.hid hsz
      generalize wr.alloc (.cells #[.int .i64 g1, .int .i64 g2, .int .i64 g1, .int .i64 g2] 25) = wa at *
      obtain ⟨ab, hab⟩ : ∃ ab, wr.heap.size = ab := ⟨_, rfl⟩
      rw [hab] at HAL HAB ⊢
      clear hab d1 d2 hsz
      go_loopw [47] (fun s47 wi => ∃ (j : Nat), j ≤ k ∧ s47 = .int .i64 (j : Int) ∧ Hid (SpA w wi Z) ∧ Hid (AlB wi ab ((fs.take j).foldl ext ((g1, g2), (g1, g2))))) (fun s47 _ => (k - (intOf s47)).toNat)
      case atStart => exact ⟨0, Nat.zero_le _, rfl, HSA, HAL⟩
      case round =>
        clear HSA HAL
        obtain ⟨j, hj, rfl, HS, HA⟩ := hrel
        by_cases hlt : j < k
        · have l2 : (j : Int) < (k : Int) := by omega
          have hjz : j < Z.length := by rw [HZ.out]; omega
          have hjf : j < fs.length := by rw [HFL.out]; exact hlt
          obtain ⟨y1, y2⟩ := HS.out.rs.cell j hjz
          have hzj : Z[j]'hjz = fs[j]'hjf := by
            have := HFS.out j hjf
            rw [List.getElem?_eq_getElem hjz] at this
            exact Option.some.inj this
          rw [hzj] at y1 y2
          have HST := Lib.hid (fold_step (g1, g2) fs j hjf)
          have hx := HWF.out _ (List.getElem_mem hjf)
          have hv : WfV ((fs.take j).foldl ext ((g1, g2), (g1, g2))) := fold_wf _ _ ⟨HWF0.out, HWF0.out⟩ (fun y hy => HWF.out y (List.mem_of_mem_take hy))
          obtain ⟨v, hvv⟩ : ∃ v, (fs.take j).foldl ext ((g1, g2), (g1, g2)) = v := ⟨_, rfl⟩
          obtain ⟨x, hxx⟩ : ∃ x, fs[j]'hjf = x := ⟨_, rfl⟩
          rw [hvv] at HA HST hv
          rw [hxx] at y1 y2 HST hx
          clear hvv hxx hzj
          have HL := Lib.hid (ilesser_any v.1 x hv.l hx)
          have HGR := Lib.hid (igreater_any v.2 x hv.h hx)
          clear hx hv
          obtain ⟨⟨v1, v2⟩, ⟨v3, v4⟩⟩ := v
          obtain ⟨x1, x2⟩ := x
          simp only at y1 y2 HL HGR HST
          obtain ⟨p, hp⟩ : ∃ p, les (v1, v2) (x1, x2) = p := ⟨_, rfl⟩
          obtain ⟨q, hq⟩ : ∃ q, gre (v3, v4) (x1, x2) = q := ⟨_, rfl⟩
          rw [hp] at HL HST
          rw [hq] at HGR HST
          clear hp hq
          obtain ⟨p1, p2⟩ := p
          obtain ⟨q1, q2⟩ := q
          simp only at HL HGR
          go_wp2_with fail
          have HS1 := Lib.hid (HS.out.keep (Below.alloc (Below.refl _ _) (Nat.le_refl _) (.cells #[.int .i64 x1, .int .i64 x2] 23)))
          have z0 : HdV (wr.alloc (.cells #[.int .i64 x1, .int .i64 x2] 23)) ab wr.heap.size ((v1, v2), (v3, v4)) (x1, x2) := by
            have h := HA.out.keep (Below.alloc (Below.refl _ _) (Nat.le_refl _) (.cells #[.int .i64 x1, .int .i64 x2] 23))
            exact ⟨h.c0, h.c1, h.c2, h.c3, by simp [go_sem], by simp [go_sem], h.la, by simp, h.fr⟩
          generalize wr.alloc (.cells #[.int .i64 x1, .int .i64 x2] 23) = W at *
          obtain ⟨eb, heb⟩ : ∃ eb, wr.heap.size = eb := ⟨_, rfl⟩
          rw [heb] at z0 ⊢
          have hlab : ab < eb := by rw [← heb]; exact HA.out.la
          clear heb HS HA y1 y2
          have Z0 := Lib.hid z0
          clear z0
          have a0 := Z0.out.c0
          have a1 := Z0.out.c1
          have a2 := Z0.out.c2
          have a3 := Z0.out.c3
          have a4 := Z0.out.e0
          have a5 := Z0.out.e1
          have hne : ab ≠ eb := by omega
          have hne' : eb ≠ ab := by omega
          refine wp_region_s (fun w' => w'.cell? ⟨ab, 0, none⟩ = some (.int .i64 v1) ∧ w'.cell? ⟨ab, 1, none⟩ = some (.int .i64 v2) ∧ w'.cell? ⟨ab, 2, none⟩ = some (.int .i64 v3) ∧ w'.cell? ⟨ab, 3, none⟩ = some (.int .i64 v4) ∧ w'.cell? ⟨eb, 0, none⟩ = some (.int .i64 x1) ∧ w'.cell? ⟨eb, 1, none⟩ = some (.int .i64 x2)) 7 (by kernel_rfl) ?_
          refine AnyS.take0 (i := 0) (v := (.pointer (some ⟨ab, 0, none⟩))) rfl (by kernel_rfl) (by kernel_rfl) (by kernel_rfl) (by kernel_rfl) (fun _ _ _ h => h) (fun _ => ⟨a0, a1, a2, a3, a4, a5⟩) (Or.inl ⟨by rfl, fun w' _ => (by go_simp)⟩) ?_
          simp only [Act.put, List.setIfInBounds_toArray, List.set_cons_zero, List.set_cons_succ]
          refine AnyS.take (i := 1) (v := (.agg #[.int .i64 v1, .int .i64 v2])) [7, 3] rfl (by kernel_rfl) (by kernel_rfl) (by kernel_rfl) (by kernel_rfl) (fun _ _ _ h => h) ⟨a0, a1, a2, a3, a4, a5⟩ (Or.inl ⟨by rfl, fun w' hw' => (by obtain ⟨t0, t1, t2, t3, t4, t5⟩ := hw'; go_simp)⟩) ?_
          simp only [Act.put, List.setIfInBounds_toArray, List.set_cons_zero, List.set_cons_succ]
          refine AnyS.take (i := 2) (v := (.agg #[.int .i64 x1, .int .i64 x2])) [7, 3] rfl (by kernel_rfl) (by kernel_rfl) (by kernel_rfl) (by kernel_rfl) (fun _ _ _ h => h) ⟨a0, a1, a2, a3, a4, a5⟩ (Or.inl ⟨by rfl, fun w' hw' => (by obtain ⟨t0, t1, t2, t3, t4, t5⟩ := hw'; go_simp)⟩) ?_
          simp only [Act.put, List.setIfInBounds_toArray, List.set_cons_zero, List.set_cons_succ]
          refine AnyS.take0 (i := 4) (v := (.pointer (some ⟨ab, 2, none⟩))) rfl (by kernel_rfl) (by kernel_rfl) (by kernel_rfl) (by kernel_rfl) (fun _ _ _ h => h) (fun _ => ⟨a0, a1, a2, a3, a4, a5⟩) (Or.inl ⟨by rfl, fun w' _ => (by go_simp)⟩) ?_
          simp only [Act.put, List.setIfInBounds_toArray, List.set_cons_zero, List.set_cons_succ]
          refine AnyS.take (i := 5) (v := (.agg #[.int .i64 v3, .int .i64 v4])) [7] rfl (by kernel_rfl) (by kernel_rfl) (by kernel_rfl) (by kernel_rfl) (fun _ _ _ h => h) ⟨a0, a1, a2, a3, a4, a5⟩ (Or.inl ⟨by rfl, fun w' hw' => (by obtain ⟨t0, t1, t2, t3, t4, t5⟩ := hw'; go_simp)⟩) ?_
          simp only [Act.put, List.setIfInBounds_toArray, List.set_cons_zero, List.set_cons_succ]
          refine AnyS.take (i := 6) (v := (.agg #[.int .i64 x1, .int .i64 x2])) [7] rfl (by kernel_rfl) (by kernel_rfl) (by kernel_rfl) (by kernel_rfl) (fun _ _ _ h => h) ⟨a0, a1, a2, a3, a4, a5⟩ (Or.inl ⟨by rfl, fun w' hw' => (by obtain ⟨t0, t1, t2, t3, t4, t5⟩ := hw'; go_simp)⟩) ?_
          simp only [Act.put, List.setIfInBounds_toArray, List.set_cons_zero, List.set_cons_succ]
          refine AnyS.step (j := 3) rfl (by kernel_rfl) (fun K hK => ?_)
          go_simp
          refine (HL.out _).mono ?_
          rintro e w5 ⟨rfl, hb5⟩
          replace hb5 := undrew hb5
          have Z5 := Lib.hid (Z0.out.keep hb5)
          clear a0 a1 a2 a3 a4 a5
          go_wp2_with fail
          refine hK.out _ _ (fun _ => ⟨Z5.out.c0, Z5.out.c1, Z5.out.c2, Z5.out.c3, Z5.out.e0, Z5.out.e1⟩) ?_
          clear hK
          refine AnyS.take0 (i := 8) (v := (.pointer (some ⟨ab, 0, none⟩))) rfl (by kernel_rfl) (by kernel_rfl) (by kernel_rfl) (by kernel_rfl) (fun _ _ _ h => h) (fun _ => ⟨Z5.out.c0, Z5.out.c1, Z5.out.c2, Z5.out.c3, Z5.out.e0, Z5.out.e1⟩) (Or.inl ⟨by rfl, fun w' _ => (by go_simp)⟩) ?_
          simp only [Act.put, List.setIfInBounds_toArray, List.set_cons_zero, List.set_cons_succ]
          refine AnyS.step (j := 7) rfl (by kernel_rfl) (fun K hK => ?_)
          go_simp
          refine (HGR.out _).mono ?_
          rintro e w6 ⟨rfl, hb6⟩
          have Z6 := Lib.hid (Z5.out.keep hb6)
          have HS6 := Lib.hid ((HS1.out.keep hb5).keep hb6)
          clear hb5 hb6 Z5 HS1
          go_wp2_with fail
          refine hK.out _ _ (fun e => absurd e (by decide)) ?_
          clear hK
          refine AnyS.rest 9 (by kernel_rfl) rfl (by kernel_rfl) ?_
          change wpList _ _ _ [_, _, _] _ _
          have a0 := Z6.out.c0
          have a1 := Z6.out.c1
          have a2 := Z6.out.c2
          have a3 := Z6.out.c3
          have af := Z6.out.fr
          have HA7 := Lib.hid (AlB.put4 (v := ((v1, v2), (v3, v4))) ⟨Z6.out.c0, Z6.out.c1, Z6.out.c2, Z6.out.c3, Z6.out.la, Z6.out.fr⟩ p1 p2 q1 q2)
          have HS7 := Lib.hid ((((HS6.out.far (p := ⟨ab, 0, none⟩) HAB.out (.int .i64 p1)).far (p := ⟨ab, 1, none⟩) HAB.out (.int .i64 p2)).far (p := ⟨ab, 2, none⟩) HAB.out (.int .i64 q1)).far (p := ⟨ab, 3, none⟩) HAB.out (.int .i64 q2))
          clear Z6 HS6
          go_wp2_with fail
          go_roundw
          case rel => exact ⟨j + 1, by omega, by go_num, HS7, by rw [HST.out]; exact HA7⟩
          case measure => simp [intOf]; omega
        · obtain rfl : j = k := by omega
          have l2 : ¬ (j : Int) < (j : Int) := by omega
          have hv : (fs.take j).foldl ext ((g1, g2), (g1, g2)) = foldV fs := by rw [HF0.out, List.take_of_length_le (by rw [HFL.out]; exact Nat.le_refl _)]
          rw [hv] at HA
          have HSP2 := Lib.hid HSP.out
          clear hv
          obtain ⟨v, hvv⟩ : ∃ v, foldV fs = v := ⟨_, rfl⟩
          rw [hvv] at HA HSP2
          clear hvv HSP HF0 HFS HWF HFL
          obtain ⟨⟨v1, v2⟩, ⟨v3, v4⟩⟩ := v
          have a0 := HA.out.c0
          have a1 := HA.out.c1
          have a2 := HA.out.c2
          have a3 := HA.out.c3
          have q0 := HS.out.q0
          have q1 := HS.out.q1
          have q2 := HS.out.q2
          have q3 := HS.out.q3
          have fq := HS.out.f
          have HB := Lib.hid HS.out.bel
          simp only at a0 a1 a2 a3
          clear HA HS
          go_wp2
          refine bodyPost_ret (v := .tuple #[.agg #[.int .i64 v1, .int .i64 v2, .int .i64 v3, .int .i64 v4], .int .i64 0]) (by simp [results, Try.results48, go_sem, q0, q1, q2, q3, fq]) rfl ⟨?_, ?_⟩
          · rw [HSP2.out]
          · have := HB.out
            exact (by repeat (first | with_reducible exact Below.refl _ _ | (with_reducible refine Below.setCell ?_ (by first | exact Nat.le_refl _ | omega | (simp; done) | (simp; omega)) _) | (with_reducible refine Below.alloc ?_ (by first | exact Nat.le_refl _ | omega | (simp; done) | (simp; omega)) _) | with_reducible refine Below.drew ?_ | with_reducible refine bel_drewN ?_ _ | (with_reducible refine bel_by (by with_reducible assumption) (by first | exact Nat.le_refl _ | omega | (simp; done) | (simp; omega)) ?_)))
end Go.Proofs.Ytbjmibaepccbeaa
