/- Median ranks by the medians of the places; of equal rankings it is this ranking: the law. -/
import Derived.Test.YtflmjoikojfgaaaGreatMedP
import Derived.Test.YtflmjoikojfgaaaGreatSho
import Derived.Test.YtflmjoikojfgaaaGreatAwk
set_option linter.unusedSimpArgs false
set_option linter.unusedVariables false
namespace Go.Proofs.YtflmjoikojfgaaaGreat
open Go.RowKit Go.Sort

set_option maxHeartbeats 4000000 in
set_option maxRecDepth 100000 in
theorem median_law {a : Option Addr} {b off len cap : Nat} {M : List Li} {w : World} (h : SlL w a b off len cap M) (hI : ∀ r ∈ M, InI r.L) :
    Calls Tryz.prog 12 #[.slice a len cap] w fun e w' => e = .returned (.bool true) ∧ Below w.heap.size w w' := by
  have HA := Lib.hid (fun w => awake_any w)
  have hf0 := short_any h
  have hl := h.sl.hl
  have hcl : (lis M).length = len := by rw [lis_len, hl]
  have hcap := h.sl.hcap
  have hmax := h.sl.hmax
  unfold maxLen at hmax
  have HS := Lib.hid h
  have HI := Lib.hid hI
  clear h hI
  cases hf : shoB (lis M) with
  | false =>
    rw [hf] at hf0
    have HF := Lib.hid hf0
    clear hf hf0 hcl
    go_enter Tryz.func12, Tryz.ntmps12
    go_wp2_with fail
    refine (HF.out).mono ?_
    rintro e w1 ⟨rfl, rfl⟩
    go_wp2_with fail
    refine (HA.out _).mono ?_
    rintro e w2 ⟨rfl, hb⟩
    have HB := Lib.hid hb
    clear hb HA
    go_wp2
    go_ret
    exact ⟨rfl, HB.out⟩
  | true =>
    rw [hf] at hf0
    have HF := Lib.hid hf0
    obtain ⟨hs1, hs2⟩ := shoB_ok hf
    have h8 : len ≤ 8 := by omega
    have h12 : ∀ r ∈ M, r.L.length ≤ 12 := fun r hr => hs2 _ (lis_mem hr)
    have hz : ∀ r ∈ M, r.L.length ≤ 1000000 := fun r hr => by have := h12 r hr; omega
    clear hf hf0 hs1 hs2
    by_cases h0 : len = 0
    · subst h0
      have hM : M = [] := List.eq_nil_of_length_eq_zero hl
      subst hM
      have HM := Lib.hid (med_none HS.out)
      clear h12 hz hcl
      go_enter Tryz.func12, Tryz.ntmps12
      go_wp2_with fail
      refine (HF.out).mono ?_
      rintro e w1 ⟨rfl, rfl⟩
      go_wp2_with fail
      refine (HM.out).mono ?_
      rintro e w1 ⟨rfl, hb⟩
      have HB1 := Lib.hid hb
      clear hb HF HM
      go_wp2_with fail
      refine (HA.out _).mono ?_
      rintro e w2 ⟨rfl, hb⟩
      have HB2 := Lib.hid (HB1.out.trans (hb.mono HB1.out.size))
      clear hb HA
      go_wp2
      go_ret
      exact ⟨rfl, HB2.out⟩
    · have k0 : ((len : Int) == 0) = false := by rw [beq_eq_false_iff_ne]; omega
      have hpos : 0 < len := by omega
      obtain rfl := HS.out.sl.ha hpos
      have HR := Lib.hid (fun W (hB : Below w.heap.size w W) => rks_any (HS.out.keep hB) HI.out hz)
      cases hr : rnksB (lis M) with
      | false =>
        have hc : crkL (lis M) = 1 := by unfold crkL; rw [if_neg (by omega), hr]; rfl
        have HM := Lib.hid (med_no HS.out hz hc (by decide))
        rw [hr] at HR
        clear h12 hz hcl hc hr
        go_enter Tryz.func12, Tryz.ntmps12
        go_wp2_with fail
        refine (HF.out).mono ?_
        rintro e w1 ⟨rfl, rfl⟩
        go_wp2_with fail
        refine (HM.out).mono ?_
        rintro e w1 ⟨rfl, hb⟩
        have HB1 := Lib.hid hb
        clear hb HF HM
        go_wp2_with fail
        refine (HR.out _ HB1.out).mono ?_
        rintro e w2 ⟨rfl, q, rfl⟩
        have HB2 := Lib.hid (bel_drewN HB1.out q)
        clear HB1 HR
        generalize w1.drewN q = w2 at *
        go_wp2_with fail
        refine (HA.out _).mono ?_
        rintro e w3 ⟨rfl, hb⟩
        have HB3 := Lib.hid (HB2.out.trans (hb.mono HB2.out.size))
        clear hb HA
        go_wp2
        go_ret
        exact ⟨rfl, HB3.out⟩
      | true =>
        have hc : crkL (lis M) = 0 := by unfold crkL; rw [if_neg (by omega), hr]; rfl
        have HM := Lib.hid (med_ok HS.out hz hc hpos)
        have h0M : 0 < M.length := by omega
        have hall : ∀ r ∈ M, r.L.length = headI (lis M) := fun r hrr => (rnks_at hr (lis_mem hrr)).1
        have hn0 := hall _ (List.getElem_mem h0M)
        have hN : headI (lis M) ≤ 12 := by rw [← hn0]; exact h12 _ (List.getElem_mem h0M)
        have hrk0 : rnkB (M[0]'h0M).L = true := (rnks_at hr (lis_mem (List.getElem_mem h0M))).2
        have HRM := Lib.hid (fun W (hB : Below w.heap.size w W) => rmed_any (HS.out.keep hB) hall hpos (by omega) (by omega))
        have HRK := Lib.hid (rnk_plc (medsL (lis M) (headI (lis M))))
        rw [hr] at HR
        have HRK2 := Lib.hid (show rnkB (medR (lis M)) = true from HRK.out)
        obtain ⟨P, hP⟩ : ∃ P, medR (lis M) = P := ⟨_, rfl⟩
        obtain ⟨N, hNN⟩ : ∃ N, headI (lis M) = N := ⟨_, rfl⟩
        rw [hP] at HM HRM HRK2
        rw [hNN] at HM HRM hn0 hN
        have X0 := Lib.hid (fun (W : World) (hB : Below w.heap.size w W) => (show W.cell? ⟨b, off, none⟩ = some (.slice (M[0]'h0M).a N (M[0]'h0M).cap) by
          have := (HS.out.keep hB).sl.cell 0 h0M
          unfold Li.val at this
          rw [hn0] at this
          exact this))
        have HL0 := Lib.hid (fun (W : World) (hB : Below w.heap.size w W) => (show SlI W (M[0]'h0M).a (M[0]'h0M).b (M[0]'h0M).off N (M[0]'h0M).cap (M[0]'h0M).L by
          have := (HS.out.rows _ (List.getElem_mem h0M)).keep hB
          unfold Li.ok at this
          rw [hn0] at this
          exact this))
        generalize (M[0]'h0M).a = a0 at *
        generalize (M[0]'h0M).b = bb0 at *
        generalize (M[0]'h0M).off = of0 at *
        generalize (M[0]'h0M).cap = c0 at *
        generalize (M[0]'h0M).L = L0 at *
        have HTW := Lib.hid (fun (W : World) (hB : Below w.heap.size w W) => (show Calls Tryz.prog 37 #[.slice (some ⟨W.heap.size, 0, none⟩) 2 2] (W.alloc (.cells #[.slice a0 N c0, .slice a0 N c0] 31)).drew (MedPost (W.alloc (.cells #[.slice a0 N c0, .slice a0 N c0] 31)).drew N L0) by
          have hsl := HL0.out W hB
          have hB2 : Below W.heap.size W (W.alloc (.cells #[.slice a0 N c0, .slice a0 N c0] 31)) := new_bel W _
          have hLi : Li.ok (W.alloc (.cells #[.slice a0 N c0, .slice a0 N c0] 31)) ⟨a0, bb0, of0, c0, L0⟩ := by
            unfold Li.ok
            simp only [hn0]
            exact hsl.keep hB2
          have hS2 : SlL (W.alloc (.cells #[.slice a0 N c0, .slice a0 N c0] 31)) (some ⟨W.heap.size, 0, none⟩) W.heap.size 0 2 2 [⟨a0, bb0, of0, c0, L0⟩, ⟨a0, bb0, of0, c0, L0⟩] := by
            refine ⟨new_sl (enc := Li.val) W _ 31 2 rfl (by decide) _ (by simp [Li.val, hn0]), fun r hr => ?_⟩
            have : r = ⟨a0, bb0, of0, c0, L0⟩ := by simpa using hr
            rw [this]; exact hLi
          have := med_ok (hS2.keep (Below.refl _ _).drew) (fun r hr => by
            have : r = ⟨a0, bb0, of0, c0, L0⟩ := by simpa using hr
            rw [this]; simp only; omega) (crk_two hrk0) (by decide)
          rw [show lis [(⟨a0, bb0, of0, c0, L0⟩ : Li), ⟨a0, bb0, of0, c0, L0⟩] = [L0, L0] from rfl, med_two hrk0, show headI [L0, L0] = L0.length from rfl, hn0] at this
          exact this))
        have k2 : (0 : Int) < (len : Int) := by omega
        have c0N := (HL0.out w (Below.refl _ _)).hcap
        have c0M := (HL0.out w (Below.refl _ _)).hmax
        unfold maxLen at c0M
        clear h12 hz hcl hc hr h0M hall hrk0 HRK hP hNN hn0 HI
        go_enter Tryz.func12, Tryz.ntmps12
        go_wp2_with fail
        refine (HF.out).mono ?_
        rintro e w1 ⟨rfl, rfl⟩
        go_wp2_with fail
        refine (HM.out).mono ?_
        rintro e w1 ⟨gm, rfl, hs, _, hb⟩
        have HSM := Lib.hid hs
        have HB1 := Lib.hid hb
        clear hs hb HF HM
        go_wp2_with fail
        refine (HR.out _ HB1.out).mono ?_
        rintro e w2 ⟨rfl, q, rfl⟩
        have HB2 := Lib.hid (bel_drewN HB1.out q)
        have HSM2 := Lib.hid (HSM.out.drewN q)
        clear HB1 HR HSM
        generalize w1.drewN q = w2 at *
        go_wp2_with fail
        have hB2 := HB2.out
        have x0 := X0.out _ hB2
        have hBA : Below w.heap.size w (w2.alloc (.cells #[.slice a0 N c0, .slice a0 N c0] 31)).drew := (hB2.trans ((new_bel w2 (.cells #[.slice a0 N c0, .slice a0 N c0] 31)).mono hB2.size)).drew
        have xA := X0.out _ hBA
        have hSA : SlI (w2.alloc (.cells #[.slice a0 N c0, .slice a0 N c0] 31)).drew (some ⟨gm, 0, none⟩) gm 0 N N P := (HSM2.out.keep (new_bel w2 (.cells #[.slice a0 N c0, .slice a0 N c0] 31))).keep (Below.refl _ _).drew
        have HT3 := Lib.hid (HTW.out _ hB2)
        have HSA := Lib.hid hSA
        have HBA := Lib.hid hBA
        clear hSA hBA hB2 HTW
        go_region_held3 (fun w' => w'.cell? ⟨b, off, none⟩ = some (.slice a0 N c0))
          ((first | exact x0 | exact xA | exact x5))
          ((first
            | (go_at_call 37; refine (HT3.out).mono ?_; rintro e w5 ⟨go, rfl, hs, _, hb⟩; have x5 := X0.out _ (HBA.out.trans (hb.mono HBA.out.size)))))
        have HSO := Lib.hid hs
        have HB5 := Lib.hid (HBA.out.trans (hb.mono HBA.out.size))
        have HS5 := Lib.hid (HSA.out.keep hb)
        clear hs hb HT3 HBA HSA HB2 HSM2 x0 xA x5
        go_wp2_with fail
        refine (HA.out _).mono ?_
        rintro e w6 ⟨rfl, hb⟩
        have HSO6 := Lib.hid (HSO.out.keep hb)
        have HS6 := Lib.hid (HS5.out.keep hb)
        have HB6 := Lib.hid (HB5.out.trans (hb.mono HB5.out.size))
        clear hb HA HSO HS5 HB5
        go_wp2_with fail
        refine (HRM.out _ HB6.out).mono ?_
        rintro e w7 ⟨ra, rb, rc, rfl, hs, hb⟩
        have hsm := same_any (HS6.out.keep hb) hs
        rw [decide_eq_true rfl] at hsm
        have HSA := Lib.hid hsm
        have HSO7 := Lib.hid (HSO6.out.keep hb)
        have HS7 := Lib.hid (HS6.out.keep hb)
        have HB7 := Lib.hid (HB6.out.trans (hb.mono HB6.out.size))
        clear hb hs hsm HRM HSO6 HS6 HB6
        go_wp2_with fail
        refine (HSA.out).mono ?_
        rintro e w8 ⟨rfl, q2, rfl⟩
        have HSO8 := Lib.hid (HSO7.out.drewN q2)
        have HB8 := Lib.hid (bel_drewN HB7.out q2)
        have hrk := ranking_any (HS7.out.drewN q2) (by omega)
        rw [HRK2.out] at hrk
        have HRA := Lib.hid hrk
        clear hrk HSA HSO7 HS7 HB7
        generalize w7.drewN q2 = w8 at *
        go_wp2_with fail
        refine (HRA.out).mono ?_
        rintro e w9 ⟨rfl, hb⟩
        have HB9 := Lib.hid (HB8.out.trans (hb.mono HB8.out.size))
        have x0 := X0.out _ HB9.out
        have hsm := same_any (HSO8.out.keep hb) (HL0.out _ HB9.out)
        rw [decide_eq_true rfl] at hsm
        have HSA := Lib.hid hsm
        clear hb hsm HRA HB8 HSO8
        go_wp2_with fail
        refine (HSA.out).mono ?_
        rintro e w10 ⟨rfl, q3, rfl⟩
        have HB10 := Lib.hid (bel_drewN HB9.out q3)
        clear HB9 HSA x0
        generalize w9.drewN q3 = w10 at *
        go_wp2
        go_ret
        exact ⟨rfl, HB10.out⟩
end Go.Proofs.YtflmjoikojfgaaaGreat
