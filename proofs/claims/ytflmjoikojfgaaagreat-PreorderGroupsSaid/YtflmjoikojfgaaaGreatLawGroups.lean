/- The groups, one behind the other, are the order; the rows of a group have one place, which is one more than the number of rows before the group: the law. -/
import Derived.Test.YtflmjoikojfgaaaGreatGrpP
import Derived.Test.YtflmjoikojfgaaaGreatFew
import Derived.Test.YtflmjoikojfgaaaGreatLawOrder
set_option linter.unusedSimpArgs false
set_option linter.unusedVariables false
namespace Go.Proofs.YtflmjoikojfgaaaGreat
open Go.RowKit Go.Sort

/-- the rows of the first groups -/
def grpF (G : List Gr) (i : Nat) : List Nat := ((G.take i).map Gr.L).flatten
theorem grpF_step {G : List Gr} {i : Nat} (h : i < G.length) : grpF G (i + 1) = grpF G i ++ (G[i]'h).L := by
  unfold grpF
  rw [List.take_succ_eq_append_getElem h, List.map_append, List.flatten_append]
  simp only [List.map_cons, List.map_nil, List.flatten_cons, List.flatten_nil, List.append_nil]
theorem grpF_pre {C : List (List (Int × Int))} {O : List Nat} {G : List Gr} {m : Nat} (hl : ∀ r ∈ C, r.length = m) (h : OrdL C O) (hG : G.map Gr.L = grpK C O O.length) (i : Nat) : ∃ R, O = grpF G i ++ R := by
  have S := (grp_all hl h O.length (Nat.le_refl _)).flat
  rw [List.take_of_length_le (Nat.le_refl _), ← hG] at S
  refine ⟨((G.drop i).map Gr.L).flatten, ?_⟩
  unfold grpF
  rw [← List.flatten_append, ← List.map_append, List.take_append_drop]
  exact S.symm
theorem grpF_end {C : List (List (Int × Int))} {O : List Nat} {G : List Gr} {m : Nat} (hl : ∀ r ∈ C, r.length = m) (h : OrdL C O) (hG : G.map Gr.L = grpK C O O.length) : grpF G G.length = O := by
  have S := (grp_all hl h O.length (Nat.le_refl _)).flat
  rw [List.take_of_length_le (Nat.le_refl _), ← hG] at S
  unfold grpF
  rw [List.take_of_length_le (Nat.le_refl _)]
  exact S
theorem grpF_place {C : List (List (Int × Int))} {O : List Nat} {G : List Gr} {m : Nat} (hl : ∀ r ∈ C, r.length = m) (h : OrdL C O) (hG : G.map Gr.L = grpK C O O.length) {i : Nat} (hi : i < G.length) {r : Nat} (hr : r ∈ (G[i]'hi).L) : (plcL ahC C).getD r 0 = 1 + ((grpF G i).length : Int) := by
  refine grp_place hl h (A := (G.take i).map Gr.L) (B := (G.drop (i + 1)).map Gr.L) (g := (G[i]'hi).L) ?_ hr
  rw [← hG]
  conv => lhs; rw [← List.take_append_drop i G, List.drop_eq_getElem_cons hi]
  rw [List.map_append, List.map_cons]
theorem grpF_ne {C : List (List (Int × Int))} {O : List Nat} {G : List Gr} {m : Nat} (hl : ∀ r ∈ C, r.length = m) (h : OrdL C O) (hG : G.map Gr.L = grpK C O O.length) {i : Nat} (hi : i < G.length) : (G[i]'hi).L ≠ [] :=
  (grp_all hl h O.length (Nat.le_refl _)).ne _ (hG ▸ List.mem_map.2 ⟨_, List.getElem_mem hi, rfl⟩)
theorem addr_addG {b o j : Nat} : (⟨b, o, none⟩ : Addr).add j = ⟨b, o + j, none⟩ := by unfold Addr.add; split <;> simp_all
theorem natL_app (A B : List Nat) : natL (A ++ B) = natL A ++ natL B := by simp [natL]
theorem natL_mem_lt {C : List (List (Int × Int))} {O : List Nat} {G : List Gr} {m : Nat} (hl : ∀ r ∈ C, r.length = m) (h : OrdL C O) (hG : G.map Gr.L = grpK C O O.length) {i : Nat} (hi : i < G.length) {r : Nat} (hr : r ∈ (G[i]'hi).L) : r < C.length := by
  obtain ⟨R, hR⟩ := grpF_pre hl h hG (i + 1)
  exact h.lt (by rw [hR, grpF_step hi]; simp [hr])
/-- the beginning of a slice -/
theorem slI_take {w : World} {g n cap m : Nat} {L : List Int} (h : SlI w (some ⟨g, 0, none⟩) g 0 n cap L) (hm : m ≤ n) : SlI w (some ⟨g, 0, none⟩) g 0 m cap (L.take m) := by
  have hl := h.hl
  refine ⟨by rw [List.length_take]; omega, fun _ => rfl, fun h0 => h.hb (by omega), Nat.le_trans hm h.hcap, h.hmax, fun k hk => ?_⟩
  rw [List.length_take] at hk
  rw [h.cell k (by omega), List.getElem_take]
set_option maxHeartbeats 8000000 in
set_option maxRecDepth 100000 in
theorem groups_law {a : Option Addr} {b off len cap : Nat} {M : List Rw} {w : World} (h : SlR w a b off len cap M) :
    Calls Tryz.prog 6 #[.slice a len cap] w fun e w' => e = .returned (.bool true) ∧ Below w.heap.size w w' := by
  have HA := Lib.hid (fun w => awake_any w)
  have hf0 := few_any h
  have hl := h.sl.hl
  have hcl : (crit M).length = len := by unfold crit; rw [List.length_map, hl]
  have hcap := h.sl.hcap
  have hmax := h.sl.hmax
  unfold maxLen at hmax
  have HS := Lib.hid h
  have HCL := Lib.hid hcl
  clear h
  cases hf : fewB (crit M) with
  | false =>
    rw [hf] at hf0
    have HF := Lib.hid hf0
    clear hf hf0 hcl
    go_enter Tryz.func6, Tryz.ntmps6
    go_wp2_with fail
    refine (HF.out).mono ?_
    rintro e w1 ⟨rfl, rfl⟩
    go_wp2_with fail
    refine (HA.out _).mono ?_
    rintro e w2 ⟨rfl, hb⟩
    have HB := Lib.hid hb
    clear hb HA
    go_wp2
    go_ret
    exact ⟨rfl, HB.out⟩
  | true =>
    rw [hf] at hf0
    have HF := Lib.hid hf0
    have h12 : len ≤ 12 := by have := (fewB_ok hf).1; omega
    have hck := check_any HS.out
    clear hf hf0 hcl
    by_cases hc : chkL (crit M) = 0
    · rw [hc] at hck
      have HCK := Lib.hid hck
      have HC := Lib.hid hc
      have HG := Lib.hid (fun W (hB : Below w.heap.size w W) => groups_ok (HS.out.keep hB) hc (by omega))
      have HO := Lib.hid (fun W (hB : Below w.heap.size w W) => order_ok (HS.out.keep hB) hc (by omega))
      have HP := Lib.hid (fun W (hB : Below w.heap.size w W) => places_ok (HS.out.keep hB) hc)
      have HROW := Lib.hid ((chk_ok hc).2.2.1)
      clear hck hc
      go_enter Tryz.func6, Tryz.ntmps6
      go_wp2_with fail
      refine (HF.out).mono ?_
      rintro e w1 ⟨rfl, rfl⟩
      go_wp2_with fail
      refine (HCK.out).mono ?_
      rintro e w1 ⟨rfl, hb⟩
      have HB1 := Lib.hid hb
      clear hb HF HCK
      go_wp2_with fail
      refine (HG.out _ HB1.out).mono ?_
      rintro e w2 ⟨O, hOL, v, G, rfl, hGL, hgr, hb⟩
      have HB2 := Lib.hid (HB1.out.trans (hb.mono HB1.out.size))
      have hOn : O.length = len := by rw [hOL.len]; exact HCL.out
      rw [← hOn] at hGL
      obtain ⟨va, vb, vc, hv, hsv, _, _⟩ := own_sl (enc := Gr.val) rfl hgr.row
      subst hv
      have HGV := Lib.hid hsv
      have HGI := Lib.hid (fun (x : Gr) (hx : x ∈ G) => gr_sl hgr hx)
      have HOL := Lib.hid hOL
      have HON := Lib.hid hOn
      have HGL := Lib.hid hGL
      clear hb hOL hgr hGL hsv HG HB1 hOn
      go_wp2_with fail
      refine (HO.out _ HB2.out).mono ?_
      rintro e w3 ⟨gb, O', rfl, hOL', hso, hgb, hb⟩
      obtain rfl := ord_uniq HOL.out hOL'
      have HB3 := Lib.hid (HB2.out.trans (hb.mono HB2.out.size))
      have HGV3 := Lib.hid (HGV.out.keep hb)
      have HGI3 := Lib.hid (fun (x : Gr) (hx : x ∈ G) => (HGI.out x hx).keep hb)
      have HSO := Lib.hid hso
      clear hb hOL' hso hgb HO HGV HGI HB2
      go_wp2_with fail
      refine (HP.out _ HB3.out).mono ?_
      rintro e w4 ⟨gp, rfl, hsp, _, hb⟩
      have HB4 := Lib.hid (HB3.out.trans (hb.mono HB3.out.size))
      have HGV4 := Lib.hid (HGV3.out.keep hb)
      have HGI4 := Lib.hid (fun (x : Gr) (hx : x ∈ G) => (HGI3.out x hx).keep hb)
      have HSO4 := Lib.hid (HSO.out.keep hb)
      have HSP := Lib.hid hsp
      have hpm := perm_any (HSO.out.keep hb) (n := len) (by omega)
      rw [perm_ord HOL.out HCL.out] at hpm
      have HPM := Lib.hid hpm
      clear hb hsp hpm HP HGV3 HGI3 HSO HB3
      go_wp2_with fail
      refine (HPM.out).mono ?_
      rintro e w5 ⟨rfl, hb⟩
      have HB5 := Lib.hid (HB4.out.trans (hb.mono HB4.out.size))
      have HGV5 := Lib.hid (fun (W : World) (hW : Below w5.heap.size w5 W) => (HGV4.out.keep hb).keep hW)
      have HGI5 := Lib.hid (fun (W : World) (hW : Below w5.heap.size w5 W) (x : Gr) (hx : x ∈ G) => ((HGI4.out x hx).keep hb).keep hW)
      have HSO5 := Lib.hid (fun (W : World) (hW : Below w5.heap.size w5 W) => (HSO4.out.keep hb).keep hW)
      have HSP5 := Lib.hid (fun (W : World) (hW : Below w5.heap.size w5 W) => (HSP.out.keep hb).keep hW)
      have hgc := (HGV5.out w5 (Below.refl _ _)).hcap
      have hgm := (HGV5.out w5 (Below.refl _ _)).hmax
      unfold maxLen at hgm
      have HPRE := Lib.hid (fun i => grpF_pre HROW.out HOL.out HGL.out i)
      have HEND := Lib.hid (grpF_end HROW.out HOL.out HGL.out)
      have HNE := Lib.hid (fun i (hi : i < G.length) => grpF_ne HROW.out HOL.out HGL.out hi)
      have HPL := Lib.hid (fun i (hi : i < G.length) r hr => grpF_place HROW.out HOL.out HGL.out hi (r := r) hr)
      have HLT := Lib.hid (fun i (hi : i < G.length) r hr => natL_mem_lt HROW.out HOL.out HGL.out hi (r := r) hr)
      rw [HCL.out] at HLT
      have HPN := Lib.hid (show (plcL ahC (crit M)).length = len by rw [plcL_len, HCL.out])
      have HGN := Lib.hid (show G.length ≤ len by
        have h1 := congrArg List.length HGL.out
        rw [List.length_map] at h1
        have h2 := grpK_len (crit M) O O.length
        have h3 := HON.out
        omega)
      generalize plcL ahC (crit M) = P at *
      clear hb HPM HGV4 HGI4 HSO4 HSP HB4 HROW HOL HGL HC
      obtain ⟨nG, hnG⟩ : ∃ nG, G.length = nG := ⟨_, rfl⟩
      rw [hnG] at hgc ⊢
      simp only [hnG] at HGV5
      have HNG := Lib.hid hnG
      have bG : nG ≤ 12 := by have := HGN.out; omega
      clear hnG HGN
      obtain ⟨i0, hi0, hz0, hz1, hz2⟩ := info_parts infoI
      have k1 : ((len : Int) != (len : Int)) = false := by simp
      go_wp2_with fail
      have hown0 : (w5.alloc (.cells #[] 3)).ownsRow w5.heap.size 3 1 (.slice (some ⟨w5.heap.size, 0, none⟩) 0 0) 0 [] := World.ownsRow_made w5 #[] 0 (Nat.le_refl _) (Nat.zero_le _) (by simp)
      have HO0 := Lib.hid hown0
      have HB0 := Lib.hid (show Below w5.heap.size w5 (w5.alloc (.cells #[] 3)) from (Below.refl _ _).alloc (Nat.le_refl _) _)
      clear hown0
      go_loopw [9, 10] (fun s9 s10 wr => ∃ (i : Nat) (v : Value), i ≤ nG ∧ s9 = v ∧ s10 = .int .i64 (i : Int) ∧ Hid (wr.ownsRow w5.heap.size 3 1 v (grpF G i).length ((natL (grpF G i)).map (Value.int .i64))) ∧ Hid (Below w5.heap.size w5 wr)) (fun _ s10 _ => (nG - (intOf s10)).toNat)
      case atStart => exact ⟨0, _, Nat.zero_le _, rfl, rfl, Lib.hid (by simpa [grpF, natL] using HO0.out), HB0⟩
      case round =>
        clear HO0 HB0
        obtain ⟨i, v, hi, hv3, rfl, HO, HB⟩ := hrel
        replace hv3 := hv3.symm
        subst hv3
        obtain ⟨ra, rb, rc, hv, hsa, _, _⟩ := own_sl (enc := Value.int .i64) (show (natL (grpF G i)).length = (grpF G i).length from natL_len _) HO.out
        subst hv
        have pc := hsa.hcap
        have pm := hsa.hmax
        unfold maxLen at pm
        clear hsa
        by_cases hlt : i < nG
        · have l1 : (i : Int) < (nG : Int) := by omega
          have hiG : i < G.length := by rw [HNG.out]; exact hlt
          obtain ⟨R, hR⟩ := HPRE.out (i + 1)
          have hstep := grpF_step hiG
          have hne := HNE.out i hiG
          have hpl := HPL.out i hiG
          have hlr := HLT.out i hiG
          have hgv := HGV5.out _ HB.out
          obtain rfl := hgv.ha (by omega)
          have x1 := hgv.cell i hiG
          have hgi := HGI5.out _ HB.out _ (List.getElem_mem hiG)
          have HVX := Lib.hid (fun (W : World) (hW : Below w5.heap.size w5 W) => (HGV5.out W hW).cell i hiG)
          have HGX := Lib.hid (fun (W : World) (hW : Below w5.heap.size w5 W) => HGI5.out W hW _ (List.getElem_mem hiG))
          unfold Gr.val at x1 HVX
          rw [Nat.zero_add] at x1
          obtain ⟨x, hx⟩ : ∃ x, G[i]'hiG = x := ⟨_, rfl⟩
          rw [hx] at hstep hne hpl hlr x1 hgi HVX HGX
          obtain ⟨xg, xc, xL⟩ := x
          simp only at hstep hne hpl hlr x1 hgi HVX HGX
          have hxc := hgi.hcap
          have hxm := hgi.hmax
          unfold maxLen at hxm
          have hnl : (natL (grpF G i)).length = (grpF G i).length := natL_len _
          have hOl := congrArg List.length hR
          rw [List.length_append, HON.out, hstep, List.length_append] at hOl
          have HSTEP := Lib.hid hstep
          have HTK := Lib.hid (show (natL O).take ((grpF G i).length + xL.length) = natL (grpF G i) ++ natL xL by
            rw [hR, hstep, natL_app, natL_app, List.take_append_of_le_length (by rw [List.length_append, natL_len, natL_len]; omega), List.take_of_length_le (by rw [List.length_append, natL_len, natL_len]; omega)])
          obtain ⟨m, hm⟩ : ∃ m, (grpF G i).length = m := ⟨_, rfl⟩
          rw [hm] at HO pc hOl hpl HTK ⊢
          have HM := Lib.hid hm
          obtain ⟨n, hn⟩ : ∃ n, xL.length = n := ⟨_, rfl⟩
          have hn0 : n ≠ 0 := fun e => hne (List.eq_nil_of_length_eq_zero (by omega))
          rw [hn] at hOl hxc x1 hgi HTK
          have hle : m + n ≤ len := by omega
          clear hOl
          simp only [hn] at HVX HGX
          have HNL := Lib.hid hn
          have k2 : ((n : Int) == 0) = false := by rw [beq_eq_false_iff_ne]; omega
          have HXC := Lib.hid hgi
          have HPLX := Lib.hid hpl
          have HLTX := Lib.hid hlr
          clear hstep hne hpl hlr hx hR hgv hgi hm hn hnl
          go_wp2_with (at_builtin; refine wpList_append_own _ rfl _ _ 31 rfl w5.heap.size 3 i0 (.int .i64 0) 1 8 Tryz.underlying31 hi0 hz0 hz1 hz2 rfl (by decide) _ m ((natL (grpF G i)).map (Value.int .i64)) rfl HO.out ⟨xg, 0, none⟩ n xc ((natL xL).map (Value.int .i64)) rfl ?n1 ?n2 ?n3 ?n4 ?n5 ?n6 ?_)
          case n1 => rw [List.length_map, natL_len, HNL.out, Nat.mul_one]
          case n2 =>
            intro j u hu
            rw [List.getElem?_map] at hu
            obtain ⟨r, hr, rfl⟩ := Option.map_eq_some_iff.1 hu
            obtain ⟨hj, rfl⟩ := List.getElem?_eq_some_iff.1 hr
            rw [addr_addG]
            exact HXC.out.cell j hj
          case n3 =>
            intro u hu
            obtain ⟨r, _, rfl⟩ := List.mem_map.1 hu
            rfl
          case n4 => unfold maxLen; omega
          case n5 => omega
          case n6 => exact HB.out.size
          intro v1 w6 ho hg1 _
          have ho' : w6.ownsRow w5.heap.size 3 1 v1 (m + n) ((natL (grpF G i) ++ natL xL).map (Value.int .i64)) := by rw [List.map_append]; exact ho
          have HB6 := Lib.hid (HB.out.grown hg1 HB.out.size (fun k hk => ((HO.out.lt k hk).1)))
          obtain ⟨sa, sb, sc, hv, hs6, _, _⟩ := own_sl (enc := Value.int .i64) (show (natL (grpF G i) ++ natL xL).length = m + n by rw [List.length_append, natL_len, natL_len, HM.out, HNL.out]) ho'
          subst hv
          have sc1 := hs6.hcap
          have sc2 := hs6.hmax
          unfold maxLen at sc2
          have HO6 := Lib.hid ho'
          have htk := slI_take (HSO5.out _ HB6.out) (m := m + n) (by omega)
          rw [HTK.out] at htk
          have hsm := same_any hs6 htk
          rw [decide_eq_true rfl] at hsm
          have HSM := Lib.hid hsm
          clear ho ho' hg1 hs6 htk hsm HO HB x1 HXC
          obtain ⟨K, hK⟩ : ∃ K, m + n = K := ⟨_, rfl⟩
          rw [hK] at hle sc1 HO6 HSM ⊢
          have l6 : ¬ (len : Int) < (K : Int) := by omega
          have l7 : decide ((K : Int) > (len : Int)) = false := decide_eq_false (by omega)
          have l8 : (K : Int) ≤ (len : Int) := by omega
          have HK := Lib.hid hK
          clear hK
          go_wp2_with fail
          refine (HSM.out).mono ?_
          rintro e w7 ⟨rfl, q7, rfl⟩
          have HB7 := Lib.hid (bel_drewN HB6.out q7)
          have HO7 := Lib.hid (own_below HO6.out (bel_drewN (Below.refl _ _) q7))
          clear HSM HB6 HO6
          generalize w6.drewN q7 = w7 at *
          go_wp2_with fail
          go_loopw [12] (fun s12 wi => ∃ (k : Nat), k ≤ n ∧ s12 = .int .i64 (k : Int) ∧ wi = w7) (fun s12 _ => (n - (intOf s12)).toNat)
          case atStart => exact ⟨0, Nat.zero_le _, rfl, rfl⟩
          case round =>
            obtain ⟨k, hk, rfl, hw7⟩ := hrel
            subst hw7
            have y1 := HVX.out _ HB7.out
            rw [Nat.zero_add] at y1
            by_cases hkn : k < n
            · have l9 : (k : Int) < (n : Int) := by omega
              have hkL : k < xL.length := by rw [HNL.out]; exact hkn
              have y2 := (HGX.out _ HB7.out).cell k (by rw [natL_len]; exact hkL)
              rw [Nat.zero_add] at y2
              have hpr := HPLX.out _ (List.getElem_mem hkL)
              have hrl := HLTX.out _ (List.getElem_mem hkL)
              have hnv : (natL xL)[k]'(by rw [natL_len]; exact hkL) = ((xL[k]'hkL : Nat) : Int) := by simp [natL]
              rw [hnv] at y2
              generalize xL[k]'hkL = r at *
              have y3 : wr.cell? ⟨gp, r, none⟩ = some (.int .i64 (1 + (m : Int))) := by
                have hrP : r < P.length := by rw [HPN.out]; exact hrl
                have := (HSP5.out _ HB7.out).cell r hrP
                rw [Nat.zero_add] at this
                rw [this, ← hpr]
                simp [List.getD, hrP]
              have l10 : (r : Int) < (len : Int) := by omega
              have q1 : (1 + (m : Int)) - 1 = (m : Int) := by omega
              have q2 : IntKind.i64.wrap (m : Int) = (m : Int) := IntWalk.i64_in _ (by omega)
              have q3 : ((m : Int) != (m : Int)) = false := by simp
              clear hpr hnv
              go_wp2_with fail
              go_roundw
              case rel => exact ⟨k + 1, by omega, by go_num, by first | rfl | trivial⟩
              case measure => simp [intOf]; omega
            · obtain rfl : k = n := by omega
              have l9 : ¬ (k : Int) < (k : Int) := by omega
              have HFIN := Lib.hid (show wr.ownsRow w5.heap.size 3 1 (.slice sa K sc) (grpF G (i + 1)).length ((natL (grpF G (i + 1))).map (Value.int .i64)) by
                rw [HSTEP.out, natL_app, List.length_append, HM.out, HNL.out, HK.out]
                exact HO7.out)
              go_wp2_with fail
              go_roundw
              case rel => exact ⟨i + 1, _, by omega, rfl, by go_num, HFIN, HB7⟩
              case measure => simp [intOf]; omega
        · obtain rfl : i = nG := by omega
          have l1 : ¬ (i : Int) < (i : Int) := by omega
          have hFO : grpF G i = O := by rw [← HNG.out]; exact HEND.out
          have hFl : (grpF G i).length = len := by rw [hFO]; exact HON.out
          rw [hFl]
          have kn : ((len : Int) == (len : Int)) = true := by simp
          have HB8 := Lib.hid (HB5.out.trans (HB.out.mono HB5.out.size))
          clear hFO hFl HO HB
          go_wp2_with fail
          refine (HA.out _).mono ?_
          rintro e w9 ⟨rfl, hb⟩
          have HB9 := Lib.hid (HB8.out.trans (hb.mono HB8.out.size))
          clear hb HA
          go_wp2
          go_ret
          exact ⟨rfl, HB9.out⟩
    · obtain ⟨c, hcc⟩ : ∃ c, chkL (crit M) = c := ⟨_, rfl⟩
      rw [hcc] at hck hc
      have k0 : (c != 0) = true := by simpa using hc
      have HCK := Lib.hid hck
      clear hck hcc hc
      go_enter Tryz.func6, Tryz.ntmps6
      go_wp2_with fail
      refine (HF.out).mono ?_
      rintro e w1 ⟨rfl, rfl⟩
      go_wp2_with fail
      refine (HCK.out).mono ?_
      rintro e w1 ⟨rfl, hb⟩
      have HB1 := Lib.hid hb
      clear hb HF HCK
      go_wp2_with fail
      refine (HA.out _).mono ?_
      rintro e w2 ⟨rfl, hb⟩
      have HB2 := Lib.hid (HB1.out.trans (hb.mono HB1.out.size))
      clear hb HA
      go_wp2
      go_ret
      exact ⟨rfl, HB2.out⟩
end Go.Proofs.YtflmjoikojfgaaaGreat
