/- leaving: the arcs that leave each vertex. -/
import Derived.Test.YtpcdbnlljdfogaaLeaA
set_option linter.unusedSimpArgs false
set_option linter.unusedVariables false
namespace Go.Proofs.Ytpcdbnlljdfogaa
open Go.RowKit

theorem swp_at {H : List Int} (he : H.length % 2 = 0) {k : Nat} (hk : k < H.length) (hm : mate k < H.length) : atI (swp H) (k : Int) = H[mate k]'hm := by
  have h := swp_get _ H (Nat.le_refl _) he k hk
  unfold atI
  rw [Int.toNat_natCast, List.getD_eq_getElem?_getD, h, List.getElem?_eq_getElem hm]
  rfl
set_option maxHeartbeats 8000000 in
set_option maxRecDepth 100000 in
theorem lev_any (n : Nat) (a : Option Addr) (b off len cap : Nat) (H : List Int) (w : World) (hs : SlI w a b off len cap H) (hn : 2 ≤ n ∧ n ≤ 1000) (hlen : len ≤ 10000) (he : len % 2 = 0) (hv : ∀ x ∈ H, 0 ≤ x ∧ x < (n : Int)) :
    Calls Try.prog 65 #[.int .i64 (n : Int), .slice a len cap] w fun e w' => ∃ gl gr C, e = .returned (.slice (some ⟨gl, 0, none⟩) n n) ∧ LevK w' w.heap.size gl gr n H H.length C ∧ Below w.heap.size w w' := by
  have HSl := Lib.hid hs
  have hHl := hs.hl
  have HV := Lib.hid hv
  obtain ⟨n1, n2⟩ := hn
  obtain ⟨i0, hi0, hz0, hz1, hz2⟩ := info_parts infoI
  obtain ⟨i1, hi1, hy0, hy1, hy2⟩ := info_parts info48
  obtain ⟨wA, hmk, hown, hgrow⟩ := run_make_full (P := Try.prog) w w.heap.size 22 3 i0 (.int .i64 0) 1 Try.underlying22 hi0 hz0 hz1 .i64 .i64 n (by rw [hz2]; omega) (by unfold maxLen; omega) (Nat.le_refl _)
  have HB1 := Lib.hid ((Below.refl w.heap.size w).grown hgrow (Nat.le_refl _) (by simp))
  have HO1 := Lib.hid (show OwI wA w.heap.size (.slice (some ⟨w.heap.size, 0, none⟩) n n) n (degs (H.take 0) n) by
    rw [List.take_zero, degs_nil]
    have e : (madeCells (Value.int IntKind.i64 0).cells (n * 1)).toList = (List.replicate n (0 : Int)).map (Value.int .i64) := by
      rw [Nat.mul_one, List.map_replicate]
      exact toList_madeCells_one _ _
    rw [e] at hown
    exact hown)
  clear hown hgrow hs hv
  go_enter Try.func65, Try.ntmps65
  go_wp2_with fail
  clear hmk
  go_loopw [7, 18] (fun _ s18 wq => ∃ (k : Nat), s18 = .int .i64 (k : Int) ∧ k ≤ len ∧ Hid (OwI wq w.heap.size (.slice (some ⟨w.heap.size, 0, none⟩) n n) n (degs (H.take k) n)) ∧ Hid (Below w.heap.size w wq)) (fun _ s18 _ => (len - (intOf s18)).toNat)
  case atStart => exact ⟨0, rfl, Nat.zero_le _, HO1, HB1⟩
  case round =>
    clear HO1 HB1
    obtain ⟨k, rfl, hk, HO, HB⟩ := hrel
    by_cases hlt : k < len
    · have hlz : (k : Int) < (len : Int) := by omega
      have hkH : k < H.length := by omega
      have HS2 := Lib.hid (HSl.out.keep HB.out)
      obtain rfl := HS2.out.ha (by omega)
      have hbb := HS2.out.hb (by omega)
      have hcc := HS2.out.hcap
      have hmm := HS2.out.hmax
      unfold maxLen at hmm
      have c0 := HS2.out.cell k hkH
      have hx := HV.out _ (List.getElem_mem hkH)
      obtain ⟨t, ht⟩ : ∃ t : Nat, H[k]'hkH = (t : Int) := ⟨(H[k]'hkH).toNat, by omega⟩
      rw [ht] at c0 hx
      have htn : t < n := by omega
      have htz : (t : Int) < (n : Int) := by omega
      have c1 := HO.out.at_ t (by rw [degs_len]; exact htn)
      rw [degs_get _ _ _ htn] at c1
      have fz := World.ownsRow.frozenAt HO.out t
      have hcn : (H.take k).count (t : Int) ≤ k := by have := List.count_le_length (a := (t : Int)) (l := H.take k); rw [List.length_take] at this; omega
      have HO3 := Lib.hid (HO.out.put t ((((H.take k).count (t : Int) : Nat) : Int) + 1))
      rw [degs_step H n k t hkH ht htn] at HO3
      have HB3 := Lib.hid (HB.out.setCell (p := ⟨w.heap.size, t, none⟩) (Nat.le_refl _) (.int .i64 ((((H.take k).count (t : Int) : Nat) : Int) + 1)))
      generalize (H.take k).count (t : Int) = ct at *
      clear HO HB HS2 hx ht
      go_wp2_with fail
      go_roundw
      case rel => exact ⟨k + 1, by go_num, by omega, HO3, HB3⟩
      case measure => simp [intOf]; omega
    · have hlz : ¬ (k : Int) < (len : Int) := by omega
      have : k = len := by omega
      subst this
      rw [List.take_of_length_le (by rw [hHl]; exact Nat.le_refl _)] at HO
      obtain ⟨wB, hmkB, hownB, hgrowB⟩ := run_make_full (P := Try.prog) wr w.heap.size 48 22 i1 (.slice none 0 0) 1 Try.underlying48 hi1 hy0 hy1 .i64 .i64 n (by rw [hy2]; omega) (by unfold maxLen; omega) HB.out.size
      obtain ⟨wC, hmkC, hownC, hgrowC⟩ := run_make_full (P := Try.prog) wB w.heap.size 22 3 i0 (.int .i64 0) 1 Try.underlying22 hi0 hz0 hz1 .i64 .i64 k (by rw [hz2]; omega) (by unfold maxLen; omega) (Nat.le_trans HB.out.size hgrowB.4)
      have HgB := hgrowB.4
      have HgC := hgrowC.4
      have hww := HB.out.size
      have hDl := (World.ownsRow.lt HO.out w.heap.size rfl).2
      have HBB := Lib.hid (HB.out.grown hgrowB HB.out.size (by simp))
      have HBC := Lib.hid (HBB.out.grown hgrowC HBB.out.size (by simp))
      have hlB := (World.ownsRow.lt hownB _ rfl).2
      have hlC := (World.ownsRow.lt hownC _ rfl).2
      have HOd := Lib.hid (show OwI wC w.heap.size (.slice (some ⟨w.heap.size, 0, none⟩) n n) n (degs H n) from World.ownsRow.kept (World.ownsRow.kept HO.out hgrowB (.inr (by simp [Value.ownBlock]))) hgrowC (.inr (by simp [Value.ownBlock])))
      have HOl := Lib.hid (show wC.ownsRow w.heap.size 22 1 (.slice (some ⟨wr.heap.size, 0, none⟩) n n) n (lv2 wB.heap.size H n 0) by
        rw [lv2_nil]
        have e : (madeCells (Value.slice none 0 0).cells (n * 1)).toList = List.replicate n (.slice none 0 0) := by
          rw [Nat.mul_one]
          exact toList_madeCells_one _ _
        rw [e] at hownB
        exact World.ownsRow.kept hownB hgrowC (.inr (by simp [Value.ownBlock])))
      have HOr := Lib.hid (show OwI wC w.heap.size (.slice (some ⟨wB.heap.size, 0, none⟩) k k) k (List.replicate k 0) by
        have e : (madeCells (Value.int IntKind.i64 0).cells (k * 1)).toList = (List.replicate k (0 : Int)).map (Value.int .i64) := by
          rw [Nat.mul_one, List.map_replicate]
          exact toList_madeCells_one _ _
        rw [e] at hownC
        exact hownC)
      have hgl1 : w.heap.size < wr.heap.size := hDl
      have hgr1 : wr.heap.size < wB.heap.size := hlB
      clear hownB hownC hgrowB hgrowC HO HB HBB HgB HgC
      go_wp2_with fail
      clear hmkB hmkC
      generalize hgl : wr.heap.size = gl at *
      generalize hgr : wB.heap.size = gr at *
      clear hgl hgr hlB hlC hDl
      go_loopw [9, 10, 11, 36] (fun s9 _ _ s36 wq => ∃ (v : Nat), s9 = .slice (some ⟨gr, po H v, none⟩) (k - offs H v) (k - offs H v) ∧ s36 = .int .i64 (v : Int) ∧ v ≤ n ∧ Hid (wq.ownsRow w.heap.size 22 1 (.slice (some ⟨gl, 0, none⟩) n n) n (lv2 gr H n v)) ∧ Hid (OwI wq w.heap.size (.slice (some ⟨w.heap.size, 0, none⟩) n n) n (degs H n)) ∧ Hid (OwI wq w.heap.size (.slice (some ⟨gr, 0, none⟩) k k) k (List.replicate k 0)) ∧ Hid (Below w.heap.size w wq)) (fun _ _ _ s36 _ => (n - (intOf s36)).toNat)
      case atStart => exact ⟨0, rfl, rfl, Nat.zero_le _, HOl, HOd, HOr, HBC⟩
      case round =>
        clear HOl HOd HOr HBC
        obtain ⟨v, rfl, rfl, hvn, HOl, HOd, HOr, HB⟩ := hrel
        by_cases hlt : v < n
        · have hlz : (v : Int) < (n : Int) := by omega
          have c0 := HOd.out.at_ v (by rw [degs_len]; exact hlt)
          rw [degs_get _ _ _ hlt] at c0
          have hf1 := World.ownsRow.frozenAt HOl.out v
          have cl := World.ownsRow.cellAt HOl.out v (by omega)
          have hoff := offs_le H (v + 1)
          have hoff' : offs H (v + 1) = offs H v + H.count (v : Int) := rfl
          have HP1 := Lib.hid (show po H (v + 1) = if offs H (v + 1) = H.length then po H v else offs H (v + 1) from rfl)
          have HP2 := Lib.hid (po_eq H v)
          have hls : ∃ u, (lv2 gr H n v)[v]? = some u := ⟨_, List.getElem?_eq_getElem (by simp [lv2]; exact hlt)⟩
          obtain ⟨u0, hu0⟩ := hls
          rw [hu0] at cl
          have HL3 := Lib.hid (World.ownsRow.stored HOl.out v (lv gr H 0 v)).1
          rw [lv2_step gr H n v hlt, lv_zero] at HL3
          have HD3 := Lib.hid (HOd.out.far (p := ⟨gl, v, none⟩) (lv gr H 0 v) (by simp [Value.ownBlock]; omega))
          have HR3 := Lib.hid (HOr.out.far (p := ⟨gl, v, none⟩) (lv gr H 0 v) (by simp [Value.ownBlock]; omega))
          have HB3 := Lib.hid (HB.out.setCell (p := ⟨gl, v, none⟩) (by simp; omega) (lv gr H 0 v))
          rw [lv_zero] at HD3 HR3 HB3
          rw [hHl] at hoff HP1 HP2
          clear HOl HOd HOr HB hu0
          have HSr := Lib.hid (show k - offs H (v + 1) = (k - offs H v) - H.count (v : Int) by omega)
          have hdr : H.count (v : Int) ≤ k - offs H v := by omega
          have HPE := Lib.hid (show (k - offs H v = H.count (v : Int) → po H (v + 1) = po H v) ∧ (¬ k - offs H v = H.count (v : Int) → po H (v + 1) = po H v + H.count (v : Int)) by
            refine ⟨fun h => ?_, fun h => ?_⟩
            · rw [HP1.out, if_pos (by omega)]
            · rw [HP1.out, if_neg (by omega), HP2.out (by omega)]
              exact hoff')
          have hrk : k - offs H v ≤ k := by omega
          clear hoff hoff' HP1 HP2
          generalize po H v = pv at *
          generalize hr : k - offs H v = r at *
          generalize H.count (v : Int) = d at *
          have hz1' : (0 : Int) ≤ (d : Int) := by omega
          have hz2' : (d : Int) ≤ (r : Int) := by omega
          by_cases q : r = d
          · have HPF := Lib.hid (HPE.out.1 q)
            clear HPE
            subst q
            go_wp2_with fail
            go_roundw
            case rel => exact ⟨v + 1, by rw [HSr.out, HPF.out] <;> simp, by go_num, by omega, HL3, HD3, HR3, HB3⟩
            case measure => simp [intOf]; omega
          · have HPF := Lib.hid (HPE.out.2 q)
            clear HPE
            go_wp2_with fail
            go_roundw
            case rel => exact ⟨v + 1, by rw [HSr.out, HPF.out] <;> simp, by go_num, by omega, HL3, HD3, HR3, HB3⟩
            case measure => simp [intOf]; omega
        · have hlz : ¬ (v : Int) < (n : Int) := by omega
          have : v = n := by omega
          subst this
          have HK0 := Lib.hid (show LevK wr w.heap.size gl gr v H 0 (List.replicate k 0) from
            ⟨by rw [hHl]; exact HOr.out, by rw [← lv2_all]; exact HOl.out, fun u hu j x hx => by simp [arcsL] at hx, by omega⟩)
          have HB0 := HB
          clear HOl HOd HOr HB
          go_wp2_with fail
          go_loopw [12, 13, 53] (fun _ _ s53 wq => ∃ (m : Nat) (C : List Int), s53 = .int .i64 (m : Int) ∧ m ≤ k ∧ Hid (LevK wq w.heap.size gl gr v H m C) ∧ Hid (Below w.heap.size w wq)) (fun _ _ s53 _ => (k - (intOf s53)).toNat)
          case atStart => exact ⟨0, _, rfl, Nat.zero_le _, HK0, HB0⟩
          case round =>
            clear HK0 HB0
            obtain ⟨m, C, rfl, hm, HK, HB⟩ := hrel
            by_cases hlt : m < k
            · have hlz : (m : Int) < (k : Int) := by omega
              have hmH : m < H.length := by omega
              have HS2 := Lib.hid (HSl.out.keep HB.out)
              obtain rfl := HS2.out.ha (by omega)
              have hbb := HS2.out.hb (by omega)
              have hcc := HS2.out.hcap
              have hmm := HS2.out.hmax
              unfold maxLen at hmm
              have hmt : mate m < k := mate_lt hlt he
              have hmtz : ((mate m : Nat) : Int) < (k : Int) := by omega
              have hmtH : mate m < H.length := by omega
              have c0 := HS2.out.cell (mate m) hmtH
              have hx := HV.out _ (List.getElem_mem hmtH)
              have HAt := Lib.hid (swp_at (by omega) hmH hmtH)
              obtain ⟨t, ht⟩ : ∃ t : Nat, H[mate m]'hmtH = (t : Int) := ⟨(H[mate m]'hmtH).toNat, by omega⟩
              rw [ht] at c0 hx HAt
              have htn : t < v := by omega
              have htz : (t : Int) < (v : Int) := by omega
              have hxb := bits_mate m (by omega)
              have cl := World.ownsRow.cellAt HK.out.l t (by omega)
              have fl := World.ownsRow.frozenAt HK.out.l t
              have HKa := Lib.hid (HK.out.low ((Below.refl wr.heap.size wr).alloc (Nat.le_refl _) (.cells #[.int .i64 (m : Int)] 3)))
              have HKs := HK.out.step hmH HAt.out htn
              have HKn := Lib.hid (HKs.low ((Below.refl _ _).alloc (Nat.le_refl _) (.cells #[.int .i64 (m : Int)] 3)))
              clear HKs
              have hls := (World.ownsRow.lt HK.out.l gl rfl).2
              have hgs := (World.ownsRow.lt HK.out.g gr rfl).2
              have hsl := swp_length H
              have hlt2 := arcsL_lt (swp H) t m (by omega) HAt.out
              rw [swp_cnt _ _ H (Nat.le_refl _)] at hlt2
              have ho := offs_le H (t + 1)
              have ho' : offs H (t + 1) = offs H t + H.count (t : Int) := rfl
              have hpo : po H t = offs H t := po_eq H t (by omega)
              have hCl : C.length = H.length := HK.out.g.len
              have hap : offs H t + (arcsL (swp H) t m).length < C.length := by omega
              have cg := HK.out.g.at_ _ hap
              have fg := World.ownsRow.frozenAt HK.out.g (offs H t + (arcsL (swp H) t m).length)
              rw [show ((List.range v).map (lv gr H m))[t]? = some (.slice (some ⟨gr, offs H t, none⟩) (arcsL (swp H) t m).length (H.count (t : Int))) by rw [List.getElem?_map, List.getElem?_range htn]; show some (lv gr H m t) = _; unfold lv; rw [hpo]] at cl
              have hlv : lv gr H (m + 1) t = .slice (some ⟨gr, offs H t, none⟩) ((arcsL (swp H) t m).length + 1) (H.count (t : Int)) := by
                unfold lv
                rw [hpo]
                congr 1
                show (arcsL (swp H) t m ++ (if atI (swp H) (m : Int) = (t : Int) then [(m : Int)] else [])).length = _
                rw [if_pos HAt.out, List.length_append]
                rfl
              rw [hlv] at HKn
              have hroom : (arcsL (swp H) t m).length + 1 ≤ H.count (t : Int) := by omega
              have hww2 := HB.out.size
              have HBn := Lib.hid (((HB.out.setCell (p := ⟨gr, offs H t + (arcsL (swp H) t m).length, none⟩) (by simp; omega) (.int .i64 (m : Int))).setCell (p := ⟨gl, t, none⟩) (by simp; omega) (lv gr H (m + 1) t)).alloc (by simpa using HB.out.size) (.cells #[.int .i64 (m : Int)] 3))
              rw [hlv] at HBn
              have hne := HK.out.ne
              have hcell : ((wr.alloc (.cells #[.int .i64 (m : Int)] 3)).cell? ⟨gr, offs H t + (arcsL (swp H) t m).length, none⟩).isSome = true := by
                rw [HKa.out.g.at_ _ hap]
                rfl
              have hfz := World.ownsRow.frozenAt HKa.out.g (offs H t + (arcsL (swp H) t m).length)
              clear HK HKa hlv hpo ho ho' hsl hCl ht hx HS2 HAt cg fg
              generalize (arcsL (swp H) t m).length = ar at *
              generalize H.count (t : Int) = ct at *
              generalize offs H t = ot at *
              go_wp2_with (first | (at_builtin; refine wpList_append_spot _ rfl _ _ 22 rfl 3 i0 Try.underlying22 hi0 hz1 gr ot ar ct rfl ⟨wr.heap.size, 0, none⟩ 1 (.int .i64 (m : Int)) rfl ?qa1 rfl hroom hcell hfz ?_) | go_in)
              case qa1 => rw [Addr.add_lit]; simp [go_sem]
              go_wp2_with fail
              go_roundw
              case rel => exact ⟨m + 1, _, by go_num, by omega, HKn, HBn⟩
              case measure => simp [intOf]; omega
            · have hlz : ¬ (m : Int) < (k : Int) := by omega
              have : m = k := by omega
              subst this
              go_wp2_with fail
              go_ret
              exact ⟨gl, rfl, ⟨gr, C, HK.out⟩, HB.out⟩
end Go.Proofs.Ytpcdbnlljdfogaa
