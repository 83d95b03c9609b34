/- The reference's median: numbers sorted by insertion. -/
import Derived.Test.YtigibomcaecbdaaGreatRmdP
import Derived.Test.YtigibomcaecbdaaGreatRks
set_option linter.unusedSimpArgs false
set_option linter.unusedVariables false
namespace Go.Proofs.YtigibomcaecbdaaGreat
open Go.RowKit Go.Sort

theorem new1 (w : World) (x : Int) (t : TypeId) : ∀ j u, ([Value.int .i64 x] : List Value)[j]? = some u → (w.alloc (.cells #[.int .i64 x] t)).cell? ((⟨w.heap.size, 0, none⟩ : Addr).add j) = some u := by
  intro j u hu
  match j, hu with
  | 0, hu => simp only [List.getElem?_cons_zero, Option.some.injEq] at hu; subst hu; unfold World.cell?; simp only [Addr.add_lit]; rw [heap_alloc_new]; rfl
  | j + 1, hu => simp at hu
theorem one1 (x : Int) : ∀ u ∈ ([Value.int .i64 x] : List Value), u.oneCell' = true := by
  intro u hu; simp only [List.mem_cons, List.not_mem_nil, or_false] at hu; subst hu; rfl
theorem nums_get {M : List Li} {i n : Nat} (hn : n < M.length) (hi : i < (M[n]'hn).L.length) : (numsL (lis M) i)[n]? = some ((M[n]'hn).L[i]'hi) := by
  simp [numsL, lis, hn, List.getD, hi]
theorem own_next {w : World} {base K n : Nat} {v : Value} {xs : List Value} (h : w.ownsRow base 3 1 v K xs) (hK : K = n + 1) (q : Nat) : (w.drewN q).ownsRow base 3 1 v (n + 1) xs := by
  subst hK
  exact own_below h (bel_drewN (Below.refl _ _) _)
set_option maxHeartbeats 4000000 in
set_option maxRecDepth 100000 in
theorem rmd_any {b off len cap N i : Nat} {M : List Li} {w : World} (h : SlL w (some ⟨b, off, none⟩) b off len cap M) (hn : ∀ r ∈ M, r.L.length = N) (hi : i < N) (hpos : 0 < len) (h50 : len ≤ 50) (hN : N ≤ 1000000) :
    Calls Tryz.prog 68 #[.slice (some ⟨b, off, none⟩) len cap, .int .i64 (i : Int)] w fun e w' => e = .returned (.int .i64 (medI (lis M) i)) ∧ Below w.heap.size w w' := by
  have hl := h.sl.hl
  have hcap := h.sl.hcap
  have hmax := h.sl.hmax
  unfold maxLen at hmax
  have HS := Lib.hid h
  have HN := Lib.hid hn
  obtain ⟨i0, hi0, hz0, hz1, hz2⟩ := info_parts infoI
  clear h hn
  go_enter Tryz.func68, Tryz.ntmps68
  go_wp2_with fail
  have hown0 : (w.alloc (.cells #[] 3)).ownsRow w.heap.size 3 1 (.slice (some ⟨w.heap.size, 0, none⟩) 0 0) 0 [] := World.ownsRow_made w #[] 0 (Nat.le_refl _) (Nat.zero_le _) (by simp)
  have hB0 : Below w.heap.size w (w.alloc (.cells #[] 3)) := (Below.refl _ _).alloc (Nat.le_refl _) _
  have HO0 := Lib.hid hown0
  have HB0 := Lib.hid hB0
  clear hown0 hB0
  go_loopw [5, 6] (fun s5 s6 wr => ∃ (n : Nat), n ≤ len ∧ s6 = .int .i64 (n : Int) ∧ Hid (wr.ownsRow w.heap.size 3 1 s5 n ((srtI ((numsL (lis M) i).take n)).map (Value.int .i64))) ∧ Hid (Below w.heap.size w wr)) (fun _ s6 _ => (len - (intOf s6)).toNat)
  case atStart => exact ⟨0, Nat.zero_le _, rfl, Lib.hid (by simpa [srtI] using HO0.out), HB0⟩
  case round =>
    clear HO0 HB0
    obtain ⟨n, hnl, rfl, HO, HB⟩ := hrel
    by_cases hlt : n < len
    · have l1 : (n : Int) < (len : Int) := by omega
      have hnM : n < M.length := by omega
      have hrl := HN.out _ (List.getElem_mem hnM)
      have HR := HS.out.keep HB.out
      have x1 := HR.sl.cell n hnM
      have hrow := HR.rows _ (List.getElem_mem hnM)
      have hra := hrow.ha (by rw [hrl]; omega)
      have x2 := hrow.cell i (by rw [hrl]; exact hi)
      have hrc := hrow.hcap
      have hrm := hrow.hmax
      unfold maxLen at hrm
      unfold Li.val at x1
      rw [hrl, hra] at x1
      rw [hrl] at hrc
      have hnum := nums_get hnM (show i < (M[n]'hnM).L.length by rw [hrl]; exact hi)
      generalize (M[n]'hnM).L[i]'(by rw [hrl]; exact hi) = x at *
      generalize (M[n]'hnM).b = rb at *
      generalize (M[n]'hnM).off = ro at *
      generalize (M[n]'hnM).cap = rc at *
      obtain ⟨hnN, hxN⟩ := List.getElem?_eq_some_iff.1 hnum
      have l2 : (i : Int) < (N : Int) := by omega
      have HNXT := Lib.hid (fun k hk hlow hhigh => ins_next (k := k) hnN hxN hk hlow hhigh)
      have hsl : (srtI ((numsL (lis M) i).take n)).length = n := by rw [srtI_len, List.length_take]; omega
      obtain ⟨S, hS⟩ : ∃ S, srtI ((numsL (lis M) i).take n) = S := ⟨_, rfl⟩
      rw [hS] at HO HNXT hsl
      have HSL := Lib.hid hsl
      have HBA := Lib.hid (HB.out.alloc HB.out.size (.cells #[.int .i64 x] 3))
      clear hrl hrow hra HR hnum hnN hxN hS hsl
      go_wp2_with (at_builtin; refine wpList_append_own _ rfl _ _ 31 rfl w.heap.size 3 i0 (.int .i64 0) 1 8 Tryz.underlying31 hi0 hz0 hz1 hz2 rfl (by decide) _ n (S.map (Value.int .i64)) rfl (HO.out.alloc _) ⟨wr.heap.size, 0, none⟩ 1 1 [.int .i64 x] rfl rfl (new1 wr x _) (one1 x) ?n2 ?n3 ?n4 ?_)
      case n2 => unfold maxLen; omega
      case n3 => omega
      case n4 => exact HBA.out.size
      intro v1 w1 ho hg1 _
      have ho' : w1.ownsRow w.heap.size 3 1 v1 (n + 1) ((insAt S x n).map (Value.int .i64)) := by
        have e : insAt S x n = S ++ [x] := by rw [← HSL.out]; exact insAt_end S x
        rw [e, List.map_append]
        exact ho
      have HB1 := Lib.hid (HBA.out.grown hg1 HBA.out.size (fun k hk => ((HO.out.lt k hk).1)))
      clear ho hg1 HBA HO HB x1 x2
      rcases ho'.2 with ⟨_, h0⟩ | ⟨g, cap1, cur, rfl, hgb, _, hc1, hc2, _⟩
      · omega
      have HO1 := Lib.hid ho'
      clear ho'
      unfold maxLen at hc2
      obtain ⟨K, hK⟩ : ∃ K, K = n + 1 := ⟨_, rfl⟩
      rw [← hK] at HO1 hc1 ⊢
      have q0 : (K : Int) - 1 = (n : Int) := by omega
      have q2 : IntKind.i64.wrap (n : Int) = (n : Int) := IntWalk.i64_in _ (by omega)
      have HK := Lib.hid hK
      clear hK
      go_wp2_with fail
      go_loopw [7] (fun s7 wi => ∃ (k : Nat), k ≤ n ∧ s7 = .int .i64 (k : Int) ∧ Hid (wi.ownsRow w.heap.size 3 1 (.slice (some ⟨g, 0, none⟩) K cap1) K ((insAt S x k).map (Value.int .i64))) ∧ Hid (Below w.heap.size w wi) ∧ Hid (∀ j, k ≤ j → j < n → x < S.getD j 0)) (fun s7 _ => (intOf s7).toNat)
      case atStart => exact ⟨n, Nat.le_refl _, rfl, HO1, HB1, Lib.hid (fun j h1 h2 => by omega)⟩
      case round =>
        clear HO1 HB1
        obtain ⟨k, hkn, rfl, HO, HB, HH⟩ := hrel
        by_cases hk0 : k = 0
        · subst hk0
          have HE := Lib.hid (HNXT.out 0 (Nat.zero_le _) (Or.inl rfl) HH.out)
          clear HNXT HH
          rw [HE.out] at HO
          have k1 : decide ((0 : Int) > 0) = false := by decide
          go_wp2_with fail
          go_quiet (fail)
          go_wp2_with fail
          go_roundw
          case rel => exact ⟨n + 1, by omega, by go_num, Lib.hid (own_next HO.out HK.out _), Lib.hid (bel_drewN HB.out _)⟩
          case measure => simp [intOf]; omega
        · obtain ⟨p, hp⟩ : ∃ p, k = p + 1 := ⟨k - 1, by omega⟩
          have k1 : decide ((k : Int) > 0) = true := decide_eq_true (by omega)
          have k1b : (0 : Int) < (k : Int) := by omega
          have k1n : decide (0 < k) = true := decide_eq_true (by omega)
          have q3 : (k : Int) - 1 = (p : Int) := by omega
          have q4 : IntKind.i64.wrap (p : Int) = (p : Int) := IntWalk.i64_in _ (by omega)
          have l4 : (k : Int) < (K : Int) := by have := HK.out; omega
          have l5 : (p : Int) < (K : Int) := by have := HK.out; omega
          have hKL : (insAt S x k).length = K := by rw [insAt_len, HSL.out, HK.out]
          have y1 : wr.cell? ⟨g, k, none⟩ = some (.int .i64 x) := by
            rw [HO.out.cellAt k (by have := HK.out; omega), List.getElem?_map, insAt_at (by rw [HSL.out]; exact hkn)]; rfl
          have y2 : wr.cell? ⟨g, p, none⟩ = some (.int .i64 (S.getD p 0)) := by
            rw [HO.out.cellAt p (by have := HK.out; omega), List.getElem?_map, insAt_low (by rw [HSL.out]; exact hkn) (by omega)]; rfl
          have HLOW := Lib.hid (fun (hle : S.getD p 0 ≤ x) => HNXT.out k hkn (Or.inr (by rw [hp, Nat.add_sub_cancel]; exact hle)) HH.out)
          have HNH := Lib.hid (fun (hgt : x < S.getD p 0) => (fun (j : Nat) (h1 : p ≤ j) (h2 : j < n) => by
            by_cases e : j = p
            · subst e; exact hgt
            · exact HH.out j (by omega) h2 : ∀ j, p ≤ j → j < n → x < S.getD j 0))
          have f1 : wr.frozen? ⟨g, k, none⟩ = false := HO.out.frozenAt k
          have f2 : wr.frozen? ⟨g, p, none⟩ = false := HO.out.frozenAt p
          have HDN := Lib.hid (show ((insAt S x k).set k (S.getD p 0)).set p x = insAt S x p by rw [hp]; exact insAt_down (by rw [HSL.out]; omega))
          generalize S.getD p 0 = s at *
          have HP := Lib.hid hp
          have hpk : p ≠ k := by omega
          clear hp hk0 hKL
          by_cases hxs : x < s
          · have HE := Lib.hid (HNH.out hxs)
            have k9 : decide (x < s) = true := decide_eq_true hxs
            clear HNXT HH HLOW HNH
            go_wp2_with fail
            go_quiet (fail)
            have hown2 := ((((own_below HO.out (bel_drewN (Below.refl _ _) (nq + 1))).stored k (.int .i64 s)).1).stored p (.int .i64 x)).1
            rw [← List.map_set, ← List.map_set, HDN.out] at hown2
            have hbel2 := ((bel_drewN HB.out (nq + 1)).setCell (p := ⟨g, k, none⟩) hgb (.int .i64 s)).setCell (p := ⟨g, p, none⟩) hgb (.int .i64 x)
            have HOW2 := Lib.hid hown2
            have HBL2 := Lib.hid hbel2
            clear hown2 hbel2 HO HB
            go_wp2_with fail
            go_region
            all_goals
              go_wp2_with fail
              go_roundw
              case rel => exact ⟨p, by have := HP.out; omega, by go_num, HOW2, HBL2, HE⟩
              case measure => have := HP.out; simp [intOf]; omega
          · have HE := Lib.hid (HLOW.out (by omega))
            have k9 : decide (x < s) = false := decide_eq_false hxs
            clear HNXT HH HLOW HNH
            rw [HE.out] at HO
            go_wp2_with fail
            go_quiet (fail)
            go_wp2_with fail
            go_roundw
            case rel => exact ⟨n + 1, by omega, by go_num, Lib.hid (own_next HO.out HK.out _), Lib.hid (bel_drewN HB.out _)⟩
            case measure => simp [intOf]; omega
    · obtain rfl : n = len := by omega
      have l1 : ¬ (n : Int) < (n : Int) := by omega
      have hC : (lis M).length = n := by rw [lis_len]; exact hl
      have htk : (numsL (lis M) i).take n = numsL (lis M) i := List.take_of_length_le (by simp [numsL, hC])
      rw [htk] at HO
      have hsl : (srtI (numsL (lis M) i)).length = n := by simp [srtI, numsL, hC]
      rcases HO.out.2 with ⟨_, h0⟩ | ⟨g, cap1, cur, rfl, hgb, _, hc1, hc2, _⟩
      · omega
      unfold maxLen at hc2
      obtain ⟨q, hq⟩ : ∃ q, (n - 1) / 2 = q := ⟨_, rfl⟩
      have hqk : q < n := by omega
      have y1 : wr.cell? ⟨g, q, none⟩ = some (.int .i64 (medI (lis M) i)) := by
        rw [HO.out.cellAt q (by omega), List.getElem?_map, List.getElem?_eq_getElem (by omega)]
        unfold medI
        rw [hC, hq]
        simp [List.getD, hsl, hqk]
      have q1 : ((n : Int) - 1) / 2 = (q : Int) := by omega
      have q3 : (q : Int) < (n : Int) := by omega
      have q5 : IntKind.i64.wrap ((n : Int) - 1) = (n : Int) - 1 := IntWalk.i64_in _ (by omega)
      have q6 : ((n : Int) - 1).tdiv 2 = (q : Int) := by rw [Int.tdiv_eq_ediv_of_nonneg (by omega)]; exact q1
      obtain ⟨z, hz⟩ : ∃ z, medI (lis M) i = z := ⟨_, rfl⟩
      rw [hz] at y1
      have HV := Lib.hid hz
      clear hz
      clear hq hC htk hsl HO
      go_wp2
      go_ret
      exact ⟨by rw [HV.out]; rfl, HB.out⟩
end Go.Proofs.YtigibomcaecbdaaGreat
