/- preorder.Check: is a list of rows a matrix of criteria. -/
import Derived.Test.YtogdkgcgckdehaaGreatOwn
import Derived.Test.YtogdkgcgckdehaaGreatPlq
import Derived.Test.YtogdkgcgckdehaaGreatFrc
import Derived.Test.YtogdkgcgckdehaaGreatShelfB
set_option linter.unusedSimpArgs false
set_option linter.unusedVariables false
namespace Go.Proofs.YtogdkgcgckdehaaGreat
open Go.RowKit Go.Sort Go.Shelf Go.Lib

/-- row by row: as long as the first one, and fractions -/
def rowOk (n : Nat) (r : List (Int × Int)) : Bool := decide (r.length = n) && !(r.any fun x => !vldI x.1 x.2)
def headN (C : List (List (Int × Int))) : Nat := (C.headD []).length
def tooL (C : List (List (Int × Int))) : Bool := decide (200 < C.length) || C.any fun r => decide (20 < r.length)
def chkL (C : List (List (Int × Int))) : Int := if tooL C = true then 6 else if C.all (rowOk (headN C)) = true then 0 else 1
theorem chk_three (C : List (List (Int × Int))) : chkL C = 0 ∨ chkL C = 1 ∨ chkL C = 6 := by
  unfold chkL
  split
  · simp
  · split <;> simp
theorem chk_ok {C : List (List (Int × Int))} (h : chkL C = 0) : C.length ≤ 200 ∧ (∀ r ∈ C, r.length ≤ 20) ∧ (∀ r ∈ C, r.length = headN C) ∧ ∀ r ∈ C, ∀ x ∈ r, vldI x.1 x.2 = true := by
  unfold chkL at h
  split at h
  · omega
  · rename_i h1
    split at h
    · rename_i h2
      unfold tooL at h1
      simp only [Bool.or_eq_true, not_or, decide_eq_true_eq, List.any_eq_true, not_exists, not_and] at h1
      rw [List.all_eq_true] at h2
      refine ⟨by omega, fun r hr => by have := h1.2 r hr; omega, fun r hr => ?_, fun r hr x hx => ?_⟩
      · have := h2 r hr
        unfold rowOk at this
        simp only [Bool.and_eq_true, decide_eq_true_eq] at this
        exact this.1
      · have := h2 r hr
        unfold rowOk at this
        simp only [Bool.and_eq_true, decide_eq_true_eq, Bool.not_eq_true', List.any_eq_false] at this
        have h3 := this.2 x hx
        simpa using h3
    · omega
theorem agg2 (n d : Int) : (Value.agg #[.int .i64 n, .int .i64 d]) = .agg #[.int .i64 n, .int .i64 d] := rfl
theorem chk1_any (a : Option Addr) (n c : Nat) (w : World) : Calls Tryz.prog 10 #[.slice a n c] w fun e w' => e = .returned (.bool (decide ((20 : Int) < (n : Int)))) ∧ w = w' := by
  go_enter Tryz.func10, Tryz.ntmps10
  go_wp2
  go_ret
  exact ⟨rfl, rfl⟩
set_option maxHeartbeats 1000000 in
theorem chk2_any (n d : Int) (h : Wf64 (n, d)) (w : World) : Calls Tryz.prog 12 #[.agg #[.int .i64 n, .int .i64 d]] w fun e w' => e = .returned (.bool (!vldI n d)) ∧ Grw w w' := by
  obtain ⟨h1, h2, h3, h4⟩ := h
  have HV := Lib.hid (fun W => valid_any n d h1 h2 h3 h4 W)
  clear h1 h2 h3 h4
  generalize vldI n d = v at *
  go_enter Tryz.func12, Tryz.ntmps12
  go_wp2_with fail
  refine (HV.out _).mono ?_
  rintro e w1 ⟨rfl, hb⟩
  have HB := Lib.hid (((Grw.refl w).alloc _).trans hb)
  clear hb
  go_wp2
  go_ret
  exact ⟨rfl, HB.out⟩
/-- does a list of rows have one that is too long -/
theorem contR_any {a : Option Addr} {b off len cap : Nat} {M : List Rw} {w : World} (h : SlG Rw.val w a b off len cap M) :
    Calls Tryz.prog 11 #[.slice a len cap, .func (.func 10) #[] #[]] w fun e w' => e = .returned (.bool ((crit M).any fun r => decide (20 < r.length))) ∧ ∃ q, w' = w.drewN q := by
  have hm := h.hmax
  have hc := h.hcap
  unfold maxLen at hm
  have e0 : ((crit M).any fun r => decide (20 < r.length)) = M.any fun r => decide ((20 : Int) < (r.L.length : Int)) := by
    unfold crit
    rw [List.any_map]
    congr 1
    funext r
    simp only [Function.comp]
    rw [decide_eq_decide]
    omega
  rw [e0]
  by_cases h0 : len = 0
  · subst h0
    have : M = [] := List.eq_nil_of_length_eq_zero h.hl
    subst this
    refine (AnyE.slices_ContainsFunc_empty Tryz.laysContR a cap (.func (.func 10) #[] #[]) w).mono ?_
    rintro e w1 ⟨rfl, rfl⟩
    exact ⟨rfl, 0, rfl⟩
  · have ha := h.ha (by omega)
    subst ha
    refine (AnyE.slices_ContainsFunc Tryz.laysContR Rw.val (fun r => decide ((20 : Int) < (r.L.length : Int))) 10 #[] (enters_of Tryz.func10 (by kernel_rfl) rfl) b off len cap M w ?_ (by rw [h.hl]; omega) (by omega) (fun j hj => ?_)).mono ?_
    · intro W r _
      refine (chk1_any r.a r.L.length r.cap W).mono ?_
      rintro e w1 ⟨rfl, rfl⟩
      exact ⟨rfl, 0, rfl⟩
    · rw [h.cell j hj]; simp [hj]
    · rintro e w1 ⟨rfl, q, rfl⟩
      exact ⟨by rw [List.take_of_length_le (by rw [h.hl]; omega)], q, rfl⟩
set_option maxHeartbeats 1000000 in
theorem contF_none (a : Option Addr) (c : Nat) (fv : Value) (w : World) :
    Calls Tryz.prog 14 #[.slice a 0 c, fv] w fun e w' => e = .returned (.bool false) ∧ w = w' := by
  have hi : Calls Tryz.prog 32 #[.slice a 0 c, fv] w fun e w' => e = .returned (.int .i64 (-1)) ∧ w = w' := by
    go_enter Tryz.func32, Tryz.ntmps32
    go_wp2
    refine wp_loop_rounds 1 ?_
    rw [rounds_succ]
    go_wp2
    go_ret
    exact ⟨rfl, rfl⟩
  go_enter Tryz.func14, Tryz.ntmps14
  go_wp2_with fail
  refine hi.mono ?_
  rintro e w1 ⟨rfl, rfl⟩
  go_wp2
  go_ret
  exact ⟨rfl, rfl⟩
abbrev FrIn : Type := { x : Int × Int // Wf64 x }
instance : Inhabited FrIn := ⟨⟨(0, 0), by unfold Wf64; simp⟩⟩
def FrIn.enc (x : FrIn) : List Value := [.int .i64 x.1.1, .int .i64 x.1.2]
theorem contF_any {a : Option Addr} {b off len cap : Nat} {L : List (Int × Int)} {w : World} (h : SlF w a b off len cap L) :
    Calls Tryz.prog 14 #[.slice a len cap, .func (.func 12) #[] #[]] w fun e w' => e = .returned (.bool (L.any fun x => !vldI x.1 x.2)) ∧ Below w.heap.size w w' := by
  have hm := h.hmax
  have hc := h.hcap
  unfold maxLen at hm
  by_cases h0 : len = 0
  · subst h0
    have : L = [] := List.eq_nil_of_length_eq_zero h.hl
    subst this
    refine (contF_none a cap _ w).mono ?_
    rintro e w1 ⟨rfl, rfl⟩
    exact ⟨rfl, Below.refl _ _⟩
  · have ha := h.ha (by omega)
    subst ha
    obtain ⟨zs, hz⟩ : ∃ zs : List FrIn, zs.map Subtype.val = L := ⟨L.attach.map fun x => ⟨x.1, h.wf x.1 x.2⟩, by
      rw [List.map_map]
      exact List.attach_map_subtype_val L⟩
    have hzl : zs.length = len := by rw [← h.hl, ← hz, List.length_map]
    refine (AnyQ.slices_ContainsFunc Tryz.laysContF 2 (fun _ => by kernel_rfl) (fun _ => by kernel_rfl) FrIn.enc (fun _ => rfl) (fun x => !vldI x.1.1 x.1.2) 12 #[] (enters_of Tryz.func12 (by kernel_rfl) rfl) b off len cap zs w ?_ (by rw [hzl]; exact Nat.le_refl _) (by omega) (h.hb (by omega)) (fun j hj i v hv => ?_)).mono ?_
    · intro W x hW
      refine (chk2_any x.1.1 x.1.2 x.2 W).mono ?_
      rintro e w1 ⟨rfl, hg⟩
      exact ⟨rfl, hW.trans (hg.below.mono hW.size)⟩
    · have hjL : j < L.length := by rw [h.hl, ← hzl]; exact hj
      have hx : (zs[j]!).1 = L[j] := by
        have e1 : zs[j]! = zs[j] := by simp [hj]
        rw [e1]
        have : (zs.map Subtype.val)[j]'(by rw [List.length_map]; exact hj) = L[j] := by simp only [hz]
        rwa [List.getElem_map] at this
      obtain ⟨c1, c2⟩ := h.cell j hjL
      unfold FrIn.enc at hv
      rw [hx] at hv
      match i, hv with
      | 0, hv => simp only [List.getElem?_cons_zero, Option.some.injEq] at hv; rw [← hv]; exact c1
      | 1, hv => simp only [List.getElem?_cons_succ, List.getElem?_cons_zero, Option.some.injEq] at hv; rw [← hv]; exact c2
      | i + 2, hv => simp at hv
    · rintro e w1 ⟨rfl, hB⟩
      refine ⟨?_, hB⟩
      rw [List.take_of_length_le (by rw [hzl]; exact Nat.le_refl _)]
      have : (zs.any fun x => !vldI x.1.1 x.1.2) = (zs.map Subtype.val).any fun x => !vldI x.1 x.2 := by rw [List.any_map]; rfl
      rw [this, hz]
set_option maxHeartbeats 2000000 in
set_option maxRecDepth 100000 in
theorem check_any {a : Option Addr} {b off len cap : Nat} {M : List Rw} {w : World} (h : SlR w a b off len cap M) :
    Calls Tryz.prog 5 #[.slice a len cap] w fun e w' => e = .returned (.int .i64 (chkL (crit M))) ∧ Below w.heap.size w w' := by
  have hcl : (crit M).length = len := by unfold crit; rw [List.length_map, h.sl.hl]
  have hcap := h.sl.hcap
  have hmax := h.sl.hmax
  unfold maxLen at hmax
  have HS := Lib.hid h
  have HC := Lib.hid (contR_any h.sl)
  have HL := Lib.hid hcl
  clear h hcl
  by_cases h2 : 200 < len
  · have k1 : decide ((len : Int) > 200) = true := decide_eq_true (by omega)
    have k2 : (len : Int) > 200 := by omega
    have HV := Lib.hid (show chkL (crit M) = 6 by
      have e : tooL (crit M) = true := by unfold tooL; rw [HL.out, decide_eq_true h2, Bool.true_or]
      unfold chkL; rw [if_pos e])
    go_enter Tryz.func5, Tryz.ntmps5
    go_wp2_with fail
    go_ret
    exact ⟨by rw [HV.out]; rfl, Below.refl _ _⟩
  · have k1 : decide ((len : Int) > 200) = false := decide_eq_false (by omega)
    have k2 : ¬ (len : Int) > 200 := by omega
    obtain ⟨v, hv⟩ : ∃ v, ((crit M).any fun r => decide (20 < r.length)) = v := ⟨_, rfl⟩
    rw [hv] at HC
    have ht : tooL (crit M) = v := by unfold tooL; rw [HL.out, decide_eq_false h2, Bool.false_or, hv]
    have HT := Lib.hid ht
    clear hv ht
    cases v with
    | true =>
      have HV := Lib.hid (show chkL (crit M) = 6 by unfold chkL; rw [if_pos HT.out])
      go_enter Tryz.func5, Tryz.ntmps5
      go_wp2_with fail
      refine HC.out.mono ?_
      rintro e w1 ⟨rfl, q, rfl⟩
      have HB := Lib.hid (bel_drewN (Below.refl w.heap.size w) q)
      generalize w.drewN q = w1 at *
      go_wp2_with fail
      go_ret
      exact ⟨by rw [HV.out]; rfl, HB.out⟩
    | false =>
      go_enter Tryz.func5, Tryz.ntmps5
      go_wp2_with fail
      refine HC.out.mono ?_
      rintro e w1 ⟨rfl, q, rfl⟩
      have HB := Lib.hid (bel_drewN (Below.refl w.heap.size w) q)
      generalize w.drewN q = w1 at *
      go_wp2_with fail
      go_loopw [17] (fun s17 wr => ∃ (k : Nat), k ≤ len ∧ s17 = .int .i64 (k : Int) ∧ Hid (Below w.heap.size w wr) ∧ Hid (∀ (j : Nat) (hj : j < M.length), j < k → rowOk (headN (crit M)) (M[j]'hj).L = true)) (fun s17 _ => (len - (intOf s17)).toNat)
      case atStart => exact ⟨0, Nat.zero_le _, rfl, HB, Lib.hid (fun j _ h => absurd h (Nat.not_lt_zero j))⟩
      case round =>
        clear HB HC
        obtain ⟨k, hk, rfl, HB, HZ⟩ := hrel
        by_cases hlt : k < len
        · have l1 : (k : Int) < (len : Int) := by omega
          have l0 : 0 < len := by omega
          have l2 : (0 : Int) < (len : Int) := by omega
          obtain rfl := HS.out.sl.ha l0
          have hkM : k < M.length := by rw [HS.out.sl.hl]; exact hlt
          have h0M : 0 < M.length := by omega
          have HR := Lib.hid (HS.out.keep HB.out)
          have x1 := HR.out.sl.cell k hkM
          have x0 : wr.cell? ⟨b, off, none⟩ = some (M[0]'h0M).val := HR.out.sl.cell 0 h0M
          have hrk := HR.out.rows _ (List.getElem_mem hkM)
          have hn0 : headN (crit M) = (M[0]'h0M).L.length := by
            unfold headN crit
            cases M with
            | nil => simp at h0M
            | cons r t => rfl
          have HN := Lib.hid hn0
          have HBad := Lib.hid (fun (hb : rowOk (headN (crit M)) (M[k]'hkM).L = false) => (show chkL (crit M) = 1 by
            unfold chkL
            rw [if_neg (by rw [HT.out]; simp), if_neg]
            rw [List.all_eq_true]
            intro hall
            have := hall (M[k]'hkM).L (by unfold crit; exact List.mem_map.2 ⟨_, List.getElem_mem hkM, rfl⟩)
            rw [hb] at this; cases this))
          have HNx := Lib.hid (fun (hg : rowOk (M[0]'h0M).L.length (M[k]'hkM).L = true) => (fun (j : Nat) (hj : j < M.length) (hjk : j < k + 1) => by
            by_cases e : j = k
            · subst e; rw [hn0]; exact hg
            · exact HZ.out j hj (by omega) : ∀ (j : Nat) (hj : j < M.length), j < k + 1 → rowOk (headN (crit M)) (M[j]'hj).L = true))
          have hcf := contF_any hrk.1
          unfold Rw.val at x1 x0
          have hm1 := hrk.1.hmax
          have hc1 := hrk.1.hcap
          have hro : rowOk (M[0]'h0M).L.length (M[k]'hkM).L = (decide ((M[k]'hkM).L.length = (M[0]'h0M).L.length) && !((M[k]'hkM).L.any fun x => !vldI x.1 x.2)) := rfl
          rw [hn0, hro] at HBad
          rw [hro] at HNx
          obtain ⟨v, hv⟩ : ∃ v, ((M[k]'hkM).L.any fun x => !vldI x.1 x.2) = v := ⟨_, rfl⟩
          rw [hv] at HBad HNx hcf
          have HHN := Lib.hid hn0
          have HCF := Lib.hid hcf
          have HRR := Lib.hid HR
          obtain ⟨n0, h0⟩ : ∃ n, (M[0]'h0M).L.length = n := ⟨_, rfl⟩
          obtain ⟨n1, h1⟩ : ∃ n, (M[k]'hkM).L.length = n := ⟨_, rfl⟩
          obtain ⟨ra, hra⟩ : ∃ n, (M[k]'hkM).a = n := ⟨_, rfl⟩
          obtain ⟨rc, hrc⟩ : ∃ n, (M[k]'hkM).cap = n := ⟨_, rfl⟩
          obtain ⟨qa, hqa⟩ : ∃ n, (M[0]'h0M).a = n := ⟨_, rfl⟩
          obtain ⟨qc, hqc⟩ : ∃ n, (M[0]'h0M).cap = n := ⟨_, rfl⟩
          rw [h1, hra, hrc] at x1
          rw [h0, hqa, hqc] at x0
          rw [h0, h1] at HBad HNx
          rw [h1, hra, hrc] at HCF
          clear hrk hn0 HZ hcf hro hv h0 h1 hra hrc hqa hqc hm1 hc1 HHN HRR HR HN HS
          by_cases hn : n1 = n0
          · subst hn
            have t1 : ((n1 : Int) != (n1 : Int)) = false := by simp
            cases v with
            | true =>
              have HE := Lib.hid (HBad.out (by simp))
              clear HBad HNx
              go_wp2_with fail
              refine HCF.out.mono ?_
              rintro e w2 ⟨rfl, hb⟩
              have HB2 := Lib.hid (HB.out.trans (hb.mono HB.out.size))
              clear hb HB HCF
              go_wp2_with fail
              go_ret
              exact ⟨by rw [HE.out]; rfl, HB2.out⟩
            | false =>
              have HE := Lib.hid (HNx.out (by simp))
              clear HBad HNx
              go_wp2_with fail
              refine HCF.out.mono ?_
              rintro e w2 ⟨rfl, hb⟩
              have HB2 := Lib.hid (HB.out.trans (hb.mono HB.out.size))
              clear hb HB HCF
              go_wp2_with fail
              go_roundw
              case rel => exact ⟨k + 1, by omega, by go_num, HB2, HE⟩
              case measure => simp [intOf]; omega
          · have t1 : ((n1 : Int) != (n0 : Int)) = true := by
              rw [bne_iff_ne]; omega
            have HE := Lib.hid (HBad.out (by rw [decide_eq_false hn]; rfl))
            clear HBad HNx HCF hn
            go_wp2_with fail
            go_ret
            exact ⟨by rw [HE.out]; rfl, HB.out⟩
        · obtain rfl : k = len := by omega
          have l1 : ¬ (k : Int) < (k : Int) := by omega
          have HV := Lib.hid (show chkL (crit M) = 0 by
            unfold chkL
            rw [if_neg (by rw [HT.out]; simp), if_pos]
            rw [List.all_eq_true]
            intro r hr
            unfold crit at hr
            obtain ⟨x, hx, rfl⟩ := List.mem_map.1 hr
            obtain ⟨j, hj, rfl⟩ := List.getElem_of_mem hx
            exact HZ.out j hj (by rw [← HS.out.sl.hl]; exact hj))
          clear HZ
          go_wp2_with fail
          go_ret
          exact ⟨by rw [HV.out]; rfl, HB.out⟩
end Go.Proofs.YtogdkgcgckdehaaGreat
