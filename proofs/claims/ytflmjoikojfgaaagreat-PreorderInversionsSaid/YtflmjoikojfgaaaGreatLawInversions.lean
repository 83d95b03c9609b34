/- Inversions counts the pairs in opposite order and those that tie in one ranking only; it is symmetric, and satisfies the triangle inequality for rankings without ties: the law. -/
import Derived.Test.YtflmjoikojfgaaaGreatRInv
import Derived.Test.YtflmjoikojfgaaaGreatRmd
import Derived.Test.YtflmjoikojfgaaaGreatPerm
import Derived.Test.YtflmjoikojfgaaaGreatSho
import Derived.Test.YtflmjoikojfgaaaGreatAwk
set_option linter.unusedSimpArgs false
set_option linter.unusedVariables false
namespace Go.Proofs.YtflmjoikojfgaaaGreat
open Go.RowKit Go.Sort


theorem zip_turn : ∀ (A B : List Int), B.zip A = (A.zip B).map fun p => (p.2, p.1)
  | [], B => by cases B <;> rfl
  | x :: A, [] => rfl
  | x :: A, y :: B => by
    have := zip_turn A B
    simp only [List.zip_cons_cons, List.map_cons, this]
theorem opp_turn (A B : List Int) : pcN oppP (B.zip A) = pcN oppP (A.zip B) := by
  rw [zip_turn A B, pc_map]
  refine pc_congr fun x _ y _ => ?_
  unfold oppP
  rw [Bool.or_comm]
  simp only [Bool.and_comm]
theorem half_turn (A B : List Int) : pcN halfP (B.zip A) = pcN halfP (A.zip B) := by
  rw [zip_turn A B, pc_map]
  refine pc_congr fun x _ y _ => ?_
  unfold halfP
  simp only
  cases decide (x.1 = y.1) <;> cases decide (x.2 = y.2) <;> rfl
theorem rnks_two {A B : List Int} : rnksB [A, B] = true ↔ A.length = B.length ∧ rnkB A = true ∧ rnkB B = true := by
  unfold rnksB lisOk headI
  simp only [List.headD_cons, List.all_cons, List.all_nil, Bool.and_true, Bool.and_eq_true, decide_eq_true_eq, true_and]
  constructor
  · intro h; exact ⟨(of_decide_eq_true h.2.1).symm, h.1, h.2.2⟩
  · rintro ⟨h1, h2, h3⟩; exact ⟨h2, decide_eq_true h1.symm, h3⟩
theorem crk_two2 (A B : List Int) : crkL [A, B] = if rnksB [A, B] = true then 0 else 1 := by
  unfold crkL
  rw [if_neg (by simp)]
theorem zip_range {A B : List Int} {n : Nat} (hA : A.length = n) (hB : B.length = n) : A.zip B = (List.range n).map fun i => (A.getD i 0, B.getD i 0) := by
  apply List.ext_getElem
  · rw [List.length_zip, List.length_map, List.length_range]; omega
  · intro j h1 h2
    rw [List.length_zip] at h1
    simp [List.getD, show j < A.length by omega, show j < B.length by omega]
theorem nodup_ne {L : List Int} {i k n : Nat} (h : L.Nodup) (hl : L.length = n) (hi : i < n) (hk : k < n) (hne : i ≠ k) : L.getD i 0 ≠ L.getD k 0 := by
  have h1 := List.pairwise_iff_getElem.1 h
  simp only [List.getD, List.getElem?_eq_getElem (show i < L.length by omega), List.getElem?_eq_getElem (show k < L.length by omega), Option.getD_some]
  rcases Nat.lt_or_gt_of_ne hne with h2 | h2
  · exact h1 i k _ _ h2
  · exact fun e => h1 k i _ _ h2 e.symm
theorem opp_triangle {A B C : List Int} {n : Nat} (hA : A.length = n) (hB : B.length = n) (hC : C.length = n) (nB : B.Nodup) : pcN oppP (A.zip C) ≤ pcN oppP (A.zip B) + pcN oppP (B.zip C) := by
  rw [zip_range hA hC, zip_range hA hB, zip_range hB hC, pc_map, pc_map, pc_map]
  refine pc_le fun i hi k hk h => ?_
  rw [List.mem_range] at hi hk
  unfold oppP at h ⊢
  simp only [Bool.or_eq_true, Bool.and_eq_true, decide_eq_true_eq] at h ⊢
  have hne : i ≠ k := by
    rintro rfl
    rcases h with ⟨h, _⟩ | ⟨h, _⟩ <;> omega
  have hb := nodup_ne nB hB hi hk hne
  omega

def lessL (L : List Int) : List Int := L.map fun x => IntKind.i64.wrap (x - 1)
theorem lessL_len (L : List Int) : (lessL L).length = L.length := by simp [lessL]
/-- where the numbers less one are different, the numbers are -/
theorem less_nodup {L : List Int} {n : Nat} (h : permB (lessL L) n = true) : L.Nodup := by
  have h1 := (of_decide_eq_true h).1
  unfold lessL at h1
  exact (List.pairwise_map.1 h1).imp fun hne e => hne (by rw [e])
def LessPost (w : World) (n : Nat) (P : List Int) (e : Ending) (w' : World) : Prop :=
  ∃ a b cap, e = .returned (.slice a n cap) ∧ SlI w' a b 0 n cap P ∧ Below w.heap.size w w'
set_option maxHeartbeats 2000000 in
set_option maxRecDepth 100000 in
theorem less_any {a : Option Addr} {b off len cap : Nat} {L : List Int} {w : World} (h : SlI w a b off len cap L) (h12 : len ≤ 1000) :
    Calls Tryz.prog 34 #[.slice a len cap] w (LessPost w len (lessL L)) := by
  have hl := h.hl
  have hcap := h.hcap
  have hmax := h.hmax
  unfold maxLen at hmax
  have HS := Lib.hid h
  obtain ⟨i0, hi0, hz0, hz1, hz2⟩ := info_parts infoI
  clear h
  go_enter Tryz.func34, Tryz.ntmps34
  go_wp2_with fail
  have hown0 : (w.alloc (.cells #[] 3)).ownsRow w.heap.size 3 1 (.slice (some ⟨w.heap.size, 0, none⟩) 0 0) 0 [] := World.ownsRow_made w #[] 0 (Nat.le_refl _) (Nat.zero_le _) (by simp)
  have HO0 := Lib.hid hown0
  have HB0 := Lib.hid (show Below w.heap.size w (w.alloc (.cells #[] 3)) from (Below.refl _ _).alloc (Nat.le_refl _) _)
  clear hown0
  go_loopw [3, 4] (fun s3 s4 wr => ∃ (i : Nat) (v : Value), i ≤ len ∧ s3 = v ∧ s4 = .int .i64 (i : Int) ∧ Hid (wr.ownsRow w.heap.size 3 1 v i (((lessL L).take i).map (Value.int .i64))) ∧ Hid (Below w.heap.size w wr)) (fun _ s4 _ => (len - (intOf s4)).toNat)
  case atStart => exact ⟨0, _, Nat.zero_le _, rfl, rfl, Lib.hid (by simpa using HO0.out), HB0⟩
  case round =>
    clear HO0 HB0
    obtain ⟨i, v, hi, hv3, rfl, HO, HB⟩ := hrel
    replace hv3 := hv3.symm
    subst hv3
    by_cases hlt : i < len
    · have l1 : (i : Int) < (len : Int) := by omega
      obtain rfl := HS.out.ha (by omega)
      have hiL : i < L.length := by omega
      have x1 : wr.cell? ⟨b, off + i, none⟩ = some (.int .i64 (L[i]'hiL)) := (HS.out.keep HB.out).cell i hiL
      have HZ := Lib.hid (show (lessL L).take (i + 1) = (lessL L).take i ++ [IntKind.i64.wrap (L[i]'hiL - 1)] by
        rw [List.take_succ_eq_append_getElem (by rw [lessL_len]; exact hiL)]
        simp [lessL])
      generalize L[i]'hiL = x at *
      obtain ⟨z, hz⟩ : ∃ z, IntKind.i64.wrap (x - 1) = z := ⟨_, rfl⟩
      have hz' : wrap64 (x - 1) = z := by rw [← IntWalk.i64_left]; exact hz
      rw [hz] at HZ
      have HBA := Lib.hid (HB.out.alloc HB.out.size (.cells #[.int .i64 z] 3))
      go_wp2_with (at_builtin; refine wpList_append_own _ rfl _ _ 31 rfl w.heap.size 3 i0 (.int .i64 0) 1 8 Tryz.underlying31 hi0 hz0 hz1 hz2 rfl (by decide) _ i (((lessL L).take i).map (Value.int .i64)) rfl (HO.out.alloc _) ⟨wr.heap.size, 0, none⟩ 1 1 [.int .i64 z] rfl rfl (new1 wr z _) (one1 z) ?n2 ?n3 ?n4 ?_)
      case n2 => unfold maxLen; omega
      case n3 => omega
      case n4 => have := HBA.out.size; simpa using this
      intro v1 w1 ho hg1 _
      have HO1 := Lib.hid (show w1.ownsRow w.heap.size 3 1 v1 (i + 1) (((lessL L).take (i + 1)).map (Value.int .i64)) by
        rw [HZ.out, List.map_append]
        first | exact ho | (rw [List.map_take]; exact ho))
      have HB1 := Lib.hid (HBA.out.grown hg1 HBA.out.size (fun k hk => ((HO.out.lt k hk).1)))
      clear ho hg1 HBA HO HB
      go_wp2_with fail
      go_roundw
      case rel => exact ⟨i + 1, _, by omega, rfl, by go_num, HO1, HB1⟩
      case measure => simp [intOf]; omega
    · obtain rfl : i = len := by omega
      have l1 : ¬ (i : Int) < (i : Int) := by omega
      have e1 : (lessL L).take i = lessL L := List.take_of_length_le (by rw [lessL_len]; omega)
      rw [e1] at HO
      obtain ⟨ra, rb, rc, hv, hs, _, _⟩ := own_sl (enc := Value.int .i64) (show (lessL L).length = i by rw [lessL_len]; exact hl) HO.out
      subst hv
      have HS := Lib.hid hs
      clear hs HO e1
      go_wp2
      go_ret
      exact ⟨ra, rb, rc, rfl, HS.out, HB.out⟩
theorem InI.wf {L : List Int} (h : InI L) : ∀ x ∈ L, (Lit.int .i64 x).wf = true := fun x hx => WalkArith.wf_i64 (by have := h x hx; omega)
theorem rk2_any {a a' : Option Addr} {b b' off off' len len' cap cap' : Nat} {A B : List Int} {w : World} (hA : SlI w a b off len cap A) (hB : SlI w a' b' off' len' cap' B) (hz : len ≤ 1000000) (hz' : len' ≤ 1000000) (IA : InI A) (IB : InI B) :
    Calls Tryz.prog 32 #[.slice (some ⟨w.heap.size, 0, none⟩) 2 2] (w.alloc (.cells #[.slice a len cap, .slice a' len' cap'] 31)) fun e w' => e = .returned (.bool (rnksB [A, B])) ∧ Below w.heap.size w w' := by
  have h := rks_any (sl2_any hA hB) (fun r hr => by
    simp only [List.mem_cons, List.not_mem_nil, or_false] at hr
    rcases hr with rfl | rfl
    · exact IA
    · exact IB) (fun r hr => by
    simp only [List.mem_cons, List.not_mem_nil, or_false] at hr
    rcases hr with rfl | rfl
    · simp only; rw [hA.hl]; exact hz
    · simp only; rw [hB.hl]; exact hz')
  rw [lis2] at h
  refine h.mono ?_
  rintro e w1 ⟨he, q, rfl⟩
  exact ⟨he, bel_drewN (new_bel w _) q⟩
theorem sh3_any {a1 a2 a3 : Option Addr} {b1 b2 b3 o1 o2 o3 l1 l2 l3 c1 c2 c3 : Nat} {A B C : List Int} {w : World} (hA : SlI w a1 b1 o1 l1 c1 A) (hB : SlI w a2 b2 o2 l2 c2 B) (hC : SlI w a3 b3 o3 l3 c3 C) :
    Calls Tryz.prog 30 #[.slice (some ⟨w.heap.size, 0, none⟩) 3 3] (w.alloc (.cells #[.slice a1 l1 c1, .slice a2 l2 c2, .slice a3 l3 c3] 31)) fun e w' => e = .returned (.bool (shoB [A, B, C])) ∧ Below w.heap.size w w' := by
  have hBe : Below w.heap.size w (w.alloc (.cells #[.slice a1 l1 c1, .slice a2 l2 c2, .slice a3 l3 c3] 31)) := new_bel w _
  have e1 := hA.hl
  have e2 := hB.hl
  have e3 := hC.hl
  have hs : SlL (w.alloc (.cells #[.slice a1 l1 c1, .slice a2 l2 c2, .slice a3 l3 c3] 31)) (some ⟨w.heap.size, 0, none⟩) w.heap.size 0 3 3 [⟨a1, b1, o1, c1, A⟩, ⟨a2, b2, o2, c2, B⟩, ⟨a3, b3, o3, c3, C⟩] := by
    refine ⟨new_sl (enc := Li.val) w _ 31 3 rfl (by decide) _ (by simp [Li.val, e1, e2, e3]), fun r hr => ?_⟩
    simp only [List.mem_cons, List.not_mem_nil, or_false] at hr
    rcases hr with rfl | rfl | rfl
    · unfold Li.ok; simp only; rw [e1]; exact hA.keep hBe
    · unfold Li.ok; simp only; rw [e2]; exact hB.keep hBe
    · unfold Li.ok; simp only; rw [e3]; exact hC.keep hBe
  refine (short_any hs).mono ?_
  rintro e w1 ⟨he, rfl⟩
  exact ⟨he, hBe⟩
set_option maxHeartbeats 4000000 in
set_option maxRecDepth 100000 in
theorem inversions_law {a1 a2 a3 : Option Addr} {b1 b2 b3 o1 o2 o3 l1 l2 l3 c1 c2 c3 : Nat} {A B C : List Int} {w : World} (hA : SlI w a1 b1 o1 l1 c1 A) (IA : InI A) (hB : SlI w a2 b2 o2 l2 c2 B) (IB : InI B) (hC : SlI w a3 b3 o3 l3 c3 C) (IC : InI C) :
    Calls Tryz.prog 10 #[.slice a1 l1 c1, .slice a2 l2 c2, .slice a3 l3 c3] w fun e w' => e = .returned (.bool true) ∧ Below w.heap.size w w' := by
  have HA := Lib.hid (fun w => awake_any w)
  have hsh := sh3_any hA hB hC
  have e1 := hA.hl
  have e2 := hB.hl
  have e3 := hC.hl
  have p1 := hA.hcap
  have p2 := hB.hcap
  have p3 := hC.hcap
  have m1 := hA.hmax
  have m2 := hB.hmax
  have m3 := hC.hmax
  unfold maxLen at m1 m2 m3
  have SA := Lib.hid hA
  have SB := Lib.hid hB
  have SC := Lib.hid hC
  have NA := Lib.hid IA
  have NB := Lib.hid IB
  have NC := Lib.hid IC
  clear hA hB hC IA IB IC
  have HB0 := Lib.hid (Below.refl w.heap.size w)
  cases hf : shoB [A, B, C] with
  | false =>
    rw [hf] at hsh
    clear hf
    go_enter Tryz.func10, Tryz.ntmps10
    have H0 := Lib.hid (hsh)
    go_wp2_with fail
    refine (H0.out).mono ?_
    rintro e w1 ⟨rfl, hb⟩
    have HB1 := Lib.hid (HB0.out.trans (hb.mono HB0.out.size))
    clear H0 HB0
    clear hb
    go_wp2_with fail
    refine (HA.out _).mono ?_
    rintro e w2 ⟨rfl, hb⟩
    have HB2 := Lib.hid (HB1.out.trans (hb.mono HB1.out.size))
    clear HA hb HB1
    go_wp2
    go_ret
    exact ⟨rfl, HB2.out⟩
  | true =>
    rw [hf] at hsh
    obtain ⟨_, hs2⟩ := shoB_ok hf
    have q1 : l1 ≤ 12 := by have := hs2 A (by simp); omega
    have q2 : l2 ≤ 12 := by have := hs2 B (by simp); omega
    have q3 : l3 ≤ 12 := by have := hs2 C (by simp); omega
    clear hf hs2
    cases hr : rnksB [A, B] with
    | false =>
      have hck : crkL [A, B] = 1 := by rw [crk_two2, hr]; rfl
      go_enter Tryz.func10, Tryz.ntmps10
      have H0 := Lib.hid (hsh)
      go_wp2_with fail
      refine (H0.out).mono ?_
      rintro e w1 ⟨rfl, hb⟩
      have HB1 := Lib.hid (HB0.out.trans (hb.mono HB0.out.size))
      clear H0 HB0
      clear hb
      have H1 := Lib.hid (inv_no (SA.out.keep HB1.out) (SB.out.keep HB1.out) (by omega) (by omega) hck (by decide))
      go_wp2_with fail
      refine (H1.out).mono ?_
      rintro e w2 ⟨rfl, hb⟩
      have HB2 := Lib.hid (HB1.out.trans (hb.mono HB1.out.size))
      clear H1 HB1
      clear hb
      have hrk := rk2_any (SA.out.keep HB2.out) (SB.out.keep HB2.out) (by omega) (by omega) NA.out NB.out
      rw [hr] at hrk
      have H2 := Lib.hid (hrk)
      go_wp2_with fail
      refine (H2.out).mono ?_
      rintro e w3 ⟨rfl, hb⟩
      have HB3 := Lib.hid (HB2.out.trans (hb.mono HB2.out.size))
      clear H2 HB2
      clear hb hrk
      go_wp2_with fail
      refine (HA.out _).mono ?_
      rintro e w4 ⟨rfl, hb⟩
      have HB4 := Lib.hid (HB3.out.trans (hb.mono HB3.out.size))
      clear HA hb HB3
      go_wp2
      go_ret
      exact ⟨rfl, HB4.out⟩
    | true =>
      obtain ⟨hll, rA, rB⟩ := rnks_two.1 hr
      have hlen : l2 = l1 := by omega
      subst hlen
      have hck : crkL [A, B] = 0 := by rw [crk_two2, hr]; rfl
      have hck2 : crkL [B, A] = 0 := by rw [crk_two2, rnks_two.2 ⟨hll.symm, rB, rA⟩]; rfl
      have HX := Lib.hid (opp_turn A B)
      have HY := Lib.hid (half_turn A B)
      have hzl : (A.zip B).length = l2 := by rw [List.length_zip]; omega
      have hx0 := pc_bound oppP (A.zip B)
      have hy0 := pc_bound halfP (A.zip B)
      rw [hzl] at hx0 hy0
      have h144 : l2 * l2 ≤ 12 * 12 := Nat.mul_le_mul (by omega) (by omega)
      have HTRI := Lib.hid (fun (hC : C.length = l2) (nB : B.Nodup) => opp_triangle (A := A) (B := B) (C := C) (n := l2) (by omega) (by omega) hC nB)
      obtain ⟨X, hX⟩ : ∃ X, pcN oppP (A.zip B) = X := ⟨_, rfl⟩
      obtain ⟨Y, hY⟩ : ∃ Y, pcN halfP (A.zip B) = Y := ⟨_, rfl⟩
      rw [hX] at hx0 HX HTRI
      rw [hY] at hy0 HY
      have bX : X ≤ 144 := by omega
      have bY : Y ≤ 144 := by omega
      have kx : ((X : Int) != (X : Int)) = false := by simp
      have ky : ((Y : Int) != (Y : Int)) = false := by simp
      have CI := Lib.hid (fun W (hB : Below w.heap.size w W) => (show Calls Tryz.prog 31 #[.slice a1 l2 c1, .slice a2 l2 c2] W fun e w' => e = .returned (.tuple #[.int .i64 (X : Int), .int .i64 (Y : Int), .int .i64 0]) ∧ Below W.heap.size W w' by
        have := inv_ok (SA.out.keep hB) (SB.out.keep hB) (by omega) NA.out.wf NB.out.wf hck
        unfold InvPost at this
        rw [hX, hY] at this
        exact this))
      have CJ := Lib.hid (fun W (hB : Below w.heap.size w W) => (show Calls Tryz.prog 31 #[.slice a2 l2 c2, .slice a1 l2 c1] W fun e w' => e = .returned (.tuple #[.int .i64 (X : Int), .int .i64 (Y : Int), .int .i64 0]) ∧ Below W.heap.size W w' by
        have := inv_ok (SB.out.keep hB) (SA.out.keep hB) (by omega) NB.out.wf NA.out.wf hck2
        unfold InvPost at this
        rw [HX.out, HY.out] at this
        exact this))
      have CR := Lib.hid (fun W (hB : Below w.heap.size w W) => (show Calls Tryz.prog 33 #[.slice a1 l2 c1, .slice a2 l2 c2] W fun e w' => e = .returned (.tuple #[.int .i64 (X : Int), .int .i64 (Y : Int)]) ∧ Below W.heap.size W w' by
        have := rinv_any (SA.out.keep hB) (SB.out.keep hB) (by omega)
        rw [hX, hY] at this
        exact this.mono fun e w9 ⟨he, hd⟩ => ⟨he, hd.grw.below⟩))
      have HRA := Lib.hid rA
      have HRB := Lib.hid rB
      have HRR := Lib.hid hr
      clear hck hck2 hX hY hx0 hy0 h144 hzl rA rB hr
      go_enter Tryz.func10, Tryz.ntmps10
      have H0 := Lib.hid (hsh)
      go_wp2_with fail
      refine (H0.out).mono ?_
      rintro e w1 ⟨rfl, hb⟩
      have HB1 := Lib.hid (HB0.out.trans (hb.mono HB0.out.size))
      clear H0 HB0
      clear hb hsh
      have H1 := Lib.hid (CI.out _ HB1.out)
      go_wp2_with fail
      refine (H1.out).mono ?_
      rintro e w2 ⟨rfl, hb⟩
      have HB2 := Lib.hid (HB1.out.trans (hb.mono HB1.out.size))
      clear H1 HB1
      clear hb CI
      have hrk := rk2_any (SA.out.keep HB2.out) (SB.out.keep HB2.out) (by omega) (by omega) NA.out NB.out
      rw [HRR.out] at hrk
      have H2 := Lib.hid (hrk)
      go_wp2_with fail
      refine (H2.out).mono ?_
      rintro e w3 ⟨rfl, hb⟩
      have HB3 := Lib.hid (HB2.out.trans (hb.mono HB2.out.size))
      clear H2 HB2
      clear hb hrk
      have H3 := Lib.hid (CR.out _ HB3.out)
      go_wp2_with fail
      refine (H3.out).mono ?_
      rintro e w4 ⟨rfl, hb⟩
      have HB4 := Lib.hid (HB3.out.trans (hb.mono HB3.out.size))
      clear H3 HB3
      clear hb CR
      have H4 := Lib.hid (CJ.out _ HB4.out)
      go_wp2_with fail
      refine (H4.out).mono ?_
      rintro e w5 ⟨rfl, hb⟩
      have HB5 := Lib.hid (HB4.out.trans (hb.mono HB4.out.size))
      clear H4 HB4
      clear hb CJ
      have hrk := rk2_any (SA.out.keep HB5.out) (SC.out.keep HB5.out) (by omega) (by omega) NA.out NC.out
      cases hr : rnksB [A, C] with
      | false =>
        rw [hr] at hrk
        have H5 := Lib.hid (hrk)
        go_wp2_with fail
        refine (H5.out).mono ?_
        rintro e w6 ⟨rfl, hb⟩
        have HB6 := Lib.hid (HB5.out.trans (hb.mono HB5.out.size))
        clear H5 HB5
        clear hb hrk
        go_wp2_with fail
        refine (HA.out _).mono ?_
        rintro e w7 ⟨rfl, hb⟩
        have HB7 := Lib.hid (HB6.out.trans (hb.mono HB6.out.size))
        clear HA hb HB6
        go_wp2
        go_ret
        exact ⟨rfl, HB7.out⟩
      | true =>
        rw [hr] at hrk
        have H5 := Lib.hid (hrk)
        go_wp2_with fail
        refine (H5.out).mono ?_
        rintro e w6 ⟨rfl, hb⟩
        have HB6 := Lib.hid (HB5.out.trans (hb.mono HB5.out.size))
        clear H5 HB5
        clear hb hrk
        obtain ⟨hlc, _, rC⟩ := rnks_two.1 hr
        have hlen : l3 = l2 := by omega
        subst hlen
        have HRC := Lib.hid rC
        clear hr rC
        have H6 := Lib.hid (less_any (SA.out.keep HB6.out) (by omega))
        go_wp2_with fail
        refine (H6.out).mono ?_
        rintro e w7 ⟨ra, rb, rc, rfl, hs, hb⟩
        have HB7 := Lib.hid (HB6.out.trans (hb.mono HB6.out.size))
        have hpm := perm_any hs (n := l3) (by omega)
        clear H6 HB6 hs hb
        cases hpA : permB (lessL A) l3 with
        | false =>
          rw [hpA] at hpm
          have H7 := Lib.hid (hpm)
          go_wp2_with fail
          refine (H7.out).mono ?_
          rintro e w8 ⟨rfl, hb⟩
          have HB8 := Lib.hid (HB7.out.trans (hb.mono HB7.out.size))
          clear H7 HB7
          clear hb hpm
          go_wp2_with fail
          refine (HA.out _).mono ?_
          rintro e w9 ⟨rfl, hb⟩
          have HB9 := Lib.hid (HB8.out.trans (hb.mono HB8.out.size))
          clear HA hb HB8
          go_wp2
          go_ret
          exact ⟨rfl, HB9.out⟩
        | true =>
          rw [hpA] at hpm
          have H7 := Lib.hid (hpm)
          go_wp2_with fail
          refine (H7.out).mono ?_
          rintro e w8 ⟨rfl, hb⟩
          have HB8 := Lib.hid (HB7.out.trans (hb.mono HB7.out.size))
          clear H7 HB7
          clear hb hpm
          have H8 := Lib.hid (less_any (SB.out.keep HB8.out) (by omega))
          go_wp2_with fail
          refine (H8.out).mono ?_
          rintro e w9 ⟨ra, rb, rc, rfl, hs, hb⟩
          have HB9 := Lib.hid (HB8.out.trans (hb.mono HB8.out.size))
          have hpm := perm_any hs (n := l3) (by omega)
          clear H8 HB8 hs hb
          cases hpB : permB (lessL B) l3 with
          | false =>
            rw [hpB] at hpm
            have H9 := Lib.hid (hpm)
            go_wp2_with fail
            refine (H9.out).mono ?_
            rintro e w10 ⟨rfl, hb⟩
            have HB10 := Lib.hid (HB9.out.trans (hb.mono HB9.out.size))
            clear H9 HB9
            clear hb hpm
            go_wp2_with fail
            refine (HA.out _).mono ?_
            rintro e w11 ⟨rfl, hb⟩
            have HB11 := Lib.hid (HB10.out.trans (hb.mono HB10.out.size))
            clear HA hb HB10
            go_wp2
            go_ret
            exact ⟨rfl, HB11.out⟩
          | true =>
            rw [hpB] at hpm
            have H9 := Lib.hid (hpm)
            go_wp2_with fail
            refine (H9.out).mono ?_
            rintro e w10 ⟨rfl, hb⟩
            have HB10 := Lib.hid (HB9.out.trans (hb.mono HB9.out.size))
            clear H9 HB9
            clear hb hpm
            have H10 := Lib.hid (less_any (SC.out.keep HB10.out) (by omega))
            go_wp2_with fail
            refine (H10.out).mono ?_
            rintro e w11 ⟨ra, rb, rc, rfl, hs, hb⟩
            have HB11 := Lib.hid (HB10.out.trans (hb.mono HB10.out.size))
            have hpm := perm_any hs (n := l3) (by omega)
            clear H10 HB10 hs hb
            cases hpC : permB (lessL C) l3 with
            | false =>
              rw [hpC] at hpm
              have H11 := Lib.hid (hpm)
              go_wp2_with fail
              refine (H11.out).mono ?_
              rintro e w12 ⟨rfl, hb⟩
              have HB12 := Lib.hid (HB11.out.trans (hb.mono HB11.out.size))
              clear H11 HB11
              clear hb hpm
              go_wp2_with fail
              refine (HA.out _).mono ?_
              rintro e w13 ⟨rfl, hb⟩
              have HB13 := Lib.hid (HB12.out.trans (hb.mono HB12.out.size))
              clear HA hb HB12
              go_wp2
              go_ret
              exact ⟨rfl, HB13.out⟩
            | true =>
              rw [hpC] at hpm
              have H11 := Lib.hid (hpm)
              go_wp2_with fail
              refine (H11.out).mono ?_
              rintro e w12 ⟨rfl, hb⟩
              have HB12 := Lib.hid (HB11.out.trans (hb.mono HB11.out.size))
              clear H11 HB11
              clear hb hpm
              have hck3 : crkL [B, C] = 0 := by rw [crk_two2, rnks_two.2 ⟨by omega, HRB.out, HRC.out⟩]; rfl
              have hck4 : crkL [A, C] = 0 := by rw [crk_two2, rnks_two.2 ⟨by omega, HRA.out, HRC.out⟩]; rfl
              have htri := HTRI.out (by omega) (less_nodup hpB)
              have hz3 : (B.zip C).length = l3 := by rw [List.length_zip]; omega
              have hz4 : (A.zip C).length = l3 := by rw [List.length_zip]; omega
              have b3 := pc_bound oppP (B.zip C)
              have b4 := pc_bound oppP (A.zip C)
              rw [hz3] at b3
              rw [hz4] at b4
              have h144 : l3 * l3 ≤ 12 * 12 := Nat.mul_le_mul (by omega) (by omega)
              have hi3 := inv_ok (SB.out.keep HB12.out) (SC.out.keep HB12.out) (by omega) NB.out.wf NC.out.wf hck3
              unfold InvPost at hi3
              have CI4 := Lib.hid (fun W (hB : Below w.heap.size w W) => inv_ok (SA.out.keep hB) (SC.out.keep hB) (by omega) NA.out.wf NC.out.wf hck4)
              unfold InvPost at CI4
              generalize pcN oppP (B.zip C) = P at *
              generalize pcN oppP (A.zip C) = Q at *
              generalize pcN halfP (B.zip C) = P2 at *
              generalize pcN halfP (A.zip C) = Q2 at *
              have wsum : IntKind.i64.wrap ((X : Int) + (P : Int)) = (X : Int) + (P : Int) := IntWalk.i64_in _ (by omega)
              have wle : (Q : Int) ≤ (X : Int) + (P : Int) := by omega
              clear hz3 hz4 b4 h144 hck3 hck4 hpA hpB hpC HTRI HRA HRB HRC HRR HX HY
              have H12 := Lib.hid (hi3)
              go_wp2_with fail
              refine (H12.out).mono ?_
              rintro e w13 ⟨rfl, hb⟩
              have HB13 := Lib.hid (HB12.out.trans (hb.mono HB12.out.size))
              clear H12 HB12
              clear hb hi3
              have H13 := Lib.hid (CI4.out _ HB13.out)
              go_wp2_with fail
              refine (H13.out).mono ?_
              rintro e w14 ⟨rfl, hb⟩
              have HB14 := Lib.hid (HB13.out.trans (hb.mono HB13.out.size))
              clear H13 HB13
              clear hb CI4
              go_wp2_with fail
              refine (HA.out _).mono ?_
              rintro e w15 ⟨rfl, hb⟩
              have HB15 := Lib.hid (HB14.out.trans (hb.mono HB14.out.size))
              clear HA hb HB14
              go_wp2
              go_ret
              exact ⟨rfl, HB15.out⟩
end Go.Proofs.YtflmjoikojfgaaaGreat
