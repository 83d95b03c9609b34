/- Agreed returns the pairs that all rankings order in the same way; the relation is transitive: the law. -/
import Derived.Test.YtflmjoikojfgaaaGreatAgeq
import Derived.Test.YtflmjoikojfgaaaGreatSho
import Derived.Test.YtflmjoikojfgaaaGreatAwk
set_option linter.unusedSimpArgs false
set_option linter.unusedVariables false
namespace Go.Proofs.YtflmjoikojfgaaaGreat
open Go.RowKit Go.Sort

set_option maxHeartbeats 4000000 in
set_option maxRecDepth 100000 in
/-- where there is none -/
theorem agreed_law0 {a : Option Addr} {b off cap : Nat} {w : World} (h : SlL w a b off 0 cap []) :
    Calls Tryz.prog 11 #[.slice a 0 cap] w fun e w' => e = .returned (.bool true) ∧ Below w.heap.size w w' := by
  have HA := Lib.hid (fun w => awake_any w)
  have hf0 := short_any h
  rw [show shoB (lis []) = true from rfl] at hf0
  have HF := Lib.hid hf0
  have HG := Lib.hid (agr_none h)
  have HR := Lib.hid (fun W (hB : Below w.heap.size w W) => rks_any (h.keep hB) (fun r hr => absurd hr (by simp)) (fun r hr => absurd hr (by simp)))
  rw [show rnksB (lis []) = true from rfl] at HR
  have hmax := h.sl.hmax
  unfold maxLen at hmax
  clear h hf0
  go_enter Tryz.func11, Tryz.ntmps11
  go_wp2_with fail
  refine (HF.out).mono ?_
  rintro e w1 ⟨rfl, rfl⟩
  go_wp2_with fail
  refine (HG.out).mono ?_
  rintro e w1 ⟨v, rfl, ho, hb⟩
  have HB1 := Lib.hid hb
  obtain ⟨va, vg, vc, hv, hs⟩ := prs_own ho rfl
  subst hv
  clear ho hb hs HF HG
  go_wp2_with fail
  refine (HR.out _ HB1.out).mono ?_
  rintro e w2 ⟨rfl, q, rfl⟩
  have HB2 := Lib.hid (bel_drewN HB1.out q)
  clear HB1 HR
  generalize w1.drewN q = w2 at *
  go_wp2_with fail
  refine wp_loop_rounds 1 ?_
  rw [rounds_succ]
  go_wp2_with fail
  refine wp_loop_rounds 1 ?_
  rw [rounds_succ]
  go_wp2_with fail
  refine (HA.out _).mono ?_
  rintro e w3 ⟨rfl, hb⟩
  have HB3 := Lib.hid (HB2.out.trans (hb.mono HB2.out.size))
  clear hb HA HB2
  go_wp2
  go_ret
  exact ⟨rfl, HB3.out⟩
set_option maxHeartbeats 4000000 in
set_option maxRecDepth 100000 in
theorem agreed_law {a : Option Addr} {b off len cap : Nat} {M : List Li} {w : World} (h : SlL w a b off len cap M) (hI : ∀ r ∈ M, InI r.L) :
    Calls Tryz.prog 11 #[.slice a len cap] w fun e w' => e = .returned (.bool true) ∧ Below w.heap.size w w' := by
  have HA := Lib.hid (fun w => awake_any w)
  have hf0 := short_any h
  have hl := h.sl.hl
  have hcl : (lis M).length = len := by rw [lis_len, hl]
  have hcap := h.sl.hcap
  have hmax := h.sl.hmax
  unfold maxLen at hmax
  have HS := Lib.hid h
  have HI := Lib.hid hI
  clear h hI
  cases hf : shoB (lis M) with
  | false =>
    rw [hf] at hf0
    have HF := Lib.hid hf0
    clear hf hf0 hcl
    go_enter Tryz.func11, Tryz.ntmps11
    go_wp2_with fail
    refine (HF.out).mono ?_
    rintro e w1 ⟨rfl, rfl⟩
    go_wp2_with fail
    refine (HA.out _).mono ?_
    rintro e w2 ⟨rfl, hb⟩
    have HB := Lib.hid hb
    clear hb HA
    go_wp2
    go_ret
    exact ⟨rfl, HB.out⟩
  | true =>
    rw [hf] at hf0
    have HF := Lib.hid hf0
    obtain ⟨hs1, hs2⟩ := shoB_ok hf
    have h8 : len ≤ 8 := by omega
    have h12 : ∀ r ∈ M, r.L.length ≤ 12 := fun r hr => hs2 _ (lis_mem hr)
    have hz : ∀ r ∈ M, r.L.length ≤ 1000000 := fun r hr => by have := h12 r hr; omega
    clear hf hf0 hs1 hs2
    by_cases h0 : len = 0
    · subst h0
      have hM : M = [] := List.eq_nil_of_length_eq_zero hl
      subst hM
      exact agreed_law0 HS.out
    · have k0 : ((len : Int) == 0) = false := by rw [beq_eq_false_iff_ne]; omega
      have hpos : 0 < len := by omega
      have k2 : (0 : Int) < (len : Int) := by omega
      obtain rfl := HS.out.sl.ha hpos
      have HR := Lib.hid (fun W (hB : Below w.heap.size w W) => rks_any (HS.out.keep hB) HI.out hz)
      cases hr : rnksB (lis M) with
      | false =>
        have hc : crkL (lis M) = 1 := by unfold crkL; rw [if_neg (by omega), hr]; rfl
        have HM := Lib.hid (agr_no HS.out hz hc (by decide))
        rw [hr] at HR
        clear h12 hz hcl hc hr
        go_enter Tryz.func11, Tryz.ntmps11
        go_wp2_with fail
        refine (HF.out).mono ?_
        rintro e w1 ⟨rfl, rfl⟩
        go_wp2_with fail
        refine (HM.out).mono ?_
        rintro e w1 ⟨rfl, hb⟩
        have HB1 := Lib.hid hb
        clear hb HF HM
        go_wp2_with fail
        refine (HR.out _ HB1.out).mono ?_
        rintro e w2 ⟨rfl, q, rfl⟩
        have HB2 := Lib.hid (bel_drewN HB1.out q)
        clear HB1 HR
        generalize w1.drewN q = w2 at *
        go_wp2_with fail
        refine (HA.out _).mono ?_
        rintro e w3 ⟨rfl, hb⟩
        have HB3 := Lib.hid (HB2.out.trans (hb.mono HB2.out.size))
        clear hb HA
        go_wp2
        go_ret
        exact ⟨rfl, HB3.out⟩
      | true =>
        have hc : crkL (lis M) = 0 := by unfold crkL; rw [if_neg (by omega), hr]; rfl
        have HM := Lib.hid (agr_ok HS.out (fun r hr => by have := h12 r hr; omega) hc hpos)
        have h0M : 0 < M.length := by omega
        have hall : ∀ r ∈ M, r.L.length = headI (lis M) := fun r hrr => (rnks_at hr (lis_mem hrr)).1
        have hn0 := hall _ (List.getElem_mem h0M)
        have hN : headI (lis M) ≤ 12 := by rw [← hn0]; exact h12 _ (List.getElem_mem h0M)
        rw [hr] at HR
        obtain ⟨N, hNN⟩ : ∃ N, headI (lis M) = N := ⟨_, rfl⟩
        rw [hNN] at HM hn0 hN hall
        have X0 := Lib.hid (fun (W : World) (hB : Below w.heap.size w W) => (show W.cell? ⟨b, off, none⟩ = some (.slice (M[0]'h0M).a N (M[0]'h0M).cap) by
          have := (HS.out.keep hB).sl.cell 0 h0M
          unfold Li.val at this
          rw [hn0] at this
          exact this))
        have HAG := Lib.hid (fun (W : World) (hB : Below w.heap.size w W) (i k : Nat) (hi : i < N) (hk : k < N) => agrees_any (HS.out.keep hB) hall hi hk hpos)
        have HNX := Lib.hid (fun (i k : Nat) (hi : i < N) (hk : k < N) hv => agr_next (C := lis M) hi hk hv)
        have HTL := Lib.hid (agrI_len (lis M) N N)
        have HKS := Lib.hid (fun i k => agrK_step (lis M) i k)
        have HIS := Lib.hid (fun i => agrI_step (lis M) N i)
        have HMEM := Lib.hid (fun p hp => @agr_mem (lis M) N p hp)
        generalize (M[0]'h0M).a = a0 at *
        generalize (M[0]'h0M).cap = c0 at *
        obtain ⟨C, hC⟩ : ∃ C, lis M = C := ⟨_, rfl⟩
        rw [hC] at HM HAG HNX HTL HKS HIS HMEM
        have hNN2 : N * N ≤ 12 * 12 := Nat.mul_le_mul hN hN
        obtain ⟨T, hT⟩ : ∃ T, agrI C N N = T := ⟨_, rfl⟩
        rw [hT] at HM HNX HTL HMEM
        have HT := Lib.hid hT
        obtain ⟨n, hn⟩ : ∃ n, T.length = n := ⟨_, rfl⟩
        have hn144 : n ≤ 144 := by have := HTL.out; omega
        clear h12 hz hcl hc hr h0M hall hn0 hNN HI hC hT hNN2 HTL
        go_enter Tryz.func11, Tryz.ntmps11
        go_wp2_with fail
        refine (HF.out).mono ?_
        rintro e w1 ⟨rfl, rfl⟩
        go_wp2_with fail
        refine (HM.out).mono ?_
        rintro e w1 ⟨v, rfl, ho, hb⟩
        rw [hn] at ho
        have HLN := Lib.hid hn
        obtain ⟨va, vg, vc, hv, hs⟩ := prs_own ho hn
        subst hv
        have pc := hs.hcap
        have pm := hs.hmax
        unfold maxLen at pm
        have HP := Lib.hid hs
        have HB1 := Lib.hid hb
        clear ho hb hs HF HM hn
        go_wp2_with fail
        refine (HR.out _ HB1.out).mono ?_
        rintro e w2 ⟨rfl, q, rfl⟩
        have HB2 := Lib.hid (bel_drewN HB1.out q)
        have HP2 := Lib.hid (HP.out.keep (bel_drewN (Below.refl _ _) q))
        clear HB1 HR HP
        generalize w1.drewN q = w2 at *
        have x0 := X0.out _ HB2.out
        go_wp2_with fail
        clear x0 X0
        go_loopw [5, 7] (fun s5 s7 wr => ∃ (i : Nat), i ≤ N ∧ s5 = .int .i64 ((agrI C N i).length : Nat) ∧ s7 = .int .i64 (i : Int) ∧ Hid (Below w2.heap.size w2 wr)) (fun _ s7 _ => (N - (intOf s7)).toNat)
        case atStart => exact ⟨0, Nat.zero_le _, rfl, rfl, Lib.hid (Below.refl _ _)⟩
        case round =>
          obtain ⟨i, hi, rfl, rfl, HB⟩ := hrel
          by_cases hlt : i < N
          · have l1 : (i : Int) < (N : Int) := by omega
            go_wp2_with fail
            go_loopw [5, 8] (fun s5 s8 wi => ∃ (k : Nat), k ≤ N ∧ s5 = .int .i64 ((agrI C N i ++ agrK C i k).length : Nat) ∧ s8 = .int .i64 (k : Int) ∧ Hid (Below w2.heap.size w2 wi)) (fun _ s8 _ => (N - (intOf s8)).toNat)
            case atStart => exact ⟨0, Nat.zero_le _, by simp [agrK], rfl, HB⟩
            case round =>
              clear HB
              obtain ⟨k, hk, rfl, rfl, HB⟩ := hrel
              by_cases hltk : k < N
              · have l2 : (k : Int) < (N : Int) := by omega
                have HW := Lib.hid (HB2.out.trans (HB.out.mono HB2.out.size))
                have HC := Lib.hid (HAG.out _ HW.out i k hlt hltk)
                have hks := HKS.out i k
                cases hv : agrB C i k with
                | false =>
                  rw [hv] at HC hks
                  rw [if_neg (by decide)] at hks
                  have HE := Lib.hid hks
                  clear hks hv
                  have bb : (agrI C N i ++ agrK C i k).length ≤ 10000 := by
                    have h1 := agrI_len C N i
                    have h2 := agrK_len C i k
                    have h3 : i * N ≤ 12 * 12 := Nat.mul_le_mul (by omega) hN
                    rw [List.length_append]; omega
                  obtain ⟨m, hm⟩ : ∃ m, (agrI C N i ++ agrK C i k).length = m := ⟨_, rfl⟩
                  rw [hm] at bb ⊢
                  have HMM := Lib.hid hm
                  clear hm
                  go_wp2_with fail
                  refine (HC.out).mono ?_
                  rintro e w3 ⟨rfl, hd⟩
                  have HB3 := Lib.hid (HB.out.trans (hd.grw.below.mono HB.out.size))
                  clear hd HC HB HW
                  go_wp2_with fail
                  go_roundw
                  case rel => exact ⟨k + 1, by omega, by rw [HE.out, HMM.out], by go_num, HB3⟩
                  case measure => simp [intOf]; omega
                | true =>
                  rw [hv] at HC hks
                  rw [if_pos rfl] at hks
                  have hnx := HNX.out i k hlt hltk hv
                  have HE := Lib.hid (show (agrI C N i ++ agrK C i (k + 1)).length = (agrI C N i ++ agrK C i k).length + 1 by rw [hks, List.length_append, List.length_append, List.length_append]; rfl)
                  obtain ⟨m, hm⟩ : ∃ m, (agrI C N i ++ agrK C i k).length = m := ⟨_, rfl⟩
                  rw [hm] at hnx HE ⊢
                  obtain ⟨hmT, hmv⟩ := List.getElem?_eq_some_iff.1 hnx
                  have hmn : m < n := by have := HLN.out; omega
                  have l4 : (m : Int) < (n : Int) := by omega
                  have l5 : ¬ (n : Int) ≤ (m : Int) := by omega
                  have l6 : decide ((m : Int) ≥ (n : Int)) = false := decide_eq_false (by omega)
                  obtain rfl := HP2.out.ha (by omega)
                  have HQ := Lib.hid (fun (W : World) (hB : Below w2.heap.size w2 W) => (show W.cell? ⟨vg, m * 2, none⟩ = some (.int .i64 (i : Int)) ∧ W.cell? ⟨vg, m * 2 + 1, none⟩ = some (.int .i64 (k : Int)) by
                    have := (HP2.out.keep hB).cell m hmT
                    rw [hmv] at this
                    exact this))
                  have heq := eqP_any (i : Int) (k : Int) ⟨WalkArith.wf_i64 (by simp only; omega), WalkArith.wf_i64 (by simp only; omega)⟩
                  clear hks hv hnx hm hmT hmv
                  go_wp2_with fail
                  refine (HC.out).mono ?_
                  rintro e w3 ⟨rfl, hd⟩
                  have HB3 := Lib.hid (HB.out.trans (hd.grw.below.mono HB.out.size))
                  obtain ⟨y1, y2⟩ := HQ.out _ HB3.out
                  clear hd HC HB HW HQ
                  go_wp2_with fail
                  go_roundw
                  case rel => exact ⟨k + 1, by omega, by rw [HE.out]; go_num, by go_num, HB3⟩
                  case measure => simp [intOf]; omega
              · obtain rfl : k = N := by omega
                have l2 : ¬ (k : Int) < (k : Int) := by omega
                rw [← HIS.out i]
                go_wp2_with fail
                go_roundw
                case rel => exact ⟨i + 1, by omega, rfl, by go_num, HB⟩
                case measure => simp [intOf]; omega
          · obtain rfl : i = N := by omega
            have l1 : ¬ (i : Int) < (i : Int) := by omega
            rw [HT.out, HLN.out]
            have kn : ((n : Int) == (n : Int)) = true := by simp
            have HB4 := Lib.hid (HB2.out.trans (HB.out.mono HB2.out.size))
            clear HNX HKS HIS
            go_wp2_with fail
            go_loopw [9] (fun s9 wr => ∃ (j : Nat), j ≤ n ∧ s9 = .int .i64 (j : Int) ∧ Hid (Below w2.heap.size w2 wr)) (fun s9 _ => (n - (intOf s9)).toNat)
            case atStart => exact ⟨0, Nat.zero_le _, rfl, HB⟩
            case round =>
              clear HB HB4
              obtain ⟨j, hj, rfl, HB⟩ := hrel
              by_cases hjn : j < n
              · have l3 : (j : Int) < (n : Int) := by omega
                go_wp2_with fail
                go_loopw [10] (fun s10 wi => ∃ (k : Nat), k ≤ n ∧ s10 = .int .i64 (k : Int) ∧ Hid (Below w2.heap.size w2 wi)) (fun s10 _ => (n - (intOf s10)).toNat)
                case atStart => exact ⟨0, Nat.zero_le _, rfl, HB⟩
                case round =>
                  clear HB
                  obtain ⟨k, hk, rfl, HB⟩ := hrel
                  by_cases hkn : k < n
                  · have l4 : (k : Int) < (n : Int) := by omega
                    obtain rfl := HP2.out.ha (by omega)
                    have hjT : j < T.length := by rw [HLN.out]; exact hjn
                    have hkT : k < T.length := by rw [HLN.out]; exact hkn
                    obtain ⟨y1, y2⟩ := (HP2.out.keep HB.out).cell j hjT
                    obtain ⟨y3, y4⟩ := (HP2.out.keep HB.out).cell k hkT
                    obtain ⟨p, q, hp, hq, e1, v1⟩ := HMEM.out _ (List.getElem_mem hjT)
                    obtain ⟨r, s, hr, hs, e2, v2⟩ := HMEM.out _ (List.getElem_mem hkT)
                    rw [e1] at y1 y2
                    rw [e2] at y3 y4
                    simp only at y1 y2 y3 y4
                    clear e1 e2 hjT hkT
                    by_cases hqr : q = r
                    · subst hqr
                      have g1 : ((q : Int) == (q : Int)) = true := by simp
                      have hv := agr_trans v1 v2
                      have HC := Lib.hid (fun m => (show Calls Tryz.prog 36 #[.slice (some ⟨b, off, none⟩) len cap, .int .i64 (p : Int), .int .i64 (s : Int)] (wr.drewN m) fun e w' => e = .returned (.bool true) ∧ ∃ m2, w' = (wr.drewN m).drewN m2 by
                        have := HAG.out (wr.drewN m) (bel_drewN (HB2.out.trans (HB.out.mono HB2.out.size)) m) p s hp hs
                        rw [hv] at this
                        exact this.mono fun e w9 ⟨he, q9, hq9⟩ => ⟨he, q9, hq9.symm⟩))
                      clear hv v1 v2
                      go_wp2_with fail
                      go_quiet ((first | (go_at_call 36; exact quietD (HC.out _))))
                      go_wp2_with fail
                      go_roundw
                      case rel => exact ⟨k + 1, by omega, by go_num, Lib.hid (bel_drewN HB.out _)⟩
                      case measure => simp [intOf]; omega
                    · have g1 : ((q : Int) == (r : Int)) = false := by rw [beq_eq_false_iff_ne]; omega
                      clear v1 v2 hqr
                      go_wp2_with fail
                      go_quiet (fail)
                      go_wp2_with fail
                      go_roundw
                      case rel => exact ⟨k + 1, by omega, by go_num, Lib.hid (bel_drewN HB.out _)⟩
                      case measure => simp [intOf]; omega
                  · obtain rfl : k = n := by omega
                    have l4 : ¬ (k : Int) < (k : Int) := by omega
                    go_wp2_with fail
                    go_roundw
                    case rel => exact ⟨j + 1, by omega, by go_num, HB⟩
                    case measure => simp [intOf]; omega
              · obtain rfl : j = n := by omega
                have l3 : ¬ (j : Int) < (j : Int) := by omega
                have HB5 := Lib.hid (HB2.out.trans (HB.out.mono HB2.out.size))
                clear HB
                go_wp2_with fail
                refine (HA.out _).mono ?_
                rintro e w6 ⟨rfl, hb⟩
                have HB6 := Lib.hid (HB5.out.trans (hb.mono HB5.out.size))
                clear hb HA HB5
                go_wp2
                go_ret
                exact ⟨rfl, HB6.out⟩
end Go.Proofs.YtflmjoikojfgaaaGreat
