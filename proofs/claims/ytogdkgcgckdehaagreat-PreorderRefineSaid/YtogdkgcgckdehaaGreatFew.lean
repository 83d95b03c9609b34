/- The law's few. -/
import Derived.Test.YtogdkgcgckdehaaGreatSli
set_option linter.unusedSimpArgs false
set_option linter.unusedVariables false
namespace Go.Proofs.YtogdkgcgckdehaaGreat
open Go.RowKit Go.Sort

def fewB (C : List (List (Int × Int))) : Bool := decide (C.length ≤ 12) && C.all fun r => decide (r.length ≤ 25)
theorem fewB_ok {C : List (List (Int × Int))} (h : fewB C = true) : C.length ≤ 12 ∧ ∀ r ∈ C, r.length ≤ 25 := by
  unfold fewB at h
  rw [Bool.and_eq_true, List.all_eq_true] at h
  exact ⟨by simpa using h.1, fun r hr => by simpa using h.2 r hr⟩
set_option maxHeartbeats 1000000 in
set_option maxRecDepth 100000 in
theorem few_any {a : Option Addr} {b off len cap : Nat} {M : List Rw} {w : World} (h : SlR w a b off len cap M) :
    Calls Tryz.prog 4 #[.slice a len cap] w fun e w' => e = .returned (.bool (fewB (crit M))) ∧ w = w' := by
  have hl := h.sl.hl
  have hcap := h.sl.hcap
  have hmax := h.sl.hmax
  unfold maxLen at hmax
  have HS := Lib.hid h
  clear h
  by_cases h2 : 12 < len
  · have k1 : (len : Int) > 12 := by omega
    have HV := Lib.hid (show fewB (crit M) = false by unfold fewB crit; rw [List.length_map, decide_eq_false (by omega)]; rfl)
    go_enter Tryz.func4, Tryz.ntmps4
    go_wp2_with fail
    go_ret
    exact ⟨by rw [HV.out]; rfl, rfl⟩
  · have k1 : ¬ (len : Int) > 12 := by omega
    go_enter Tryz.func4, Tryz.ntmps4
    go_wp2_with fail
    go_loopw [3] (fun s3 wr => ∃ (k : Nat), k ≤ len ∧ s3 = .int .i64 (k : Int) ∧ w = wr ∧ Hid (∀ (j : Nat) (hj : j < M.length), j < k → (M[j]'hj).L.length ≤ 25)) (fun s3 _ => (len - (intOf s3)).toNat)
    case atStart => exact ⟨0, Nat.zero_le _, rfl, rfl, Lib.hid (fun j _ h => absurd h (Nat.not_lt_zero j))⟩
    case round =>
      obtain ⟨k, hk, rfl, rfl, HZ⟩ := hrel
      by_cases hlt : k < len
      · have l1 : (k : Int) < (len : Int) := by omega
        obtain rfl := HS.out.sl.ha (by omega)
        have hkM : k < M.length := by omega
        have x1 := HS.out.sl.cell k hkM
        unfold Rw.val at x1
        have HNx := Lib.hid (fun (hg : (M[k]'hkM).L.length ≤ 25) => (fun (j : Nat) (hj : j < M.length) (hjk : j < k + 1) => by
          by_cases e : j = k
          · subst e; exact hg
          · exact HZ.out j hj (by omega) : ∀ (j : Nat) (hj : j < M.length), j < k + 1 → (M[j]'hj).L.length ≤ 25))
        have HBd := Lib.hid (fun (hg : ¬ (M[k]'hkM).L.length ≤ 25) => (show fewB (crit M) = false by
          unfold fewB
          rw [Bool.and_eq_false_iff]
          refine Or.inr (List.all_eq_false.2 ⟨(M[k]'hkM).L, List.mem_map.2 ⟨_, List.getElem_mem hkM, rfl⟩, by simpa using hg⟩)))
        clear HZ
        obtain ⟨n1, h1⟩ : ∃ n, (M[k]'hkM).L.length = n := ⟨_, rfl⟩
        obtain ⟨ra, hra⟩ : ∃ n, (M[k]'hkM).a = n := ⟨_, rfl⟩
        obtain ⟨rc, hrc⟩ : ∃ n, (M[k]'hkM).cap = n := ⟨_, rfl⟩
        rw [h1, hra, hrc] at x1
        rw [h1] at HNx HBd
        clear h1 hra hrc
        by_cases hn : n1 ≤ 25
        · have t1 : ¬ (n1 : Int) > 25 := by omega
          have HE := Lib.hid (HNx.out hn)
          clear HNx HBd
          go_wp2_with fail
          go_roundw
          case rel => exact ⟨k + 1, by omega, by go_num, by first | rfl | trivial, HE⟩
          case measure => simp [intOf]; omega
        · have t1 : (n1 : Int) > 25 := by omega
          have HE := Lib.hid (HBd.out hn)
          clear HNx HBd
          go_wp2_with fail
          go_ret
          exact ⟨by rw [HE.out]; rfl, rfl⟩
      · obtain rfl : k = len := by omega
        have l1 : ¬ (k : Int) < (k : Int) := by omega
        have HE := Lib.hid (show fewB (crit M) = true by
          unfold fewB
          rw [Bool.and_eq_true, List.all_eq_true]
          refine ⟨by unfold crit; rw [List.length_map]; exact decide_eq_true (by omega), fun r hr => ?_⟩
          obtain ⟨x, hx, rfl⟩ := List.mem_map.1 hr
          obtain ⟨j, hj, rfl⟩ := List.mem_iff_getElem.1 hx
          exact decide_eq_true (HZ.out j hj (by omega)))
        clear HZ
        go_wp2_with fail
        go_ret
        exact ⟨by rw [HE.out]; rfl, rfl⟩
end Go.Proofs.YtogdkgcgckdehaaGreat
