/- The reference's Rankings. -/
import Derived.Test.YtigibomcaecbdaaGreatRnk
import Derived.Test.YtigibomcaecbdaaGreatLis
set_option linter.unusedSimpArgs false
set_option linter.unusedVariables false
namespace Go.Proofs.YtigibomcaecbdaaGreat
open Go.RowKit Go.Sort

theorem quietD {P : Program} {f : FuncId} {args : Array Value} {w : World} {n : Nat} {v : Value} (h : Calls P f args (w.drewN n) fun e w' => e = .returned v ∧ ∃ m, w' = (w.drewN n).drewN m) : Calls P f args (w.drewN n) fun e w'' => e = .returned v ∧ ∃ m, w'' = w.drewN m :=
  h.mono fun _ _ ⟨he, m, hm⟩ => ⟨he, n + m, by rw [hm, World.drewN_drewN]⟩
theorem head_lis {M : List Li} (h : 0 < M.length) : headI (lis M) = (M[0]'h).L.length := by
  unfold headI lis
  cases M with
  | nil => simp at h
  | cons r t => rfl
set_option maxHeartbeats 2000000 in
set_option maxRecDepth 100000 in
theorem rks_any {a : Option Addr} {b off len cap : Nat} {M : List Li} {w : World} (h : SlL w a b off len cap M) (hI : ∀ r ∈ M, InI r.L) (hz : ∀ r ∈ M, r.L.length ≤ 1000000) :
    Calls Tryz.prog 32 #[.slice a len cap] w fun e w' => e = .returned (.bool (rnksB (lis M))) ∧ ∃ q, w' = w.drewN q := by
  have hl := h.sl.hl
  have hcap := h.sl.hcap
  have hmax := h.sl.hmax
  unfold maxLen at hmax
  have HS := Lib.hid h
  have HI := Lib.hid hI
  have HZZ := Lib.hid hz
  clear h hI hz
  go_enter Tryz.func32, Tryz.ntmps32
  go_wp2_with fail
  go_loopw [3] (fun s3 wr => ∃ (k q : Nat), k ≤ len ∧ s3 = .int .i64 (k : Int) ∧ w.drewN q = wr ∧ Hid (∀ (j : Nat) (hj : j < M.length), j < k → lisOk (headI (lis M)) (M[j]'hj).L = true)) (fun s3 _ => (len - (intOf s3)).toNat)
  case atStart => exact ⟨0, 0, Nat.zero_le _, rfl, rfl, Lib.hid (fun j _ h => absurd h (Nat.not_lt_zero j))⟩
  case round =>
    obtain ⟨k, q, hk, rfl, rfl, HZ⟩ := hrel
    by_cases hlt : k < len
    · have l1 : (k : Int) < (len : Int) := by omega
      have l0 : 0 < len := by omega
      have l2 : (0 : Int) < (len : Int) := by omega
      obtain rfl := HS.out.sl.ha l0
      have hkM : k < M.length := by omega
      have h0M : 0 < M.length := by omega
      have x1 : (w.drewN q).cell? ⟨b, off + k, none⟩ = some (M[k]'hkM).val := HS.out.sl.cell k hkM
      have x0 : (w.drewN q).cell? ⟨b, off, none⟩ = some (M[0]'h0M).val := HS.out.sl.cell 0 h0M
      have hrk := fun n => rnkr_any (SlG.drewN (HS.out.rows _ (List.getElem_mem hkM)) n) (HI.out _ (List.getElem_mem hkM)) (HZZ.out _ (List.getElem_mem hkM))
      have hn0 := head_lis h0M
      have HBad := Lib.hid (fun (hb : lisOk (M[0]'h0M).L.length (M[k]'hkM).L = false) => (show rnksB (lis M) = false by
        unfold rnksB
        rw [List.all_eq_false]
        exact ⟨_, lis_mem (List.getElem_mem hkM), by rw [hn0, hb]; decide⟩))
      have HNx := Lib.hid (fun (hg : lisOk (M[0]'h0M).L.length (M[k]'hkM).L = true) => (fun (j : Nat) (hj : j < M.length) (hjk : j < k + 1) => by
        by_cases e : j = k
        · subst e; rw [hn0]; exact hg
        · exact HZ.out j hj (by omega) : ∀ (j : Nat) (hj : j < M.length), j < k + 1 → lisOk (headI (lis M)) (M[j]'hj).L = true))
      unfold Li.val at x1 x0
      have hro : lisOk (M[0]'h0M).L.length (M[k]'hkM).L = (decide ((M[k]'hkM).L.length = (M[0]'h0M).L.length) && rnkB (M[k]'hkM).L) := rfl
      rw [hro] at HBad HNx
      obtain ⟨v, hv⟩ : ∃ v, rnkB (M[k]'hkM).L = v := ⟨_, rfl⟩
      rw [hv] at HBad HNx hrk
      obtain ⟨n0, h0⟩ : ∃ n, (M[0]'h0M).L.length = n := ⟨_, rfl⟩
      obtain ⟨n1, h1⟩ : ∃ n, (M[k]'hkM).L.length = n := ⟨_, rfl⟩
      obtain ⟨ra, hra⟩ : ∃ n, (M[k]'hkM).a = n := ⟨_, rfl⟩
      obtain ⟨rc, hrc⟩ : ∃ n, (M[k]'hkM).cap = n := ⟨_, rfl⟩
      obtain ⟨qa, hqa⟩ : ∃ n, (M[0]'h0M).a = n := ⟨_, rfl⟩
      obtain ⟨qc, hqc⟩ : ∃ n, (M[0]'h0M).cap = n := ⟨_, rfl⟩
      rw [h1, hra, hrc] at x1
      rw [h0, hqa, hqc] at x0
      rw [h0, h1] at HBad HNx
      simp only [h1, hra, hrc] at hrk
      generalize hw2 : w.drewN q = w2 at *
      have HRK := Lib.hid (fun n => (show Calls Tryz.prog 27 #[.slice ra n1 rc] (w2.drewN n) fun e w' => e = .returned (.bool v) ∧ ∃ m, w' = (w2.drewN n).drewN m by
        have := hrk (q + n)
        rw [← World.drewN_drewN, hw2] at this
        exact this))
      have HW := Lib.hid hw2
      clear hw2 hrk hn0 HZ hro hv h0 h1 hra hrc hqa hqc HZZ
      by_cases hn : n1 = n0
      · subst hn
        have t1 : ((n1 : Int) != (n1 : Int)) = false := by simp
        have t2 : decide (n1 = n1) = true := decide_eq_true rfl
        rw [t2, Bool.true_and] at HBad HNx
        cases v with
        | false =>
          have HE := Lib.hid (HBad.out rfl)
          clear HBad HNx
          go_wp2_with fail
          go_quiet ((first | (go_at_call 27; exact quietD (HRK.out _))))
          go_wp2_with fail
          go_ret
          exact ⟨by rw [HE.out]; rfl, q + nq, by rw [← HW.out, World.drewN_drewN]⟩
        | true =>
          have HE := Lib.hid (HNx.out rfl)
          clear HBad HNx
          go_wp2_with fail
          go_quiet ((first | (go_at_call 27; exact quietD (HRK.out _))))
          go_wp2_with fail
          go_roundw
          case rel => exact ⟨k + 1, q + nq, by omega, by go_num, by rw [← HW.out, World.drewN_drewN], HE⟩
          case measure => simp [intOf]; omega
      · have t1 : ((n1 : Int) != (n0 : Int)) = true := by rw [bne_iff_ne]; omega
        have HE := Lib.hid (HBad.out (by rw [decide_eq_false hn]; rfl))
        clear HBad HNx hn HRK
        go_wp2_with fail
        go_quiet (fail)
        go_wp2_with fail
        go_ret
        exact ⟨by rw [HE.out]; rfl, q + nq, by rw [← HW.out, World.drewN_drewN]⟩
    · obtain rfl : k = len := by omega
      have l1 : ¬ (k : Int) < (k : Int) := by omega
      have HE := Lib.hid (show rnksB (lis M) = true by
        unfold rnksB
        rw [List.all_eq_true]
        intro r hr
        obtain ⟨x, hx, rfl⟩ := List.mem_map.1 hr
        obtain ⟨j, hj, rfl⟩ := List.mem_iff_getElem.1 hx
        exact HZ.out j hj (by omega))
      clear HZ
      generalize hw2 : w.drewN q = w2 at *
      have HW := Lib.hid hw2
      clear hw2
      go_wp2_with fail
      go_ret
      exact ⟨by rw [HE.out]; rfl, q, HW.out.symm⟩
end Go.Proofs.YtigibomcaecbdaaGreat
