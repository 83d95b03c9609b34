/- Lists of lists of integers; preorder.checkRankings. -/
import Derived.Test.YtogdkgcgckdehaaGreatPla
set_option linter.unusedSimpArgs false
set_option linter.unusedVariables false
namespace Go.Proofs.YtogdkgcgckdehaaGreat
open Go.RowKit Go.Sort

/-- a list of integers, as it lies -/
structure Li where
  a : Option Addr
  b : Nat
  off : Nat
  cap : Nat
  L : List Int
  deriving Inhabited
def Li.val (r : Li) : Value := .slice r.a r.L.length r.cap
def Li.ok (w : World) (r : Li) : Prop := SlI w r.a r.b r.off r.L.length r.cap r.L
theorem Li.ok.keep {w w' : World} {r : Li} (h : r.ok w) (hB : Below w.heap.size w w') : r.ok w' := SlG.keep h hB
/-- a slice of lists of integers -/
structure SlL (w : World) (a : Option Addr) (b off len cap : Nat) (M : List Li) : Prop where
  sl : SlG Li.val w a b off len cap M
  rows : ∀ r ∈ M, r.ok w
theorem SlL.keep {w w' : World} {a : Option Addr} {b off len cap : Nat} {M : List Li} (h : SlL w a b off len cap M) (hB : Below w.heap.size w w') : SlL w' a b off len cap M := ⟨h.sl.keep hB, fun r hr => (h.rows r hr).keep hB⟩
def lis (M : List Li) : List (List Int) := M.map Li.L
theorem lis_len (M : List Li) : (lis M).length = M.length := by simp [lis]
theorem lis_mem {M : List Li} {r : Li} (h : r ∈ M) : r.L ∈ lis M := List.mem_map.2 ⟨r, h, rfl⟩
/-- are all of them rankings of one length -/
def headI (C : List (List Int)) : Nat := (C.headD []).length
def lisOk (n : Nat) (r : List Int) : Bool := decide (r.length = n) && rnkB r
def rnksB (C : List (List Int)) : Bool := C.all (lisOk (headI C))
def crkL (C : List (List Int)) : Int := if 50 < C.length then 6 else if rnksB C = true then 0 else 1
theorem crk_ok {C : List (List Int)} (h : crkL C = 0) : C.length ≤ 50 ∧ rnksB C = true := by
  unfold crkL at h
  split at h
  · omega
  · split at h
    · rename_i h1 h2; exact ⟨by omega, h2⟩
    · omega
theorem rnks_at {C : List (List Int)} (h : rnksB C = true) {r : List Int} (hr : r ∈ C) : r.length = headI C ∧ rnkB r = true := by
  unfold rnksB at h
  rw [List.all_eq_true] at h
  have := h r hr
  unfold lisOk at this
  simpa using this
set_option maxHeartbeats 2000000 in
set_option maxRecDepth 100000 in
theorem crk_any {a : Option Addr} {b off len cap : Nat} {M : List Li} {w : World} (h : SlL w a b off len cap M) (hz : ∀ r ∈ M, r.L.length ≤ 1000000) :
    Calls Tryz.prog 36 #[.slice a len cap] w fun e w' => e = .returned (.int .i64 (crkL (lis M))) ∧ Below w.heap.size w w' := by
  have hcl : (lis M).length = len := by rw [lis_len, h.sl.hl]
  have hcap := h.sl.hcap
  have hmax := h.sl.hmax
  unfold maxLen at hmax
  have HS := Lib.hid h
  have HL := Lib.hid hcl
  have HZZ := Lib.hid hz
  clear h hcl hz
  by_cases h2 : 50 < len
  · have k1 : decide ((len : Int) > 50) = true := decide_eq_true (by omega)
    have k2 : (len : Int) > 50 := by omega
    have HV := Lib.hid (show crkL (lis M) = 6 by unfold crkL; rw [HL.out, if_pos h2])
    go_enter Tryz.func36, Tryz.ntmps36
    go_wp2_with fail
    go_ret
    exact ⟨by rw [HV.out]; rfl, Below.refl _ _⟩
  · have k1 : decide ((len : Int) > 50) = false := decide_eq_false (by omega)
    have k2 : ¬ (len : Int) > 50 := by omega
    go_enter Tryz.func36, Tryz.ntmps36
    go_wp2_with fail
    go_loopw [10] (fun s10 wr => ∃ (k : Nat), k ≤ len ∧ s10 = .int .i64 (k : Int) ∧ Hid (Below w.heap.size w wr) ∧ Hid (∀ (j : Nat) (hj : j < M.length), j < k → lisOk (headI (lis M)) (M[j]'hj).L = true)) (fun s10 _ => (len - (intOf s10)).toNat)
    case atStart => exact ⟨0, Nat.zero_le _, rfl, Lib.hid (Below.refl _ _), Lib.hid (fun j _ h => absurd h (Nat.not_lt_zero j))⟩
    case round =>
      obtain ⟨k, hk, rfl, HB, HZ⟩ := hrel
      by_cases hlt : k < len
      · have l1 : (k : Int) < (len : Int) := by omega
        have l0 : 0 < len := by omega
        have l2 : (0 : Int) < (len : Int) := by omega
        obtain rfl := HS.out.sl.ha l0
        have hkM : k < M.length := by rw [HS.out.sl.hl]; exact hlt
        have h0M : 0 < M.length := by omega
        have HR := Lib.hid (HS.out.keep HB.out)
        have x1 := HR.out.sl.cell k hkM
        have x0 : wr.cell? ⟨b, off, none⟩ = some (M[0]'h0M).val := HR.out.sl.cell 0 h0M
        have hrk := ranking_any (HR.out.rows _ (List.getElem_mem hkM)) (HZZ.out _ (List.getElem_mem hkM))
        have hn0 : headI (lis M) = (M[0]'h0M).L.length := by
          unfold headI lis
          cases M with
          | nil => simp at h0M
          | cons r t => rfl
        have HBad := Lib.hid (fun (hb : lisOk (M[0]'h0M).L.length (M[k]'hkM).L = false) => (show crkL (lis M) = 1 by
          unfold crkL rnksB
          rw [if_neg (by rw [HL.out]; exact h2), if_neg]
          rw [List.all_eq_true]
          intro hall
          have := hall (M[k]'hkM).L (lis_mem (List.getElem_mem hkM))
          rw [hn0, hb] at this; cases this))
        have HNx := Lib.hid (fun (hg : lisOk (M[0]'h0M).L.length (M[k]'hkM).L = true) => (fun (j : Nat) (hj : j < M.length) (hjk : j < k + 1) => by
          by_cases e : j = k
          · subst e; rw [hn0]; exact hg
          · exact HZ.out j hj (by omega) : ∀ (j : Nat) (hj : j < M.length), j < k + 1 → lisOk (headI (lis M)) (M[j]'hj).L = true))
        unfold Li.val at x1 x0
        have hro : lisOk (M[0]'h0M).L.length (M[k]'hkM).L = (decide ((M[k]'hkM).L.length = (M[0]'h0M).L.length) && rnkB (M[k]'hkM).L) := rfl
        rw [hro] at HBad HNx
        obtain ⟨v, hv⟩ : ∃ v, rnkB (M[k]'hkM).L = v := ⟨_, rfl⟩
        rw [hv] at HBad HNx hrk
        have HRK := Lib.hid hrk
        obtain ⟨n0, h0⟩ : ∃ n, (M[0]'h0M).L.length = n := ⟨_, rfl⟩
        obtain ⟨n1, h1⟩ : ∃ n, (M[k]'hkM).L.length = n := ⟨_, rfl⟩
        obtain ⟨ra, hra⟩ : ∃ n, (M[k]'hkM).a = n := ⟨_, rfl⟩
        obtain ⟨rc, hrc⟩ : ∃ n, (M[k]'hkM).cap = n := ⟨_, rfl⟩
        obtain ⟨qa, hqa⟩ : ∃ n, (M[0]'h0M).a = n := ⟨_, rfl⟩
        obtain ⟨qc, hqc⟩ : ∃ n, (M[0]'h0M).cap = n := ⟨_, rfl⟩
        rw [h1, hra, hrc] at x1
        rw [h0, hqa, hqc] at x0
        rw [h0, h1] at HBad HNx
        rw [h1, hra, hrc] at HRK
        clear hrk hn0 HZ hro hv h0 h1 hra hrc hqa hqc HR HS HZZ
        by_cases hn : n1 = n0
        · subst hn
          have t1 : ((n1 : Int) != (n1 : Int)) = false := by simp
          cases v with
          | false =>
            have HE := Lib.hid (HBad.out (by simp))
            clear HBad HNx
            go_wp2_with fail
            refine HRK.out.mono ?_
            rintro e w2 ⟨rfl, hb⟩
            have HB2 := Lib.hid (HB.out.trans (hb.mono HB.out.size))
            clear hb HB HRK
            go_wp2_with fail
            go_ret
            exact ⟨by rw [HE.out]; rfl, HB2.out⟩
          | true =>
            have HE := Lib.hid (HNx.out (by simp))
            clear HBad HNx
            go_wp2_with fail
            refine HRK.out.mono ?_
            rintro e w2 ⟨rfl, hb⟩
            have HB2 := Lib.hid (HB.out.trans (hb.mono HB.out.size))
            clear hb HB HRK
            go_wp2_with fail
            go_roundw
            case rel => exact ⟨k + 1, by omega, by go_num, HB2, HE⟩
            case measure => simp [intOf]; omega
        · have t1 : ((n1 : Int) != (n0 : Int)) = true := by
            rw [bne_iff_ne]; omega
          have HE := Lib.hid (HBad.out (by rw [decide_eq_false hn]; rfl))
          clear HBad HNx HRK hn
          go_wp2_with fail
          go_ret
          exact ⟨by rw [HE.out]; rfl, HB.out⟩
      · obtain rfl : k = len := by omega
        have l1 : ¬ (k : Int) < (k : Int) := by omega
        have HV := Lib.hid (show crkL (lis M) = 0 by
          unfold crkL rnksB
          rw [if_neg (by rw [HL.out]; exact h2), if_pos]
          rw [List.all_eq_true]
          intro r hr
          unfold lis at hr
          obtain ⟨x, hx, rfl⟩ := List.mem_map.1 hr
          obtain ⟨j, hj, rfl⟩ := List.getElem_of_mem hx
          exact HZ.out j hj (by rw [← HS.out.sl.hl]; exact hj))
        clear HZ
        go_wp2_with fail
        go_ret
        exact ⟨by rw [HV.out]; rfl, HB.out⟩
end Go.Proofs.YtogdkgcgckdehaaGreat
