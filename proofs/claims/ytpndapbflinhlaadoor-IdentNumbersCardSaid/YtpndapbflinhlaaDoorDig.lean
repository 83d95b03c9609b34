/- Contract of layer 4: the law's digits. -/
import Derived.Test.YtpndapbflinhlaaDoorAwake
set_option linter.unusedSimpArgs false
set_option linter.unusedVariables false
namespace Go.Proofs.YtpndapbflinhlaaDoor
open Go.RowKit

theorem conv_one (c : UInt8) (W : World) (g : Nat) (x : Int) (hx : x = (c.toNat : Int)) (h : W.cell? ⟨g, 0, none⟩ = some (.int .u8 x)) :
    (convert 58 9 (.slice (some ⟨g, 0, none⟩) 1 1)).run Tryd.prog W = .ok (.string (bs [c])) W := by
  refine run_convert_bytes_back W 58 9 5 ⟨g, 0, none⟩ 1 [c] Tryd.underlying58 Tryd.underlying5 Tryd.underlying9 (fun j hj => ?_)
  obtain rfl : j = 0 := by simpa using hj
  have e : ((⟨g, 0, none⟩ : Addr).add 0) = ⟨g, 0, none⟩ := rfl
  rw [e, h, hx]
  rfl
set_option maxHeartbeats 1000000 in
set_option maxRecDepth 100000 in
theorem digits_one (n : Nat) (h : n < 10) (w : World) :
    Calls Tryd.prog 39 #[.int .i64 (n : Int)] w fun e w' => e = .returned (.string (bs [UInt8.ofNat (48 + n)])) ∧ Below w.heap.size w w' := by
  have l1 : (n : Int) < 10 := by omega
  obtain ⟨c, hc⟩ : ∃ c, UInt8.ofNat (48 + n) = c := ⟨_, rfl⟩
  have hcv := fun (W : World) (g : Nat) => conv_one c W g (48 + (n : Int)) (by rw [← hc, toNat48 n h]; omega)
  rw [hc]
  clear hc
  go_enter Tryd.func39, Tryd.ntmps39
  go_wp2
  go_ret
  exact ⟨rfl, (by repeat (first | with_reducible exact Below.refl _ _ | (with_reducible refine Below.setCell ?_ (by first | exact Nat.le_refl _ | omega | (simp; done) | (simp; omega)) _) | (with_reducible refine Below.alloc ?_ (by first | exact Nat.le_refl _ | omega | (simp; done) | (simp; omega)) _) | with_reducible refine Below.drew ?_ | with_reducible refine bel_drewN ?_ _ | (with_reducible refine bel_by (by with_reducible assumption) (by first | exact Nat.le_refl _ | omega | (simp; done) | (simp; omega)) ?_)))⟩
theorem decF_len : ∀ (f n : Nat), (decF f n).length ≤ f + 1
  | 0, n => by simp [decF]
  | f + 1, n => by
    unfold decF
    split
    · simp
    · have := decF_len f (n / 10)
      simp; omega
theorem bs_inj {a b : ByteArray} (h : a.data.toList = b.data.toList) : a = b := by
  rw [← bs_list a, ← bs_list b, h]
theorem bs_append (x y : List UInt8) : bs x ++ bs y = bs (x ++ y) := by
  apply bs_inj
  unfold bs
  simp
set_option maxHeartbeats 1000000 in
set_option maxRecDepth 100000 in
theorem digits_any (f : Nat) : f ≤ 100 → ∀ (n : Nat) (w : World), n < 10 ^ (f + 1) → n ≤ 1000000000 →
    Calls Tryd.prog 39 #[.int .i64 (n : Int)] w fun e w' => e = .returned (.string (bs (decF f n))) ∧ Below w.heap.size w w' := by
  induction f with
  | zero =>
    intro _ n w h _
    have h2 : n < 10 := by simpa using h
    have := digits_one n h2 w
    rw [show [UInt8.ofNat (48 + n)] = decF 0 n by unfold decF; rw [Nat.mod_eq_of_lt h2]] at this
    exact this
  | succ f ih =>
    intro hf n w h hb
    by_cases hn : n < 10
    · have := digits_one n hn w
      rw [show [UInt8.ofNat (48 + n)] = decF (f + 1) n by unfold decF; rw [if_pos hn]] at this
      exact this
    · have l1 : ¬ (n : Int) < 10 := by omega
      have HE := Lib.hid (show decF (f + 1) n = decF f (n / 10) ++ [UInt8.ofNat (48 + n % 10)] by rw [decF, if_neg hn])
      have HI := Lib.hid (fun W => ih (by omega) (n / 10) W (by rw [Nat.pow_succ] at h; omega) (by omega))
      clear ih h
      have e1 : IntKind.i64.wrap ((n : Int).tdiv 10) = ((n / 10 : Nat) : Int) := by
        rw [Int.tdiv_eq_ediv_of_nonneg (by omega)]
        rw [IntWalk.i64_in _ (by omega)]
        omega
      have e1b : IntKind.i64.wrap ((n : Int) / 10) = ((n / 10 : Nat) : Int) := by
        rw [IntWalk.i64_in _ (by omega)]
        omega
      have e2 : (n : Int).tmod 10 = ((n % 10 : Nat) : Int) := by
        rw [Int.tmod_eq_emod_of_nonneg (by omega)]
        omega
      have e3 : IntKind.i64.wrap (48 + ((n % 10 : Nat) : Int)) = 48 + ((n % 10 : Nat) : Int) := IntWalk.i64_in _ (by omega)
      have e4 : IntKind.u8.wrap (48 + ((n % 10 : Nat) : Int)) = 48 + ((n % 10 : Nat) : Int) := IntWalk.u8_in _ (by omega)
      obtain ⟨c, hc⟩ : ∃ c, UInt8.ofNat (48 + n % 10) = c := ⟨_, rfl⟩
      have hcv := fun (W : World) (g : Nat) => conv_one c W g (48 + ((n % 10 : Nat) : Int)) (by rw [← hc, toNat48 (n % 10) (by omega)]; omega)
      rw [hc] at HE
      clear hc
      have HA := Lib.hid (bs_append (decF f (n / 10)) [c])
      obtain ⟨D, hD⟩ : ∃ D, decF f (n / 10) = D := ⟨_, rfl⟩
      have hs1 : (bs D).size ≤ 200 := by rw [bs_size, ← hD]; have := decF_len f (n / 10); omega
      have ht1 : (bs [c]).size ≤ 200 := by rw [bs_size]; simp
      rw [hD] at HE HI HA
      clear hD
      obtain ⟨t, ht⟩ : ∃ t, bs [c] = t := ⟨_, rfl⟩
      obtain ⟨s, hs⟩ : ∃ s, bs D = s := ⟨_, rfl⟩
      simp only [hs, ht] at hs1 ht1 HI HA hcv
      clear hs ht
      generalize n / 10 = q at *
      generalize n % 10 = m at *
      go_enter Tryd.func39, Tryd.ntmps39
      go_wp2_with fail
      go_region_with (go_at_call 39; refine (HI.out _).mono ?_; rintro e w1 ⟨rfl, hb1⟩; obtain ⟨hc1, hf1⟩ := bcell hb1; have hz1 := bsize hb1; (try simp at hz1))
      all_goals (go_wp2_with fail)
      all_goals go_ret
      all_goals exact ⟨by rw [HE.out, ← HA.out]; rfl, (by repeat (first | with_reducible exact Below.refl _ _ | (with_reducible refine Below.setCell ?_ (by first | exact Nat.le_refl _ | omega | (simp; done) | (simp; omega)) _) | (with_reducible refine Below.alloc ?_ (by first | exact Nat.le_refl _ | omega | (simp; done) | (simp; omega)) _) | with_reducible refine Below.drew ?_ | with_reducible refine bel_drewN ?_ _ | (with_reducible refine bel_by (by with_reducible assumption) (by first | exact Nat.le_refl _ | omega | (simp; done) | (simp; omega)) ?_)))⟩
end Go.Proofs.YtpndapbflinhlaaDoor
