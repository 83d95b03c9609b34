/- Contracts of package fraction, twelfth part: the number of a run of digits. -/
import Derived.Test.YtfdalnkdeeminaaDoorRun
import Derived.Test.YtfdalnkdeeminaaDoorNumB
set_option linter.unusedSimpArgs false
set_option linter.unusedVariables false
namespace Go.Proofs.YtfdalnkdeeminaaDoor
open Go.RowKit

/-- the number that the digits of a list make -/
def numL (l : List UInt8) : Int := l.foldl (fun n c => n * 10 + ((c.toNat : Int) - 48)) 0
theorem numL_snoc (l : List UInt8) (c : UInt8) : numL (l ++ [c]) = numL l * 10 + ((c.toNat : Int) - 48) := by
  unfold numL; rw [List.foldl_append]; rfl
/-- all are digits -/
def AllDig (l : List UInt8) : Prop := ∀ c ∈ l, isDig c = true
theorem isDig_out {c : UInt8} (h : isDig c = true) : 48 ≤ (c.toNat : Int) ∧ (c.toNat : Int) ≤ 57 := by
  unfold isDig at h; simp at h; omega
theorem numL_bd (l : List UInt8) : AllDig l → 0 ≤ numL l ∧ numL l < 10 ^ l.length := by
  suffices h : ∀ r : List UInt8, AllDig r.reverse → 0 ≤ numL r.reverse ∧ numL r.reverse < 10 ^ r.length by
    intro ha
    have := h l.reverse (by simpa using ha)
    simpa using this
  intro r
  induction r with
  | nil => intro _; simp [numL]
  | cons c r ih =>
    intro ha
    rw [List.reverse_cons] at ha ⊢
    rw [numL_snoc]
    have h1 := ih (fun x hx => ha x (List.mem_append_left _ hx))
    have h2 := isDig_out (ha c (by simp))
    rw [List.length_cons, Int.pow_succ]
    omega
theorem pow19 (k : Nat) (h : k ≤ 19) : (10 : Int) ^ k ≤ 10000000000000000000 := by
  revert h; revert k; decide
theorem numL_64 (l : List UInt8) (h : AllDig l) (hl : l.length ≤ 19) : 0 ≤ numL l ∧ numL l ≤ 9999999999999999999 := by
  have := numL_bd l h
  have := pow19 _ hl
  omega
theorem AllDig_take {l : List UInt8} (h : AllDig l) (k : Nat) : AllDig (l.take k) := fun c hc => h c (List.mem_of_mem_take hc)

set_option maxHeartbeats 1000000 in
theorem number_any (s : ByteArray) (w : World) (hs : s.size ≤ 19) (hd : AllDig s.data.toList) :
    Calls Tryd.prog 64 #[.string s] w fun e w' => e = .returned (.int .u64 (numL s.data.toList)) ∧ w = w' := by
  have HD := Lib.hid hd
  clear hd
  go_enter Tryd.func64, Tryd.ntmps64
  go_wp2
  go_loop [3, 7] (fun s3 s7 => ∃ k : Nat, k ≤ s.size ∧ s3 = .int .u64 (numL (s.data.toList.take k)) ∧ s7 = .int .i64 k) (fun _ s7 => s.size - (intOf s7).toNat)
  case atStart => exact ⟨0, Nat.zero_le _, rfl, rfl⟩
  case round =>
    obtain ⟨k, hk, rfl, rfl⟩ := hrel
    by_cases hlt : k < s.size
    · obtain ⟨b1, b2⟩ := numL_64 (s.data.toList.take k) (AllDig_take HD.out k) (by rw [List.length_take]; omega)
      have b3 := numL_64 (s.data.toList.take (k + 1)) (AllDig_take HD.out (k + 1)) (by rw [List.length_take]; omega)
      have hc := isDig_out (HD.out (s[k]) (by rw [← getS s k hlt]; exact List.getElem_mem _))
      have e : numL (s.data.toList.take (k + 1)) = numL (s.data.toList.take k) * 10 + ((s[k].toNat : Int) - 48) := by
        rw [List.take_succ_eq_append_getElem (by simpa using hlt), numL_snoc]; rfl
      rw [e] at b3
      have HE := Lib.hid e
      clear e
      obtain ⟨b4, b5⟩ := b3
      obtain ⟨c1, c2⟩ := hc
      have b6 : numL (s.data.toList.take k) * 10 ≤ 18446744073709551615 := by omega
      generalize numL (s.data.toList.take k) = N at *
      go_wp2
      go_round
      case rel => exact ⟨k + 1, by omega, by rw [HE.out], by go_num⟩
      case measure => simp [intOf]; omega
    · have HK := Lib.hid (show s.data.toList.take k = s.data.toList from List.take_of_length_le (by rw [show s.data.toList.length = s.size from rfl]; omega))
      go_wp2
      go_ret
      rw [HK.out]
      exact ⟨rfl, rfl⟩
end Go.Proofs.YtfdalnkdeeminaaDoor
