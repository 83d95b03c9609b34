/- The reference's reading of digits; what both ways of reading a text make: plain facts. -/
import Derived.Test.YtfdalnkdeeminaaDoorTxtB
set_option linter.unusedSimpArgs false
set_option linter.unusedVariables false
namespace Go.Proofs.YtfdalnkdeeminaaDoor
open Go.RowKit

def digOk (l : List UInt8) : Bool := decide (1 ≤ l.length ∧ l.length ≤ 19) && l.all isDig
theorem digOk_all {l : List UInt8} (h : digOk l = true) : AllDig l ∧ 1 ≤ l.length ∧ l.length ≤ 19 := by
  unfold digOk at h
  simp only [Bool.and_eq_true, decide_eq_true_eq, List.all_eq_true] at h
  exact ⟨h.2, h.1⟩
theorem digOk_mk {l : List UInt8} (h : AllDig l) (h1 : 1 ≤ l.length) (h2 : l.length ≤ 19) : digOk l = true := by
  unfold digOk
  simp only [Bool.and_eq_true, decide_eq_true_eq, List.all_eq_true]
  exact ⟨⟨h1, h2⟩, h⟩

set_option maxHeartbeats 1000000 in
/-- the reference's digits -/
theorem rdigits_any (s : ByteArray) (w : World) (hs : s.size ≤ 100) :
    Calls Tryd.prog 67 #[.string s] w fun e w' => e = .returned (.tuple #[.int .u64 (if digOk s.data.toList = true then numL s.data.toList else 0), .bool (digOk s.data.toList)]) ∧ w = w' := by
  have hlen : s.data.toList.length = s.size := rfl
  by_cases h1 : s.size < 1
  · have e : digOk s.data.toList = false := by unfold digOk; rw [hlen, decide_eq_false (by omega)]; rfl
    rw [e]
    have h1' : (s.size : Int) < 1 := by omega
    clear h1 hlen e
    go_enter Tryd.func67, Tryd.ntmps67
    go_wp2
    go_ret2
    exact ⟨rfl, rfl⟩
  by_cases h2 : 19 < s.size
  · have e : digOk s.data.toList = false := by unfold digOk; rw [hlen, decide_eq_false (by omega)]; rfl
    rw [e]
    have h1' : ¬ (s.size : Int) < 1 := by omega
    have h2' : (19 : Int) < s.size := by omega
    clear h1 h2 hlen e
    go_enter Tryd.func67, Tryd.ntmps67
    go_wp2
    go_ret2
    exact ⟨rfl, rfl⟩
  have h1' : ¬ (s.size : Int) < 1 := by omega
  have h2' : ¬ (19 : Int) < s.size := by omega
  have H1 := Lib.hid h1
  have H2 := Lib.hid h2
  clear h1 h2 hlen
  generalize hN0 : (if digOk s.data.toList = true then numL s.data.toList else 0) = N0
  generalize hB : digOk s.data.toList = B at *
  have HN0 := Lib.hid hN0
  have HB := Lib.hid hB
  clear hN0 hB
  go_enter Tryd.func67, Tryd.ntmps67
  go_wp2
  go_loop [4, 5] (fun s4 s5 => ∃ k : Nat, k ≤ s.size ∧ AllDig (s.data.toList.take k) ∧ s4 = .int .u64 (numL (s.data.toList.take k)) ∧ s5 = .int .i64 k) (fun _ s5 => s.size - (intOf s5).toNat)
  case atStart => exact ⟨0, Nat.zero_le _, (fun c hc => by simp at hc), rfl, rfl⟩
  case round =>
    obtain ⟨k, hk, hall, rfl, rfl⟩ := hrel
    have HA := Lib.hid hall
    clear hall
    by_cases hlt : k < s.size
    · have et : s.data.toList.take (k + 1) = s.data.toList.take k ++ [s[k]] := by
        rw [List.take_succ_eq_append_getElem (by simpa using hlt)]; rfl
      by_cases hd : isDig (s[k]) = true
      · obtain ⟨c1, c2⟩ := isDig_out hd
        have hall2 : AllDig (s.data.toList.take (k + 1)) := by
          rw [et]
          intro c hc
          rcases List.mem_append.1 hc with h | h
          · exact HA.out c h
          · rw [List.mem_singleton.1 h]; exact hd
        obtain ⟨b1, b2⟩ := numL_64 (s.data.toList.take k) HA.out (by rw [List.length_take]; have := H2.out; omega)
        have b3 := numL_64 (s.data.toList.take (k + 1)) hall2 (by rw [List.length_take]; have := H2.out; omega)
        have e : numL (s.data.toList.take (k + 1)) = numL (s.data.toList.take k) * 10 + ((s[k].toNat : Int) - 48) := by rw [et, numL_snoc]
        rw [e] at b3
        have HE := Lib.hid e
        have HA2 := Lib.hid hall2
        obtain ⟨b4, b5⟩ := b3
        have b6 : 10 * numL (s.data.toList.take k) ≤ 18446744073709551615 := by omega
        have b7 : ¬ (s[k].toNat : Int) < 48 := by omega
        have b8 : ¬ (57 : Int) < (s[k].toNat : Int) := by omega
        clear e hall2 et hd
        generalize numL (s.data.toList.take k) = N at *
        go_wp2
        go_round
        case rel => exact ⟨k + 1, by omega, HA2.out, by rw [HE.out, Int.mul_comm], by go_num⟩
        case measure => simp [intOf]; omega
      · have HN : Hid (digOk s.data.toList = false) := by
          show digOk s.data.toList = false
          rw [← Bool.not_eq_true]
          intro h
          exact hd ((digOk_all h).1 (s[k]) (by rw [← getS s k hlt]; exact List.getElem_mem _))
        have hd' : ¬ (48 ≤ (s[k].toNat : Int) ∧ (s[k].toNat : Int) ≤ 57) := by
          intro h
          apply hd
          unfold isDig
          simp only [decide_eq_true_eq]
          omega
        clear hd et
        by_cases h48 : (s[k].toNat : Int) < 48
        · clear hd'
          go_wp2
          go_ret2
          have eB : B = false := HB.out.symm.trans HN.out
          have eN : N0 = 0 := by have := HN0.out; rw [eB] at this; exact this.symm
          exact ⟨by rw [eB, eN]; rfl, rfl⟩
        · have h57 : (57 : Int) < (s[k].toNat : Int) := by omega
          clear hd'
          go_wp2
          go_ret2
          have eB : B = false := HB.out.symm.trans HN.out
          have eN : N0 = 0 := by have := HN0.out; rw [eB] at this; exact this.symm
          exact ⟨by rw [eB, eN]; rfl, rfl⟩
    · have HK := Lib.hid (show s.data.toList.take k = s.data.toList from List.take_of_length_le (by rw [show s.data.toList.length = s.size from rfl]; omega))
      have HD : Hid (digOk s.data.toList = true) := by
        refine digOk_mk ?_ ?_ ?_
        · have := HA.out; rw [HK.out] at this; exact this
        · have := H1.out; show 1 ≤ s.size; omega
        · have := H2.out; show s.size ≤ 19; omega
      go_wp2
      go_ret2
      have eB : B = true := HB.out.symm.trans HD.out
      have eN : N0 = numL (s.data.toList.take k) := by have := HN0.out; rw [eB] at this; rw [HK.out]; exact this.symm
      exact ⟨by rw [eB, eN]; rfl, rfl⟩

/-- where the reference cuts -/
def cutAt : List UInt8 → Nat
  | [] => 0
  | c :: l => if c.toNat = 47 ∨ c.toNat = 46 then 0 else cutAt l + 1
theorem cutAt_le (l : List UInt8) : cutAt l ≤ l.length := by
  induction l with
  | nil => simp [cutAt]
  | cons c l ih => unfold cutAt; split <;> simp <;> omega
theorem cutAt_not (l : List UInt8) (k : Nat) (h : k < cutAt l) (hk : k < l.length) : ¬ ((l[k]'hk).toNat = 47 ∨ (l[k]'hk).toNat = 46) := by
  induction l generalizing k with
  | nil => simp [cutAt] at h
  | cons c l ih =>
    unfold cutAt at h
    split at h
    · omega
    · rename_i hc
      cases k with
      | zero => exact hc
      | succ k => exact ih k (by omega) (by simpa using hk)
theorem cutAt_end (l : List UInt8) (hk : cutAt l < l.length) : (l[cutAt l]'hk).toNat = 47 ∨ (l[cutAt l]'hk).toNat = 46 := by
  induction l with
  | nil => simp at hk
  | cons c l ih =>
    by_cases hc : c.toNat = 47 ∨ c.toNat = 46
    · have e : cutAt (c :: l) = 0 := by rw [cutAt, if_pos hc]
      simp only [e]
      exact hc
    · have e : cutAt (c :: l) = cutAt l + 1 := by rw [cutAt, if_neg hc]
      simp only [e, List.length_cons] at hk ⊢
      exact ih (by omega)

/-- what the reference's Parse returns, of the text behind the sign -/
def rparseL (neg : Bool) (l : List UInt8) : Int × Int × Int :=
  if digOk (l.take (cutAt l)) = true then
    match l.drop (cutAt l) with
    | [] => bndI (neg && decide (0 < numL (l.take (cutAt l)))) (numL (l.take (cutAt l))) 1
    | c :: q =>
      if digOk q = true then
        if c.toNat = 47 then (if numL q = 0 then (0, 0, 1) else bndI (neg && decide (0 < numL (l.take (cutAt l)))) (numL (l.take (cutAt l))) (numL q))
        else if 18 < cutAt l + q.length then (0, 0, 2)
        else bndI (neg && decide (0 < numL (l.take (cutAt l)) * pw10 (q.length : Nat) + numL q)) (numL (l.take (cutAt l)) * pw10 (q.length : Nat) + numL q) (pw10 (q.length : Nat))
      else (0, 0, 2)
  else (0, 0, 2)

theorem bnd_pos (neg : Bool) (a d : Int) (h : 0 ≤ a) : bndI (neg && decide (0 < a)) a d = bndI neg a d := by
  by_cases h0 : 0 < a
  · rw [decide_eq_true h0, Bool.and_true]
  · have : a = 0 := by omega
    subst this
    unfold bndI sg
    cases neg <;> simp
theorem numL_append (l : List UInt8) (r : List UInt8) : numL (l ++ r) = numL l * pw10 (r.length : Nat) + numL r := by
  suffices h : ∀ r : List UInt8, numL (l ++ r.reverse) = numL l * pw10 (r.length : Nat) + numL r.reverse by
    have := h r.reverse
    simpa using this
  intro r
  induction r with
  | nil => simp [pw10, numL]
  | cons c r ih =>
    rw [List.reverse_cons, ← List.append_assoc, numL_snoc, numL_snoc, ih, List.length_cons]
    rw [show ((r.length + 1 : Nat) : Int) = (r.length : Int) + 1 from by omega, pw10_succ _ (by omega), ← Int.mul_assoc, Int.add_mul]
    omega
theorem runL_take (l : List UInt8) (n : Nat) (hn : n ≤ l.length) (h : AllDig (l.take n)) (he : n = l.length ∨ ∃ h : n < l.length, isDig (l[n]'h) = false) : runL l = n := by
  induction l generalizing n with
  | nil => simp at hn; subst hn; rfl
  | cons c l ih =>
    cases n with
    | zero =>
      rcases he with he | ⟨h1, h2⟩
      · simp at he
      · have h3 : isDig c = false := h2
        unfold runL
        rw [h3]
        rfl
    | succ n =>
      have hc : isDig c = true := h c (by simp)
      unfold runL
      rw [if_pos hc, ih n (by simpa using hn) (fun x hx => h x (by simp [hx])) ?_]
      rcases he with he | ⟨h1, h2⟩
      · exact Or.inl (by simpa using he)
      · exact Or.inr ⟨by simpa using h1, h2⟩
theorem dig_no {c : UInt8} (h : c.toNat = 47 ∨ c.toNat = 46) : isDig c = false := by
  unfold isDig
  rw [decide_eq_false]
  omega
theorem run_le_cut (l : List UInt8) : runL l ≤ cutAt l := by
  induction l with
  | nil => exact Nat.le_refl _
  | cons c l ih =>
    unfold runL cutAt
    split
    · rename_i hc
      rw [if_neg (fun h => by rw [dig_no h] at hc; cases hc)]
      omega
    · omega
theorem runL_self {q : List UInt8} (h : AllDig q) : runL q = q.length := runL_take q q.length (Nat.le_refl _) (by rw [List.take_length]; exact h) (Or.inl rfl)
theorem parse_same (neg : Bool) (l : List UInt8) : rparseL neg l = parseL neg l := by
  have hcl := cutAt_le l
  unfold rparseL parseL
  by_cases h : digOk (l.take (cutAt l)) = true
  · rw [if_pos h]
    obtain ⟨d1, d2, d3⟩ := digOk_all h
    rw [List.length_take, Nat.min_eq_left hcl] at d2 d3
    have hr : runL l = cutAt l := by
      refine runL_take l _ hcl d1 ?_
      by_cases hlt : cutAt l < l.length
      · exact Or.inr ⟨hlt, dig_no (cutAt_end l hlt)⟩
      · exact Or.inl (by omega)
    rw [hr, if_pos ⟨d2, d3⟩]
    have n0 := (numL_bd _ d1).1
    cases hd : l.drop (cutAt l) with
    | nil => exact bnd_pos _ _ _ n0
    | cons c q =>
      have hlt : cutAt l < l.length := by
        have := congrArg List.length hd
        rw [List.length_drop, List.length_cons] at this
        omega
      have hc : c.toNat = 47 ∨ c.toNat = 46 := by
        have h1 := cutAt_end l hlt
        have h2 := List.drop_eq_getElem_cons hlt
        rw [hd] at h2
        have h3 : c = l[cutAt l] := (List.cons.inj h2).1
        rw [← h3] at h1
        exact h1
      simp only
      by_cases hq : digOk q = true
      · obtain ⟨q1, q2, q3⟩ := digOk_all hq
        have hrq := runL_self q1
        have m0 := (numL_bd _ q1).1
        rw [if_pos hq, hrq, List.take_length, List.drop_length, if_pos (show 1 ≤ q.length ∧ q.length ≤ 19 ∧ ([] : List UInt8) = [] from ⟨q2, q3, rfl⟩)]
        by_cases h47 : c.toNat = 47
        · rw [if_pos h47, if_pos h47, bnd_pos _ _ _ n0]
        · rw [if_neg h47, if_neg h47, if_pos (by omega : c.toNat = 46)]
          by_cases h18 : 18 < cutAt l + q.length
          · rw [if_pos h18, if_pos h18]
          · rw [if_neg h18, if_neg h18, ← numL_append, bnd_pos]
            refine (numL_bd _ ?_).1
            intro x hx
            rcases List.mem_append.1 hx with h' | h'
            · exact d1 x h'
            · exact q1 x h'
      · rw [if_neg hq, if_neg]
        rintro ⟨h1, h2, h3⟩
        apply hq
        have hl : runL q = q.length := by
          have := runL_le q
          have h4 := List.drop_eq_nil_iff.1 h3
          omega
        refine digOk_mk ?_ (by omega) (by omega)
        have := runL_all q
        rw [hl, List.take_length] at this
        exact this
  · rw [if_neg h]
    have hle := run_le_cut l
    by_cases h1 : 1 ≤ runL l ∧ runL l ≤ 19
    · rw [if_pos h1]
      have hne : runL l < cutAt l := by
        rcases Nat.lt_or_ge (runL l) (cutAt l) with h' | h'
        · exact h'
        · exfalso
          have e : cutAt l = runL l := by omega
          apply h
          rw [e]
          refine digOk_mk (runL_all l) ?_ ?_ <;> rw [List.length_take] <;> omega
      have hlt : runL l < l.length := by omega
      have hnot := cutAt_not l _ hne hlt
      rw [List.drop_eq_getElem_cons hlt]
      simp only
      generalize l[runL l] = c at *
      split
      · rw [if_neg (fun h' => hnot (Or.inl h')), if_neg (fun h' => hnot (Or.inr h'))]
      · rfl
    · rw [if_neg h1]
end Go.Proofs.YtfdalnkdeeminaaDoor
