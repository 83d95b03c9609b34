/- Contract of layer 9's reference: Token. -/
import Derived.Test.YtiofekoadjgjdaaGreatDoorRefB
import Derived.Test.YtiofekoadjgjdaaGreatDoorRefC
import Derived.Test.YtiofekoadjgjdaaGreatDoorRead
set_option linter.unusedSimpArgs false
set_option linter.unusedVariables false
namespace Go.Proofs.YtiofekoadjgjdaaGreatDoor
open Go.RowKit

theorem wrd_pt (c : UInt8) : wrdB c = (runB c && (c != 46)) :=
  eq_of_beq (all_u8 (P := fun c => wrdB c == (runB c && (c != 46))) (by decide +kernel) c)
theorem run_wrds : ∀ {l : List UInt8}, (∀ c ∈ l, runB c = true) → l.all wrdB = !pntB l
  | [], _ => rfl
  | c :: t, h => by
    have ih := run_wrds (l := t) (fun d hd => h d (by simp [hd]))
    have hc := h c (by simp)
    rw [List.all_cons, ih, wrd_pt, hc]
    unfold pntB
    rw [List.contains_cons]
    have : ((46 : UInt8) == c) = (c == 46) := by
      rw [Bool.eq_iff_iff, beq_iff_eq, beq_iff_eq]
      exact eq_comm
    rw [this]
    unfold bne
    cases (c == 46) <;> simp
theorem letters_no {l : List UInt8} (hl : l.any letB = true) : numOk l = false := by
  cases h : numOk l with
  | false => rfl
  | true =>
    unfold numOk at h
    rw [Bool.and_eq_true, Bool.and_eq_true] at h
    obtain ⟨⟨h1, _⟩, h2⟩ := h
    obtain ⟨_, w⟩ := digs_out h1
    obtain ⟨c, hc, hcl⟩ := List.any_eq_true.1 hl
    have hd : c ∈ whoL l ∨ c ∈ l.dropWhile (· != 46) := by
      have := List.takeWhile_append_dropWhile (p := (· != 46)) (l := l)
      rw [← this] at hc
      exact List.mem_append.1 hc
    rcases hd with hd | hd
    · rw [dig_let c (w c hd)] at hcl
      exact absurd hcl (by decide)
    · cases hp : pntB l with
      | false =>
        rw [(no_byte hp).2] at hd
        simp at hd
      | true =>
        rw [hp] at h2
        have h3 : digsB (fraL l) = true := by
          simp at h2; exact h2.1
        obtain ⟨_, f⟩ := digs_out h3
        have hcase : c = 46 ∨ c ∈ fraL l := by
          unfold fraL
          cases hdw : l.dropWhile (· != 46) with
          | nil => rw [hdw] at hd; simp at hd
          | cons b r =>
            rw [hdw] at hd
            rcases List.mem_cons.1 hd with rfl | hd
            · left
              have hx := List.head?_dropWhile_not (p := (· != 46)) (l := l)
              rw [hdw] at hx
              simpa using hx
            · right; exact hd
        rcases hcase with rfl | hf
        · exact absurd hcl (by decide)
        · rw [dig_let c (f c hf)] at hcl
          exact absurd hcl (by decide)
theorem runR_ref {l : List UInt8} (h : ∀ c ∈ l, runB c = true) : runR l = if l.any letB then (if pntB l then tokE 2 else if 32 < l.length then tokE 6 else (⟨1, bs l, 0, 0⟩, l.length, 0)) else if (numS l).2 = 0 then (⟨2, bs [], (numS l).1, 0⟩, l.length, 0) else tokE (numS l).2 := by
  have hw : wordB l = (l.any letB && !pntB l) := by unfold wordB; rw [run_wrds h]
  unfold runR
  rw [hw]
  cases h1 : l.any letB with
  | false => rfl
  | true =>
    cases h2 : pntB l with
    | false => rfl
    | true =>
      have : numS l = (0, 2) := by unfold numS; rw [letters_no h1]; rfl
      rw [this]
      rfl
/-- where a string stops: at the quotation mark, at a line break, at the end -/
def stpB (c : UInt8) : Bool := c != 34 && c != 10
theorem titE_line {l : List UInt8} (h : (10 : UInt8) ∈ l) : titE l = 2 := by
  unfold titE
  have : l.all titB = false := by
    rw [Bool.eq_false_iff]
    intro ha
    have := List.all_eq_true.1 ha 10 h
    exact absurd this (by decide)
  rw [this]
  split <;> rfl
theorem strR_ref (t : List UInt8) : ((t.takeWhile stpB).length = t.length → strR t = tokE 2) ∧
    (∀ c, t[(t.takeWhile stpB).length]? = some c → (c ≠ 34 → strR t = tokE 2) ∧ (c = 34 → strR t = if titE (t.takeWhile stpB) = 0 then (⟨3, bs (t.takeWhile stpB), 0, 0⟩, (t.takeWhile stpB).length + 2, 0) else tokE (titE (t.takeWhile stpB)))) := by
  have hle : (t.takeWhile stpB).length ≤ t.length := (List.takeWhile_sublist _).length_le
  have hall : ∀ c ∈ t.takeWhile stpB, stpB c = true := List.all_eq_true.1 (List.all_takeWhile (p := stpB) (l := t))
  have hne : ∀ c ∈ t.takeWhile stpB, (c != 34) = true := fun c hc => by
    have := hall c hc
    unfold stpB at this
    rw [Bool.and_eq_true] at this
    exact this.1
  have htk := (tw_take stpB t).1
  refine ⟨fun h => ?_, fun c hc => ⟨fun h34 => ?_, fun h34 => ?_⟩⟩
  · rw [h, List.take_length] at htk
    rw [← htk] at hne
    have hq : quoL t = t := by
      have := tw_app (r := []) hne (by simp)
      rw [List.append_nil] at this
      exact this
    unfold strR
    rw [if_pos (by rw [hq])]
  · obtain ⟨hlt, hg⟩ := List.getElem?_eq_some_iff.1 hc
    obtain ⟨d, hd1, hd2⟩ := tw_end stpB t hlt
    rw [hc] at hd1
    obtain rfl := Option.some.inj hd1
    have h10 : c = 10 := by
      unfold stpB at hd2
      have h1 : (c != 34) = true := by simpa using h34
      rw [h1, Bool.true_and] at hd2
      simpa using hd2
    subst h10
    have hsplit : t = t.takeWhile stpB ++ 10 :: t.drop ((t.takeWhile stpB).length + 1) := by
      conv => lhs; rw [← List.take_append_drop (t.takeWhile stpB).length t, htk, List.drop_eq_getElem_cons hlt, hg]
    have hmem : (10 : UInt8) ∈ quoL t := by
      unfold quoL
      rw [hsplit, List.takeWhile_append_of_pos hne, List.takeWhile_cons_of_pos (by decide)]
      simp
    unfold strR
    split
    · rfl
    · rw [titE_line hmem]; rfl
  · subst h34
    obtain ⟨hlt, hg⟩ := List.getElem?_eq_some_iff.1 hc
    have hsplit : t = t.takeWhile stpB ++ 34 :: t.drop ((t.takeWhile stpB).length + 1) := by
      conv => lhs; rw [← List.take_append_drop (t.takeWhile stpB).length t, htk, List.drop_eq_getElem_cons hlt, hg]
    have hq : quoL t = t.takeWhile stpB := by
      unfold quoL
      conv => lhs; rw [hsplit, List.takeWhile_append_of_pos hne, List.takeWhile_cons_of_neg (by decide), List.append_nil]
    unfold strR
    rw [hq, if_neg (by omega)]
def tokR (l : List UInt8) (p : Nat) : Tk × Nat × Int := if (readL l).2.2 = 0 then ({ (readL l).1 with a := (p : Int) }, p + (readL l).2.1, 0) else (noTk, 0, (readL l).2.2)
/-- a run of bytes from an offset -/
theorem run_at (g : UInt8 → Bool) (s : ByteArray) (p : Nat) (hp : p ≤ s.size) : ∃ q, p ≤ q ∧ q ≤ s.size ∧ q = p + ((s.data.toList.drop p).takeWhile g).length ∧ s.extract p q = bs ((s.data.toList.drop p).takeWhile g) ∧
    (∀ (j : Nat) (h : j < s.size), p ≤ j → j < q → g (s[j]'h) = true) ∧ (∀ h : q < s.size, g (s[q]'h) = false) := by
  have hle : ((s.data.toList.drop p).takeWhile g).length ≤ (s.data.toList.drop p).length := (List.takeWhile_sublist g).length_le
  rw [List.length_drop, list_size] at hle
  refine ⟨_, Nat.le_add_right _ _, by omega, rfl, ?_, fun j h h1 h2 => ?_, fun h => ?_⟩
  · refine (bs_of ?_).symm
    rw [ext_list, Nat.add_sub_cancel_left]
    exact (tw_take g _).1
  · obtain ⟨c, e1, e2⟩ := tw_get g (s.data.toList.drop p) (j - p) (by omega)
    rw [List.getElem?_drop, show p + (j - p) = j by omega, list_get s j h] at e1
    rw [Option.some.inj e1]
    exact e2
  · obtain ⟨c, e1, e2⟩ := tw_end g (s.data.toList.drop p) (by rw [List.length_drop, list_size]; omega)
    rw [List.getElem?_drop, list_get s _ h] at e1
    rw [Option.some.inj e1]
    exact e2
set_option maxHeartbeats 4000000 in
set_option maxRecDepth 100000 in
theorem rtoken_any (s : ByteArray) (hs : s.size ≤ 100000) (p : Nat) (hp : p ≤ s.size) (w : World) : Calls Tryz.prog 50 #[.string s, .int .i64 (p : Int)] w fun e w' => e = .returned (resV (tokR (s.data.toList.drop p) p)) ∧ Below w.heap.size w w' := by
  by_cases hpe : p = s.size
  · subst hpe
    have HR := Lib.hid (show tokR (s.data.toList.drop s.size) s.size = (⟨5, bs [], 0, (s.size : Int)⟩, s.size, 0) by
      rw [drop_end s _ (Nat.le_refl _)]; rfl)
    have k0 : (((s.size : Int)) == (s.size : Int)) = true := by simp
    go_enter Tryz.func50, Tryz.ntmps50
    go_wp2_with fail
    refine bodyPost_ret (v := resV (⟨5, bs [], 0, (s.size : Int)⟩, s.size, 0)) (by simp [results, Tryz.results50, go_sem, resV, Tk.val, bs]) rfl ⟨by rw [HR.out], (by repeat (first | with_reducible exact Below.refl _ _ | (with_reducible refine Below.setCell ?_ (by first | exact Nat.le_refl _ | omega | (simp; done) | (simp; omega)) _) | (with_reducible refine Below.alloc ?_ (by first | exact Nat.le_refl _ | omega | (simp; done) | (simp; omega)) _) | with_reducible refine Below.drew ?_ | with_reducible refine bel_drewN ?_ _ | (with_reducible refine bel_by (by with_reducible assumption) (by first | exact Nat.le_refl _ | omega | (simp; done) | (simp; omega)) ?_)))⟩
  · have hps : p < s.size := by omega
    have hpi : (p : Int) < (s.size : Int) := by omega
    have k0 : (((p : Int)) == (s.size : Int)) = false := by rw [beq_eq_false_iff_ne]; omega
    obtain ⟨q, hpq, hqs, hqe, hU, hyes, hno⟩ := run_at runB s p hp
    have HRUN := Lib.hid (fun c W => rrun_any c W)
    have hdc := drop_cons s p hps
    have HYES := Lib.hid hyes
    have HNO := Lib.hid hno
    have e34 : (s[p]'hps == 34) = (((s[p]'hps).toNat : Int) == 34) := u8_eq (s[p]'hps) 34 (by decide)
    have HSG := Lib.hid (fun W => rsign_any (s[p]'hps) W)
    clear hyes hno hpe
    cases hrc : runB (s[p]'hps) with
    | true =>
      have h34 : (s[p]'hps == 34) = false := by
        rw [beq_eq_false_iff_ne]
        intro h; rw [h] at hrc; exact absurd hrc (by decide)
      rw [h34] at e34
      replace e34 := e34.symm
      have h8 : (kB (s[p]'hps) == 8) = false := by
        unfold runB at hrc
        simp at hrc ⊢
        omega
      rw [h8] at HSG
      have hR : readL (s.data.toList.drop p) = runR ((s.data.toList.drop p).takeWhile runB) := by
        rw [hdc, readL_cons, if_pos hrc]
      have hall : ∀ c ∈ (s.data.toList.drop p).takeWhile runB, runB c = true := List.all_eq_true.1 (List.all_takeWhile (p := runB) (l := s.data.toList.drop p))
      rw [runR_ref hall] at hR
      have hq2 : p < q := by
        rw [hqe, hdc, List.takeWhile_cons_of_pos hrc]
        simp
      have HRR := Lib.hid (show tokR (s.data.toList.drop p) p = if (readL (s.data.toList.drop p)).2.2 = 0 then ({ (readL (s.data.toList.drop p)).1 with a := (p : Int) }, p + (readL (s.data.toList.drop p)).2.1, 0) else (noTk, 0, (readL (s.data.toList.drop p)).2.2) from rfl)
      rw [hR] at HRR
      generalize tokR (s.data.toList.drop p) p = R at *
      clear hR hall hdc hrc h34 h8
      generalize (s.data.toList.drop p).takeWhile runB = rl at *
      obtain ⟨U, hUU⟩ : ∃ U, bs rl = U := ⟨_, rfl⟩
      have eU : rl = U.data.toList := by rw [← hUU, bs_data]
      rw [hUU] at hU HRR
      clear hUU
      subst eU
      rw [list_size] at hqe HRR
      have hUz : U.size = q - p := by omega
      have hU0 : 0 < U.size := by omega
      obtain ⟨u1, u2⟩ := str_full hU0
      have hpu : p + U.size = q := by omega
      have HPU := Lib.hid hpu
      have hUb : U.size ≤ 100000 := by omega
      have HHL := Lib.hid (fun W => rhasL_any U (by omega) W)
      have HHP := Lib.hid (fun W => rhasP_any U (by omega) W)
      have HNU := Lib.hid (fun W => rnumber_any U (by omega) W)
      generalize U.data.toList.any letB = la at *
      generalize pntB U.data.toList = pt at *
      generalize numS U.data.toList = nu at *
      obtain ⟨nv, ne⟩ := nu
      simp only at HNU HRR
      have HUX := Lib.hid hU
      clear hU hqe hpu
      go_enter Tryz.func50, Tryz.ntmps50
      go_wp2_with fail
      go_loop [7] (fun s7 => ∃ k : Nat, p ≤ k ∧ k ≤ q ∧ s7 = .int .i64 (k : Int)) (fun s7 => (q - (intOf s7)).toNat)
      case atStart => exact ⟨p, Nat.le_refl _, by omega, rfl⟩
      case round =>
        obtain ⟨k, hk1, hk2, rfl⟩ := hrel
        by_cases hkq : k < q
        · have hks : k < s.size := by omega
          have hl : (k : Int) < (s.size : Int) := by omega
          have HK := Lib.hid (HRUN.out (s[k]'hks))
          rw [HYES.out k hks hk1 hkq] at HK
          go_wp2_with fail
          refine (HK.out _).mono ?_
          rintro e w1 ⟨rfl, rfl⟩
          go_wp2_with fail
          go_round
          case rel => exact ⟨k + 1, by omega, by omega, by go_num⟩
          case measure => simp [intOf]; omega
        · obtain rfl : k = q := by omega
          have hX := HUX.out
          by_cases hqz : k < s.size
          · have hl : (k : Int) < (s.size : Int) := by omega
            have HK := Lib.hid (HRUN.out (s[k]'hqz))
            rw [HNO.out hqz] at HK
            cases la with
            | true =>
              cases pt with
              | true =>
                have HR := Lib.hid (show R = (noTk, 0, 2) by rw [HRR.out]; rfl)
                clear HRR
                go_wp2_with fail
                refine (HK.out _).mono ?_
                rintro e w1 ⟨rfl, rfl⟩
                go_wp2_with fail
                refine (HSG.out _).mono ?_
                rintro e w1 ⟨rfl, rfl⟩
                go_wp2_with fail
                refine (HHL.out _).mono ?_
                rintro e w1 ⟨rfl, rfl⟩
                go_wp2_with fail
                refine (HHP.out _).mono ?_
                rintro e w1 ⟨rfl, rfl⟩
                go_wp2_with fail
                refine bodyPost_ret (v := resV (noTk, 0, 2)) (by simp [results, Tryz.results50, go_sem, resV, Tk.val, tokE, noTk, bs, hpi]) rfl ⟨by rw [HR.out], (by repeat (first | with_reducible exact Below.refl _ _ | (with_reducible refine Below.setCell ?_ (by first | exact Nat.le_refl _ | omega | (simp; done) | (simp; omega)) _) | (with_reducible refine Below.alloc ?_ (by first | exact Nat.le_refl _ | omega | (simp; done) | (simp; omega)) _) | with_reducible refine Below.drew ?_ | with_reducible refine bel_drewN ?_ _ | (with_reducible refine bel_by (by with_reducible assumption) (by first | exact Nat.le_refl _ | omega | (simp; done) | (simp; omega)) ?_)))⟩
              | false =>
                by_cases h32 : 32 < U.size
                · have d1 : decide ((U.size : Int) > 32) = true := decide_eq_true (by omega)
                  have d2 : (32 : Int) < (U.size : Int) := by omega
                  have HR := Lib.hid (show R = (noTk, 0, 6) by
                    rw [HRR.out]
                    simp [h32, tokE])
                  clear HRR
                  go_wp2_with fail
                  refine (HK.out _).mono ?_
                  rintro e w1 ⟨rfl, rfl⟩
                  go_wp2_with fail
                  refine (HSG.out _).mono ?_
                  rintro e w1 ⟨rfl, rfl⟩
                  go_wp2_with fail
                  refine (HHL.out _).mono ?_
                  rintro e w1 ⟨rfl, rfl⟩
                  go_wp2_with fail
                  refine (HHP.out _).mono ?_
                  rintro e w1 ⟨rfl, rfl⟩
                  go_wp2_with fail
                  refine bodyPost_ret (v := resV (noTk, 0, 6)) (by simp [results, Tryz.results50, go_sem, resV, Tk.val, tokE, noTk, bs, hpi]) rfl ⟨by rw [HR.out], (by repeat (first | with_reducible exact Below.refl _ _ | (with_reducible refine Below.setCell ?_ (by first | exact Nat.le_refl _ | omega | (simp; done) | (simp; omega)) _) | (with_reducible refine Below.alloc ?_ (by first | exact Nat.le_refl _ | omega | (simp; done) | (simp; omega)) _) | with_reducible refine Below.drew ?_ | with_reducible refine bel_drewN ?_ _ | (with_reducible refine bel_by (by with_reducible assumption) (by first | exact Nat.le_refl _ | omega | (simp; done) | (simp; omega)) ?_)))⟩
                · have d1 : decide ((U.size : Int) > 32) = false := decide_eq_false (by omega)
                  have d2 : ¬ (32 : Int) < (U.size : Int) := by omega
                  have HR := Lib.hid (show R = (⟨1, U, 0, (p : Int)⟩, k, 0) by
                    have h := HPU.out
                    rw [HRR.out]
                    simp [h32, h])
                  clear HRR
                  go_wp2_with fail
                  refine (HK.out _).mono ?_
                  rintro e w1 ⟨rfl, rfl⟩
                  go_wp2_with fail
                  refine (HSG.out _).mono ?_
                  rintro e w1 ⟨rfl, rfl⟩
                  go_wp2_with fail
                  refine (HHL.out _).mono ?_
                  rintro e w1 ⟨rfl, rfl⟩
                  go_wp2_with fail
                  refine (HHP.out _).mono ?_
                  rintro e w1 ⟨rfl, rfl⟩
                  go_wp2_with fail
                  refine bodyPost_ret (v := resV (⟨1, U, 0, (p : Int)⟩, k, 0)) (by simp [results, Tryz.results50, go_sem, resV, Tk.val, tokE, noTk, bs, hpi]) rfl ⟨by rw [HR.out], (by repeat (first | with_reducible exact Below.refl _ _ | (with_reducible refine Below.setCell ?_ (by first | exact Nat.le_refl _ | omega | (simp; done) | (simp; omega)) _) | (with_reducible refine Below.alloc ?_ (by first | exact Nat.le_refl _ | omega | (simp; done) | (simp; omega)) _) | with_reducible refine Below.drew ?_ | with_reducible refine bel_drewN ?_ _ | (with_reducible refine bel_by (by with_reducible assumption) (by first | exact Nat.le_refl _ | omega | (simp; done) | (simp; omega)) ?_)))⟩
            | false =>
              by_cases hne : ne = 0
              · subst hne
                have HR := Lib.hid (show R = (⟨2, bs [], nv, (p : Int)⟩, k, 0) by
                  have h := HPU.out
                  rw [HRR.out]
                  simp [h])
                clear HRR
                go_wp2_with fail
                refine (HK.out _).mono ?_
                rintro e w1 ⟨rfl, rfl⟩
                go_wp2_with fail
                refine (HSG.out _).mono ?_
                rintro e w1 ⟨rfl, rfl⟩
                go_wp2_with fail
                refine (HHL.out _).mono ?_
                rintro e w1 ⟨rfl, rfl⟩
                go_wp2_with fail
                refine (HNU.out _).mono ?_
                rintro e w1 ⟨rfl, rfl⟩
                go_wp2_with fail
                refine bodyPost_ret (v := resV (⟨2, bs [], nv, (p : Int)⟩, k, 0)) (by simp [results, Tryz.results50, go_sem, resV, Tk.val, tokE, noTk, bs, hpi]) rfl ⟨by rw [HR.out], (by repeat (first | with_reducible exact Below.refl _ _ | (with_reducible refine Below.setCell ?_ (by first | exact Nat.le_refl _ | omega | (simp; done) | (simp; omega)) _) | (with_reducible refine Below.alloc ?_ (by first | exact Nat.le_refl _ | omega | (simp; done) | (simp; omega)) _) | with_reducible refine Below.drew ?_ | with_reducible refine bel_drewN ?_ _ | (with_reducible refine bel_by (by with_reducible assumption) (by first | exact Nat.le_refl _ | omega | (simp; done) | (simp; omega)) ?_)))⟩
              · have e1 : (ne != 0) = true := by simpa using hne
                have e2 : (ne == 0) = false := by simpa using hne
                have HR := Lib.hid (show R = (noTk, 0, ne) by
                  rw [HRR.out]
                  simp [hne, tokE])
                clear HRR hne
                go_wp2_with fail
                refine (HK.out _).mono ?_
                rintro e w1 ⟨rfl, rfl⟩
                go_wp2_with fail
                refine (HSG.out _).mono ?_
                rintro e w1 ⟨rfl, rfl⟩
                go_wp2_with fail
                refine (HHL.out _).mono ?_
                rintro e w1 ⟨rfl, rfl⟩
                go_wp2_with fail
                refine (HNU.out _).mono ?_
                rintro e w1 ⟨rfl, rfl⟩
                go_wp2_with fail
                refine bodyPost_ret (v := resV (noTk, 0, ne)) (by simp [results, Tryz.results50, go_sem, resV, Tk.val, tokE, noTk, bs, hpi]) rfl ⟨by rw [HR.out], (by repeat (first | with_reducible exact Below.refl _ _ | (with_reducible refine Below.setCell ?_ (by first | exact Nat.le_refl _ | omega | (simp; done) | (simp; omega)) _) | (with_reducible refine Below.alloc ?_ (by first | exact Nat.le_refl _ | omega | (simp; done) | (simp; omega)) _) | with_reducible refine Below.drew ?_ | with_reducible refine bel_drewN ?_ _ | (with_reducible refine bel_by (by with_reducible assumption) (by first | exact Nat.le_refl _ | omega | (simp; done) | (simp; omega)) ?_)))⟩
          · have hl : ¬ (k : Int) < (s.size : Int) := by omega
            cases la with
            | true =>
              cases pt with
              | true =>
                have HR := Lib.hid (show R = (noTk, 0, 2) by rw [HRR.out]; rfl)
                clear HRR
                go_wp2_with fail
                refine (HSG.out _).mono ?_
                rintro e w1 ⟨rfl, rfl⟩
                go_wp2_with fail
                refine (HHL.out _).mono ?_
                rintro e w1 ⟨rfl, rfl⟩
                go_wp2_with fail
                refine (HHP.out _).mono ?_
                rintro e w1 ⟨rfl, rfl⟩
                go_wp2_with fail
                refine bodyPost_ret (v := resV (noTk, 0, 2)) (by simp [results, Tryz.results50, go_sem, resV, Tk.val, tokE, noTk, bs, hpi]) rfl ⟨by rw [HR.out], (by repeat (first | with_reducible exact Below.refl _ _ | (with_reducible refine Below.setCell ?_ (by first | exact Nat.le_refl _ | omega | (simp; done) | (simp; omega)) _) | (with_reducible refine Below.alloc ?_ (by first | exact Nat.le_refl _ | omega | (simp; done) | (simp; omega)) _) | with_reducible refine Below.drew ?_ | with_reducible refine bel_drewN ?_ _ | (with_reducible refine bel_by (by with_reducible assumption) (by first | exact Nat.le_refl _ | omega | (simp; done) | (simp; omega)) ?_)))⟩
              | false =>
                by_cases h32 : 32 < U.size
                · have d1 : decide ((U.size : Int) > 32) = true := decide_eq_true (by omega)
                  have d2 : (32 : Int) < (U.size : Int) := by omega
                  have HR := Lib.hid (show R = (noTk, 0, 6) by
                    rw [HRR.out]
                    simp [h32, tokE])
                  clear HRR
                  go_wp2_with fail
                  refine (HSG.out _).mono ?_
                  rintro e w1 ⟨rfl, rfl⟩
                  go_wp2_with fail
                  refine (HHL.out _).mono ?_
                  rintro e w1 ⟨rfl, rfl⟩
                  go_wp2_with fail
                  refine (HHP.out _).mono ?_
                  rintro e w1 ⟨rfl, rfl⟩
                  go_wp2_with fail
                  refine bodyPost_ret (v := resV (noTk, 0, 6)) (by simp [results, Tryz.results50, go_sem, resV, Tk.val, tokE, noTk, bs, hpi]) rfl ⟨by rw [HR.out], (by repeat (first | with_reducible exact Below.refl _ _ | (with_reducible refine Below.setCell ?_ (by first | exact Nat.le_refl _ | omega | (simp; done) | (simp; omega)) _) | (with_reducible refine Below.alloc ?_ (by first | exact Nat.le_refl _ | omega | (simp; done) | (simp; omega)) _) | with_reducible refine Below.drew ?_ | with_reducible refine bel_drewN ?_ _ | (with_reducible refine bel_by (by with_reducible assumption) (by first | exact Nat.le_refl _ | omega | (simp; done) | (simp; omega)) ?_)))⟩
                · have d1 : decide ((U.size : Int) > 32) = false := decide_eq_false (by omega)
                  have d2 : ¬ (32 : Int) < (U.size : Int) := by omega
                  have HR := Lib.hid (show R = (⟨1, U, 0, (p : Int)⟩, k, 0) by
                    have h := HPU.out
                    rw [HRR.out]
                    simp [h32, h])
                  clear HRR
                  go_wp2_with fail
                  refine (HSG.out _).mono ?_
                  rintro e w1 ⟨rfl, rfl⟩
                  go_wp2_with fail
                  refine (HHL.out _).mono ?_
                  rintro e w1 ⟨rfl, rfl⟩
                  go_wp2_with fail
                  refine (HHP.out _).mono ?_
                  rintro e w1 ⟨rfl, rfl⟩
                  go_wp2_with fail
                  refine bodyPost_ret (v := resV (⟨1, U, 0, (p : Int)⟩, k, 0)) (by simp [results, Tryz.results50, go_sem, resV, Tk.val, tokE, noTk, bs, hpi]) rfl ⟨by rw [HR.out], (by repeat (first | with_reducible exact Below.refl _ _ | (with_reducible refine Below.setCell ?_ (by first | exact Nat.le_refl _ | omega | (simp; done) | (simp; omega)) _) | (with_reducible refine Below.alloc ?_ (by first | exact Nat.le_refl _ | omega | (simp; done) | (simp; omega)) _) | with_reducible refine Below.drew ?_ | with_reducible refine bel_drewN ?_ _ | (with_reducible refine bel_by (by with_reducible assumption) (by first | exact Nat.le_refl _ | omega | (simp; done) | (simp; omega)) ?_)))⟩
            | false =>
              by_cases hne : ne = 0
              · subst hne
                have HR := Lib.hid (show R = (⟨2, bs [], nv, (p : Int)⟩, k, 0) by
                  have h := HPU.out
                  rw [HRR.out]
                  simp [h])
                clear HRR
                go_wp2_with fail
                refine (HSG.out _).mono ?_
                rintro e w1 ⟨rfl, rfl⟩
                go_wp2_with fail
                refine (HHL.out _).mono ?_
                rintro e w1 ⟨rfl, rfl⟩
                go_wp2_with fail
                refine (HNU.out _).mono ?_
                rintro e w1 ⟨rfl, rfl⟩
                go_wp2_with fail
                refine bodyPost_ret (v := resV (⟨2, bs [], nv, (p : Int)⟩, k, 0)) (by simp [results, Tryz.results50, go_sem, resV, Tk.val, tokE, noTk, bs, hpi]) rfl ⟨by rw [HR.out], (by repeat (first | with_reducible exact Below.refl _ _ | (with_reducible refine Below.setCell ?_ (by first | exact Nat.le_refl _ | omega | (simp; done) | (simp; omega)) _) | (with_reducible refine Below.alloc ?_ (by first | exact Nat.le_refl _ | omega | (simp; done) | (simp; omega)) _) | with_reducible refine Below.drew ?_ | with_reducible refine bel_drewN ?_ _ | (with_reducible refine bel_by (by with_reducible assumption) (by first | exact Nat.le_refl _ | omega | (simp; done) | (simp; omega)) ?_)))⟩
              · have e1 : (ne != 0) = true := by simpa using hne
                have e2 : (ne == 0) = false := by simpa using hne
                have HR := Lib.hid (show R = (noTk, 0, ne) by
                  rw [HRR.out]
                  simp [hne, tokE])
                clear HRR hne
                go_wp2_with fail
                refine (HSG.out _).mono ?_
                rintro e w1 ⟨rfl, rfl⟩
                go_wp2_with fail
                refine (HHL.out _).mono ?_
                rintro e w1 ⟨rfl, rfl⟩
                go_wp2_with fail
                refine (HNU.out _).mono ?_
                rintro e w1 ⟨rfl, rfl⟩
                go_wp2_with fail
                refine bodyPost_ret (v := resV (noTk, 0, ne)) (by simp [results, Tryz.results50, go_sem, resV, Tk.val, tokE, noTk, bs, hpi]) rfl ⟨by rw [HR.out], (by repeat (first | with_reducible exact Below.refl _ _ | (with_reducible refine Below.setCell ?_ (by first | exact Nat.le_refl _ | omega | (simp; done) | (simp; omega)) _) | (with_reducible refine Below.alloc ?_ (by first | exact Nat.le_refl _ | omega | (simp; done) | (simp; omega)) _) | with_reducible refine Below.drew ?_ | with_reducible refine bel_drewN ?_ _ | (with_reducible refine bel_by (by with_reducible assumption) (by first | exact Nat.le_refl _ | omega | (simp; done) | (simp; omega)) ?_)))⟩
    | false =>
      have hq2 : q = p := by
        rw [hqe, hdc, List.takeWhile_cons_of_neg (by rw [hrc]; simp)]
        simp
      subst hq2
      have hUe : s.extract q q = ⟨#[]⟩ := by
        rw [hU, hdc, List.takeWhile_cons_of_neg (by rw [hrc]; simp)]
        rfl
      have HK := Lib.hid (HRUN.out (s[q]'hps))
      rw [hrc] at HK
      have hR : readL (s.data.toList.drop q) = if kB (s[q]'hps) = 3 then strR (s.data.toList.drop (q + 1)) else if kB (s[q]'hps) = 8 then (⟨4, bs [s[q]'hps], 0, 0⟩, 1, 0) else tokE 2 := by
        rw [hdc, readL_cons, if_neg (by rw [hrc]; simp)]
      have HRR := Lib.hid (show tokR (s.data.toList.drop q) q = if (readL (s.data.toList.drop q)).2.2 = 0 then ({ (readL (s.data.toList.drop q)).1 with a := (q : Int) }, q + (readL (s.data.toList.drop q)).2.1, 0) else (noTk, 0, (readL (s.data.toList.drop q)).2.2) from rfl)
      rw [hR] at HRR
      have hE : s.extract q (q + 1) = bs [s[q]'hps] := by
        refine (bs_of ?_).symm
        rw [ext_list, Nat.add_sub_cancel_left, hdc]
        rfl
      have h3 := kB_quote (s[q]'hps)
      generalize tokR (s.data.toList.drop q) q = R at *
      clear hR hqe hU hrc hdc HYES HNO HRUN
      cases h34 : (s[q]'hps == 34) with
      | false =>
        rw [h34] at e34 h3
        replace e34 := e34.symm
        have hk3 : ¬ kB (s[q]'hps) = 3 := by simpa using h3
        rw [if_neg hk3] at HRR
        have u1 : ((⟨#[]⟩ : ByteArray).toList == []) = true := by rw [empty_list]; rfl
        clear h3 h34 hk3
        cases h8 : (kB (s[q]'hps) == 8) with
        | true =>
          rw [h8] at HSG
          have hk8 : kB (s[q]'hps) = 8 := by simpa using h8
          rw [if_pos hk8] at HRR
          have HR := Lib.hid (show R = (⟨4, bs [s[q]'hps], 0, (q : Int)⟩, q + 1, 0) by rw [HRR.out]; rfl)
          have HE := hE
          clear h8 hk8 HRR
          go_enter Tryz.func50, Tryz.ntmps50
          go_wp2_with fail
          go_loop [7] (fun s7 => s7 = .int .i64 (q : Int)) (fun _ => 0)
          case atStart => rfl
          case round =>
            subst hrel
            go_wp2_with fail
            refine (HK.out _).mono ?_
            rintro e w1 ⟨rfl, rfl⟩
            go_wp2_with fail
            refine (HSG.out _).mono ?_
            rintro e w1 ⟨rfl, rfl⟩
            go_wp2_with fail
            refine bodyPost_ret (v := resV (⟨4, bs [s[q]'hps], 0, (q : Int)⟩, q + 1, 0)) (by simp [results, Tryz.results50, go_sem, resV, Tk.val, HE]) rfl ⟨by rw [HR.out], (by repeat (first | with_reducible exact Below.refl _ _ | (with_reducible refine Below.setCell ?_ (by first | exact Nat.le_refl _ | omega | (simp; done) | (simp; omega)) _) | (with_reducible refine Below.alloc ?_ (by first | exact Nat.le_refl _ | omega | (simp; done) | (simp; omega)) _) | with_reducible refine Below.drew ?_ | with_reducible refine bel_drewN ?_ _ | (with_reducible refine bel_by (by with_reducible assumption) (by first | exact Nat.le_refl _ | omega | (simp; done) | (simp; omega)) ?_)))⟩
        | false =>
          rw [h8] at HSG
          have hk8 : ¬ kB (s[q]'hps) = 8 := by simpa using h8
          rw [if_neg hk8] at HRR
          have HR := Lib.hid (show R = (noTk, 0, 2) by rw [HRR.out]; rfl)
          clear h8 hk8 HRR hE
          go_enter Tryz.func50, Tryz.ntmps50
          go_wp2_with fail
          go_loop [7] (fun s7 => s7 = .int .i64 (q : Int)) (fun _ => 0)
          case atStart => rfl
          case round =>
            subst hrel
            go_wp2_with fail
            refine (HK.out _).mono ?_
            rintro e w1 ⟨rfl, rfl⟩
            go_wp2_with fail
            refine (HSG.out _).mono ?_
            rintro e w1 ⟨rfl, rfl⟩
            go_wp2_with fail
            refine bodyPost_ret (v := resV (noTk, 0, 2)) (by simp [results, Tryz.results50, go_sem, resV, Tk.val, noTk, bs]) rfl ⟨by rw [HR.out], (by repeat (first | with_reducible exact Below.refl _ _ | (with_reducible refine Below.setCell ?_ (by first | exact Nat.le_refl _ | omega | (simp; done) | (simp; omega)) _) | (with_reducible refine Below.alloc ?_ (by first | exact Nat.le_refl _ | omega | (simp; done) | (simp; omega)) _) | with_reducible refine Below.drew ?_ | with_reducible refine bel_drewN ?_ _ | (with_reducible refine bel_by (by with_reducible assumption) (by first | exact Nat.le_refl _ | omega | (simp; done) | (simp; omega)) ?_)))⟩
      | true =>
        rw [h34] at e34 h3
        replace e34 := e34.symm
        have hk3 : kB (s[q]'hps) = 3 := by simpa using h3
        rw [if_pos hk3] at HRR
        obtain ⟨m, hm1, hm2, hme, hT, hyes, hno⟩ := run_at stpB s (q + 1) (by omega)
        obtain ⟨sr1, sr2⟩ := strR_ref (s.data.toList.drop (q + 1))
        rw [List.length_drop, list_size] at sr1
        have HYES := Lib.hid hyes
        have HNO := Lib.hid hno
        have hml : ((s.data.toList.drop (q + 1)).takeWhile stpB).length = m - (q + 1) := by omega
        rw [hml] at sr1 sr2
        have HSR1 := Lib.hid sr1
        have HSR2 := Lib.hid (show ∀ h : m < s.size, ((s[m]'h) ≠ 34 → strR (s.data.toList.drop (q + 1)) = tokE 2) ∧ ((s[m]'h) = 34 → strR (s.data.toList.drop (q + 1)) = if titE ((s.data.toList.drop (q + 1)).takeWhile stpB) = 0 then (⟨3, bs ((s.data.toList.drop (q + 1)).takeWhile stpB), 0, 0⟩, m - (q + 1) + 2, 0) else tokE (titE ((s.data.toList.drop (q + 1)).takeWhile stpB))) from fun h => sr2 (s[m]'h) (by
          rw [List.getElem?_drop, show q + 1 + (m - (q + 1)) = m by omega, list_get s m h]))
        clear sr1 sr2 hyes hno h3 hk3 h34 hE hme hml
        generalize strR (s.data.toList.drop (q + 1)) = SR at *
        generalize (s.data.toList.drop (q + 1)).takeWhile stpB = tl at *
        obtain ⟨T, hTT⟩ : ∃ T, bs tl = T := ⟨_, rfl⟩
        have eT : tl = T.data.toList := by rw [← hTT, bs_data]
        rw [hTT] at hT HSR2
        clear hTT
        subst eT
        have hTz : T.size = m - (q + 1) := by rw [← hT]; simp; omega
        have HTI := Lib.hid (fun W => rtitle_any T (by omega) W)
        generalize titE T.data.toList = te at *
        have HTX := Lib.hid hT
        clear hT hTz
        have u1 : ((⟨#[]⟩ : ByteArray).toList == []) = true := by rw [empty_list]; rfl
        go_enter Tryz.func50, Tryz.ntmps50
        go_wp2_with fail
        go_loop [7] (fun s7 => s7 = .int .i64 (q : Int)) (fun _ => 0)
        case atStart => rfl
        case round =>
          subst hrel
          go_wp2_with fail
          refine (HK.out _).mono ?_
          rintro e w1 ⟨rfl, rfl⟩
          go_wp2_with fail
          go_loop [7] (fun s7 => ∃ k : Nat, q + 1 ≤ k ∧ k ≤ m ∧ s7 = .int .i64 (k : Int)) (fun s7 => (m - (intOf s7)).toNat)
          case atStart => exact ⟨q + 1, Nat.le_refl _, by omega, by go_num⟩
          case round =>
            obtain ⟨k, hk1, hk2, rfl⟩ := hrel
            by_cases hkm : k < m
            · have hks : k < s.size := by omega
              have hl : (k : Int) < (s.size : Int) := by omega
              have hst := HYES.out k hks hk1 hkm
              have f34 : (s[k]'hks == 34) = (((s[k]'hks).toNat : Int) == 34) := u8_eq (s[k]'hks) 34 (by decide)
              have f10 : (s[k]'hks == 10) = (((s[k]'hks).toNat : Int) == 10) := u8_eq (s[k]'hks) 10 (by decide)
              unfold stpB bne at hst
              rw [f34, f10] at hst
              have hst2 : (((s[k]'hks).toNat : Int) == 34) = false ∧ (((s[k]'hks).toNat : Int) == 10) = false := by
                cases h1 : (((s[k]'hks).toNat : Int) == 34) <;> cases h2 : (((s[k]'hks).toNat : Int) == 10) <;> rw [h1, h2] at hst <;> first | exact ⟨rfl, rfl⟩ | exact absurd hst (by decide)
              obtain ⟨g34, g10⟩ := hst2
              have g34b : (((s[k]'hks).toNat : Int) != 34) = true := by unfold bne; rw [g34]; rfl
              have g10b : (((s[k]'hks).toNat : Int) != 10) = true := by unfold bne; rw [g10]; rfl
              clear hst f34 f10
              go_wp2_with fail
              go_round
              case rel => exact ⟨k + 1, by omega, by omega, by go_num⟩
              case measure => simp [intOf]; omega
            · obtain rfl : k = m := by omega
              by_cases hms : k < s.size
              · have hl : (k : Int) < (s.size : Int) := by omega
                have n0 : ((k : Int) == (s.size : Int)) = false := by rw [beq_eq_false_iff_ne]; omega
                have f34 : (s[k]'hms == 34) = (((s[k]'hms).toNat : Int) == 34) := u8_eq (s[k]'hms) 34 (by decide)
                cases h34 : (s[k]'hms == 34) with
                | true =>
                  rw [h34] at f34
                  replace f34 := f34.symm
                  have f34b : (((s[k]'hms).toNat : Int) != 34) = false := by unfold bne; rw [f34]; rfl
                  have hSR := (HSR2.out hms).2 (by simpa using h34)
                  have hX := HTX.out
                  by_cases ht0 : te = 0
                  · subst ht0
                    rw [if_pos rfl] at hSR
                    have HR := Lib.hid (show R = (⟨3, T, 0, (q : Int)⟩, k + 1, 0) by
                      rw [HRR.out, hSR]
                      simp
                      omega)
                    clear hSR h34
                    go_wp2_with fail
                    refine (HTI.out _).mono ?_
                    rintro e w1 ⟨rfl, rfl⟩
                    go_wp2_with fail
                    refine bodyPost_ret (v := resV (⟨3, T, 0, (q : Int)⟩, k + 1, 0)) (by simp [results, Tryz.results50, go_sem, resV, Tk.val]) rfl ⟨by rw [HR.out], (by repeat (first | with_reducible exact Below.refl _ _ | (with_reducible refine Below.setCell ?_ (by first | exact Nat.le_refl _ | omega | (simp; done) | (simp; omega)) _) | (with_reducible refine Below.alloc ?_ (by first | exact Nat.le_refl _ | omega | (simp; done) | (simp; omega)) _) | with_reducible refine Below.drew ?_ | with_reducible refine bel_drewN ?_ _ | (with_reducible refine bel_by (by with_reducible assumption) (by first | exact Nat.le_refl _ | omega | (simp; done) | (simp; omega)) ?_)))⟩
                  · rw [if_neg ht0] at hSR
                    have e1 : (te != 0) = true := by simpa using ht0
                    have e2 : (te == 0) = false := by simpa using ht0
                    have HR := Lib.hid (show R = (noTk, 0, te) by
                      rw [HRR.out, hSR]
                      simp [tokE, ht0])
                    clear hSR h34 ht0
                    go_wp2_with fail
                    refine (HTI.out _).mono ?_
                    rintro e w1 ⟨rfl, rfl⟩
                    go_wp2_with fail
                    refine bodyPost_ret (v := resV (noTk, 0, te)) (by simp [results, Tryz.results50, go_sem, resV, Tk.val, noTk, bs]) rfl ⟨by rw [HR.out], (by repeat (first | with_reducible exact Below.refl _ _ | (with_reducible refine Below.setCell ?_ (by first | exact Nat.le_refl _ | omega | (simp; done) | (simp; omega)) _) | (with_reducible refine Below.alloc ?_ (by first | exact Nat.le_refl _ | omega | (simp; done) | (simp; omega)) _) | with_reducible refine Below.drew ?_ | with_reducible refine bel_drewN ?_ _ | (with_reducible refine bel_by (by with_reducible assumption) (by first | exact Nat.le_refl _ | omega | (simp; done) | (simp; omega)) ?_)))⟩
                | false =>
                  rw [h34] at f34
                  replace f34 := f34.symm
                  have f34b : (((s[k]'hms).toNat : Int) != 34) = true := by unfold bne; rw [f34]; rfl
                  have hst := HNO.out hms
                  have h10 : (s[k]'hms == 10) = true := by
                    unfold stpB bne at hst
                    rw [h34] at hst
                    simpa using hst
                  have f10 : (s[k]'hms == 10) = (((s[k]'hms).toNat : Int) == 10) := u8_eq (s[k]'hms) 10 (by decide)
                  rw [h10] at f10
                  replace f10 := f10.symm
                  have f10b : (((s[k]'hms).toNat : Int) != 10) = false := by unfold bne; rw [f10]; rfl
                  have hSR := (HSR2.out hms).1 (by simpa using h34)
                  have HR := Lib.hid (show R = (noTk, 0, 2) by rw [HRR.out, hSR]; rfl)
                  clear hSR h34 hst h10
                  go_wp2_with fail
                  refine bodyPost_ret (v := resV (noTk, 0, 2)) (by simp [results, Tryz.results50, go_sem, resV, Tk.val, noTk, bs]) rfl ⟨by rw [HR.out], (by repeat (first | with_reducible exact Below.refl _ _ | (with_reducible refine Below.setCell ?_ (by first | exact Nat.le_refl _ | omega | (simp; done) | (simp; omega)) _) | (with_reducible refine Below.alloc ?_ (by first | exact Nat.le_refl _ | omega | (simp; done) | (simp; omega)) _) | with_reducible refine Below.drew ?_ | with_reducible refine bel_drewN ?_ _ | (with_reducible refine bel_by (by with_reducible assumption) (by first | exact Nat.le_refl _ | omega | (simp; done) | (simp; omega)) ?_)))⟩
              · obtain rfl : k = s.size := by omega
                have hl : ¬ (s.size : Int) < (s.size : Int) := by omega
                have n0 : (((s.size : Int)) == (s.size : Int)) = true := by simp
                have hSR := HSR1.out rfl
                have HR := Lib.hid (show R = (noTk, 0, 2) by rw [HRR.out, hSR]; rfl)
                clear hSR
                go_wp2_with fail
                refine bodyPost_ret (v := resV (noTk, 0, 2)) (by simp [results, Tryz.results50, go_sem, resV, Tk.val, noTk, bs]) rfl ⟨by rw [HR.out], (by repeat (first | with_reducible exact Below.refl _ _ | (with_reducible refine Below.setCell ?_ (by first | exact Nat.le_refl _ | omega | (simp; done) | (simp; omega)) _) | (with_reducible refine Below.alloc ?_ (by first | exact Nat.le_refl _ | omega | (simp; done) | (simp; omega)) _) | with_reducible refine Below.drew ?_ | with_reducible refine bel_drewN ?_ _ | (with_reducible refine bel_by (by with_reducible assumption) (by first | exact Nat.le_refl _ | omega | (simp; done) | (simp; omega)) ?_)))⟩
end Go.Proofs.YtiofekoadjgjdaaGreatDoor
