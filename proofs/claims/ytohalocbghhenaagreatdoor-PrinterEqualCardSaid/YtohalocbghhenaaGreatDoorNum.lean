/- What the library's Cut and ParseInt give, in the words of tokens. -/
import Derived.Test.YtohalocbghhenaaGreatDoorRuns
set_option linter.unusedSimpArgs false
set_option linter.unusedVariables false
namespace Go.Proofs.YtohalocbghhenaaGreatDoor
open Go.RowKit

theorem index_byte (b : UInt8) : ∀ l : List UInt8, Lib.index l [b] = if l.contains b then ((l.takeWhile (· != b)).length : Int) else -1
  | [] => rfl
  | c :: l => by
    have ih := index_byte b l
    unfold Lib.index
    by_cases h : c = b
    · subst h
      rw [List.takeWhile_cons_of_neg (by simp)]
      simp [List.isPrefixOf]
    · have h2 : ([b] : List UInt8).isPrefixOf (c :: l) = false := by
        simp [List.isPrefixOf]
        intro e; exact h e.symm
      rw [h2, ih, List.takeWhile_cons_of_pos (by simpa using h)]
      have h3 : (c :: l).contains b = l.contains b := by
        rw [List.contains_cons]
        have : (b == c) = false := by simp; intro e; exact h e.symm
        rw [this, Bool.false_or]
      rw [h3]
      by_cases h4 : l.contains b = true
      · rw [if_pos h4, if_pos h4]
        have : (((l.takeWhile (· != b)).length : Int) == -1) = false := by simp
        rw [this]
        simp
      · rw [if_neg h4, if_neg h4]
        rfl
theorem no_byte {b : UInt8} {l : List UInt8} (h : l.contains b = false) : l.takeWhile (· != b) = l ∧ l.dropWhile (· != b) = [] := by
  have hall : ∀ c ∈ l, (c != b) = true := by
    intro c hc
    cases hcb : c == b with
    | false => simp [bne, hcb]
    | true =>
      have : c = b := by simpa using hcb
      subst this
      have := List.contains_iff_mem.2 hc
      rw [h] at this
      exact absurd this (by decide)
  have h1 := tw_app (r := []) hall (by simp)
  have h2 := dw_app (r := []) hall (by simp)
  rw [List.append_nil] at h1 h2
  exact ⟨h1, h2⟩
theorem cut_byte (b : UInt8) (l : List UInt8) : Lib.cut l [b] = (l.takeWhile (· != b), (l.dropWhile (· != b)).drop 1, l.contains b) := by
  unfold Lib.cut
  rw [index_byte]
  cases h : l.contains b with
  | true =>
    simp only [if_true]
    rw [if_pos (by omega), Int.toNat_natCast]
    obtain ⟨t1, t2⟩ := tw_take (· != b) l
    rw [t1, ← List.drop_drop, t2]
    rfl
  | false =>
    obtain ⟨t1, t2⟩ := no_byte h
    rw [t1, t2]
    simp
def finN (a : Nat) (l : List UInt8) : Nat := l.foldl (fun n c => n * 10 + (c.toNat - 48)) a
theorem finN_ge : ∀ (l : List UInt8) (a : Nat), a ≤ finN a l
  | [], a => Nat.le_refl _
  | c :: l, a => by
    have := finN_ge l (a * 10 + (c.toNat - 48))
    unfold finN at this ⊢
    rw [List.foldl_cons]
    omega
theorem parseM_digs : ∀ (l : List UInt8) (a : Nat), (∀ c ∈ l, digB c = true) → a ≤ 18446744073709551615 → Lib.parseUintM 18446744073709551615 a l = if finN a l ≤ 18446744073709551615 then .ok (finN a l) else .range
  | [], a, _, ha => by
    unfold Lib.parseUintM finN
    rw [List.foldl_nil, if_pos ha]
  | c :: l, a, h, ha => by
    have hc := h c (by simp)
    rw [dig_num] at hc
    simp only [Bool.and_eq_true, decide_eq_true_eq] at hc
    have hge := finN_ge l (a * 10 + (c.toNat - 48))
    have e : finN a (c :: l) = finN (a * 10 + (c.toNat - 48)) l := rfl
    rw [e]
    unfold Lib.parseUintM
    rw [if_pos hc]
    by_cases h1 : 1844674407370955162 ≤ a
    · rw [if_pos h1, if_neg (by omega)]
    · rw [if_neg h1]
      by_cases h2 : 18446744073709551615 < a * 10 + (c.toNat - 48)
      · rw [if_pos h2, if_neg (by omega)]
      · rw [if_neg h2]
        exact parseM_digs l _ (fun d hd => h d (by simp [hd])) (by omega)
theorem parse_digs (l : List UInt8) (h : ∀ c ∈ l, digB c = true) (hn : l ≠ []) : Lib.parseIntB 64 l = if numN l ≤ 9223372036854775807 then .ok (numN l : Int) else .range := by
  cases l with
  | nil => exact absurd rfl hn
  | cons c t =>
    have hc := h c (by simp)
    rw [dig_num] at hc
    simp only [Bool.and_eq_true, decide_eq_true_eq] at hc
    have n1 : ¬ (c.toNat = 43 ∨ c.toNat = 45) := by omega
    have n2 : ¬ c.toNat = 45 := by omega
    have hm := parseM_digs (c :: t) 0 h (by omega)
    unfold Lib.parseIntB
    simp only [if_neg n1]
    unfold Lib.parseUintB
    rw [if_neg (by simp)]
    have e : (2 ^ 64 - 1 : Nat) = 18446744073709551615 := by decide
    rw [e, hm]
    have e2 : finN 0 (c :: t) = numN (c :: t) := rfl
    rw [e2]
    by_cases h1 : numN (c :: t) ≤ 18446744073709551615
    · rw [if_pos h1]
      simp only [n2, not_false_eq_true, true_and, false_and, if_false]
      by_cases h2 : numN (c :: t) ≤ 9223372036854775807
      · rw [if_pos h2, if_neg (by simp; omega)]
      · rw [if_neg h2, if_pos (by simp; omega)]
    · rw [if_neg h1, if_neg (by omega)]
theorem rep48 (c : Nat) : Lib.repeatL [48] c = List.replicate c 48 := by
  induction c with
  | zero => rfl
  | succ c ih =>
    show [48] ++ Lib.repeatL [48] c = _
    rw [ih]
    rfl
theorem cut_any (s : ByteArray) (b : UInt8) (hs : s.size ≤ 1000000000) (w : World) (hT : Tabs w) : Calls Tryz.prog 120 #[.string s, .string ⟨#[b]⟩] w fun e w' => e = .returned (.tuple #[.string (bs (s.data.toList.takeWhile (· != b))), .string (bs ((s.data.toList.dropWhile (· != b)).drop 1)), .bool (s.data.toList.contains b)]) ∧ Below w.heap.size w w' := by
  obtain ⟨m, hm⟩ := hT.max
  refine (Tryz.strings_Cut s ⟨#[b]⟩ m w (by omega) hm).mono ?_
  rintro e w' ⟨rfl, n, rfl⟩
  have hc : Lib.cut s.data.toList (⟨#[b]⟩ : ByteArray).data.toList = (s.data.toList.takeWhile (· != b), (s.data.toList.dropWhile (· != b)).drop 1, s.data.toList.contains b) := cut_byte b _
  rw [hc]
  exact ⟨rfl, below_drewN w n⟩
/-- ParseInt of digits -/
theorem parse_ok (s : ByteArray) (v : Int) (hs : s.size ≤ 1000000000) (h : Lib.parseIntB 64 s.data.toList = .ok v) (w : World) : Calls Tryz.prog 130 #[.string s, .int .i64 10, .int .i64 64] w fun e w' => e = .returned (.tuple #[.int .i64 v, .nilIface]) ∧ Below w.heap.size w w' := by
  refine (Tryz.strconv_ParseInt_10_at64_ok s (by omega) v h w).mono ?_
  rintro e w' ⟨rfl, rfl | ⟨t, rfl⟩⟩
  · exact ⟨rfl, Below.refl _ _⟩
  · exact ⟨rfl, Lib.bytesWorld_below _ _ _⟩
theorem parse_range (s : ByteArray) (hs : s.size ≤ 1000000000) (h : Lib.parseIntB 64 s.data.toList = .range) (w : World) (hT : Tabs w) : Calls Tryz.prog 130 #[.string s, .int .i64 10, .int .i64 64] w fun e w' => (∃ x t p, e = .returned (.tuple #[.int .i64 x, .iface t p])) ∧ Below w.heap.size w w' := by
  obtain ⟨tp, p, hp⟩ := hT.err
  refine (Tryz.strconv_ParseInt_10_at64_range_var s (by omega) h tp p w hp).mono ?_
  rintro e w' ⟨N, rfl, _, _, hb⟩
  exact ⟨⟨_, _, _, rfl⟩, hb⟩
end Go.Proofs.YtohalocbghhenaaGreatDoor
/- Contract of layer 9: thousandths. -/
namespace Go.Proofs.YtohalocbghhenaaGreatDoor
open Go.RowKit

theorem head_byte {s : ByteArray} (h : 0 < s.size) : s.data.toList.head? = some (s[0]'h) := by
  rw [List.head?_eq_getElem?]
  exact list_get s 0 h
theorem u8_eq (c : UInt8) (k : Nat) (hk : k < 256) : (c == UInt8.ofNat k) = ((c.toNat : Int) == (k : Int)) := by
  rw [Bool.eq_iff_iff]
  simp only [beq_iff_eq]
  constructor
  · rintro rfl
    have : (UInt8.ofNat k).toNat = k := by rw [UInt8.toNat_ofNat']; omega
    rw [this]
  · intro h
    apply UInt8.toNat.inj
    rw [UInt8.toNat_ofNat']
    omega
theorem tl_le (p : UInt8 → Bool) (l : List UInt8) : (l.takeWhile p).length ≤ l.length ∧ ((l.dropWhile p).drop 1).length ≤ l.length := by
  refine ⟨(List.takeWhile_sublist p).length_le, ?_⟩
  have := (List.dropWhile_sublist p (l := l)).length_le
  rw [List.length_drop]; omega
theorem digs_out {l : List UInt8} (h : digsB l = true) : l ≠ [] ∧ ∀ c ∈ l, digB c = true := by
  unfold digsB at h
  rw [Bool.and_eq_true] at h
  refine ⟨fun e => ?_, List.all_eq_true.1 h.2⟩
  rw [e] at h
  exact absurd h.1 (by decide)
set_option maxHeartbeats 4000000 in
set_option maxRecDepth 100000 in
theorem thousandths_any (s : ByteArray) (hs : s.size ≤ 1000000) (w : World) (hT : Tabs w) : Calls Tryz.prog 119 #[.string s] w fun e w' => e = .returned (.tuple #[.int .i64 (numS s.data.toList).1, .int .i64 (numS s.data.toList).2]) ∧ Below w.heap.size w w' := by
  have HC := Lib.hid (cut_any s 46 (by omega) w hT)
  have HT := Lib.hid hT
  obtain ⟨l1, l2⟩ := tl_le (· != 46) s.data.toList
  rw [list_size] at l1 l2
  have HO := Lib.hid (show numOk s.data.toList = ((digsB (whoL s.data.toList) && !(decide (1 < (whoL s.data.toList).length) && (whoL s.data.toList).head? == some 48)) && (!pntB s.data.toList || (digsB (fraL s.data.toList) && decide ((fraL s.data.toList).length ≤ 3)))) from rfl)
  have HV := Lib.hid (show numV s.data.toList = numN (whoL s.data.toList ++ fraL s.data.toList ++ List.replicate (3 - (fraL s.data.toList).length) 48) from rfl)
  have HS := Lib.hid (show numS s.data.toList = if numOk s.data.toList then (if 1000000000 < numV s.data.toList then (0, 5) else ((numV s.data.toList : Int), 0)) else (0, 2) from rfl)
  have hnp : s.data.toList.contains 46 = false → fraL s.data.toList = [] := fun h => by
    unfold fraL; rw [(no_byte h).2]; rfl
  have ew : bs (whoL s.data.toList) = bs (s.data.toList.takeWhile (· != 46)) := rfl
  have ef : bs (fraL s.data.toList) = bs ((s.data.toList.dropWhile (· != 46)).drop 1) := rfl
  have ep : pntB s.data.toList = s.data.toList.contains 46 := rfl
  have ew1 : whoL s.data.toList = s.data.toList.takeWhile (· != 46) := rfl
  have ef1 : fraL s.data.toList = (s.data.toList.dropWhile (· != 46)).drop 1 := rfl
  rw [← ew1] at l1
  rw [← ef1] at l2
  rw [← ew, ← ef] at HC
  rw [← ep] at HC hnp
  clear ew ef ep ew1 ef1 hT
  generalize numS s.data.toList = R at *
  generalize numOk s.data.toList = ok at *
  generalize numV s.data.toList = v at *
  generalize whoL s.data.toList = Wl at *
  generalize fraL s.data.toList = Fl at *
  generalize pntB s.data.toList = pt at *
  obtain ⟨W, hW⟩ : ∃ W, bs Wl = W := ⟨_, rfl⟩
  obtain ⟨F, hF⟩ : ∃ F, bs Fl = F := ⟨_, rfl⟩
  rw [hW, hF] at HC
  have eW : Wl = W.data.toList := by rw [← hW, bs_data]
  have eF : Fl = F.data.toList := by rw [← hF, bs_data]
  clear hW hF
  subst eW eF
  rw [list_size] at l1 l2
  have HNW := Lib.hid (fun w hT => numerals_any W (by omega) w hT)
  have HNF := Lib.hid (fun w hT => numerals_any F (by omega) w hT)
  have HRR := Lib.hid (fun (c : Nat) (hc : c ≤ 3) (W : World) => Tryz.strings_Repeat ⟨#[48]⟩ c W (by omega) (by show 1 * c ≤ _; omega))
  -- the number itself
  have parse : digsB W.data.toList = true → (F.data.toList = [] ∨ digsB F.data.toList = true) → F.size ≤ 3 → ok = true →
      ∃ D, W ++ F ++ bs (List.replicate (3 - F.size) 48) = D ∧ D.size ≤ 2000010 ∧ ((∃ u : Int, u = v ∧ Lib.parseIntB 64 D.data.toList = .ok u ∧ (u ≤ 1000000000 → R = (u, 0)) ∧ (1000000000 < u → R = (0, 5))) ∨ (Lib.parseIntB 64 D.data.toList = .range ∧ R = (0, 5))) := by
    intro hw hf h3 hok
    obtain ⟨w1, w2⟩ := digs_out hw
    have f2 : ∀ c ∈ F.data.toList, digB c = true := by
      rcases hf with hf | hf
      · rw [hf]; simp
      · exact (digs_out hf).2
    refine ⟨_, rfl, ?_, ?_⟩
    · rw [ByteArray.size_append, ByteArray.size_append, bs_size, List.length_replicate]; omega
    · have e : (W ++ F ++ bs (List.replicate (3 - F.size) 48)).data.toList = W.data.toList ++ F.data.toList ++ List.replicate (3 - F.size) 48 := by
        simp [bs]
      rw [e]
      have hp := parse_digs (W.data.toList ++ F.data.toList ++ List.replicate (3 - F.size) 48) (fun c hc => by
        rcases List.mem_append.1 hc with hc | hc
        · rcases List.mem_append.1 hc with hc | hc
          · exact w2 c hc
          · exact f2 c hc
        · rw [List.eq_of_mem_replicate hc]; decide) (by
        intro h
        exact w1 (List.append_eq_nil_iff.1 (List.append_eq_nil_iff.1 h).1).1)
      have hv := HV.out
      rw [list_size] at hv
      rw [← hv] at hp
      rw [hp]
      have hr := HS.out
      rw [hok, if_pos rfl] at hr
      by_cases hb : v ≤ 9223372036854775807
      · rw [if_pos hb]
        refine .inl ⟨v, rfl, rfl, fun h => ?_, fun h => ?_⟩
        · rw [hr, if_neg (by omega)]
        · rw [hr, if_pos (by omega)]
      · rw [if_neg hb]
        exact .inr ⟨rfl, by rw [hr, if_pos (by omega)]⟩
  have HP := Lib.hid parse
  clear parse HV
  have HR2 := Lib.hid (show ok = false → R = (0, 2) by intro h; have hr := HS.out; rw [h, if_neg (by simp)] at hr; exact hr)
  clear HS
  have HNP := Lib.hid hnp
  clear hnp
  cases h1 : digsB W.data.toList with
  | false =>
    rw [h1] at HNW
    have hok : ok = false := by rw [HO.out, h1]; rfl
    have hR := HR2.out hok
    subst hR
    clear HO HP HR2 hok h1
    go_enter Tryz.func119, Tryz.ntmps119
    go_wp2_with fail
    refine HC.out.mono ?_
    rintro e w1 ⟨rfl, hb1⟩
    have HT1 := Lib.hid (HT.out.below hb1)
    have hz1 := bsize hb1
    go_wp2_with fail
    refine (HNW.out _ HT1.out).mono ?_
    rintro e w2 ⟨rfl, hb2⟩
    go_wp2_with fail
    go_ret2
    exact ⟨rfl, (by repeat (first | with_reducible exact Below.refl _ _ | (with_reducible refine Below.setCell ?_ (by first | exact Nat.le_refl _ | omega | (simp; done) | (simp; omega)) _) | (with_reducible refine Below.alloc ?_ (by first | exact Nat.le_refl _ | omega | (simp; done) | (simp; omega)) _) | with_reducible refine Below.drew ?_ | with_reducible refine bel_drewN ?_ _ | (with_reducible refine bel_by (by with_reducible assumption) (by first | exact Nat.le_refl _ | omega | (simp; done) | (simp; omega)) ?_)))⟩
  | true =>
    have hwn : W.data.toList ≠ [] := (digs_out h1).1
    have h0 : 0 < W.size := by
      rw [← list_size]
      cases hh : W.data.toList with
      | nil => exact absurd hh hwn
      | cons c t => simp
    have hhd := head_byte h0
    have h48 := u8_eq (W[0]'h0) 48 (by decide)
    have e48 : (UInt8.ofNat 48) = 48 := rfl
    rw [e48] at h48
    have hq : ((W.data.toList).head? == some 48) = ((W[0]'h0) == 48) := by rw [hhd]; rfl
    obtain ⟨z, hz⟩ : ∃ z, ((((W[0]'h0).toNat : Int)) == 48) = z := ⟨_, rfl⟩
    have h48z : ((W[0]'h0) == 48) = z := h48.trans hz
    have HB := Lib.hid (show ok = (!(decide (1 < W.size) && z) && (!pt || (digsB F.data.toList && decide (F.size ≤ 3)))) by rw [HO.out, h1, hq, h48z, list_size, list_size, Bool.true_and])
    have HPP := Lib.hid (HP.out h1)
    rw [h1] at HNW
    clear HO HP hq hhd h48 e48 h48z hwn h1
    by_cases hl : 1 < W.size ∧ z = true
    · obtain ⟨hl, rfl⟩ := hl
      have hok : ok = false := by rw [HB.out]; simp [hl]
      have hR := HR2.out hok
      subst hR
      have k1 : decide ((W.size : Int) > 1) = true := by simp; omega
      clear HB HPP HR2 hok
      go_enter Tryz.func119, Tryz.ntmps119
      go_wp2_with fail
      refine HC.out.mono ?_
      rintro e w1 ⟨rfl, hb1⟩
      have HT1 := Lib.hid (HT.out.below hb1)
      have hz1 := bsize hb1
      go_wp2_with fail
      refine (HNW.out _ HT1.out).mono ?_
      rintro e w2 ⟨rfl, hb2⟩
      go_wp2_with fail
      go_ret2
      exact ⟨rfl, (by repeat (first | with_reducible exact Below.refl _ _ | (with_reducible refine Below.setCell ?_ (by first | exact Nat.le_refl _ | omega | (simp; done) | (simp; omega)) _) | (with_reducible refine Below.alloc ?_ (by first | exact Nat.le_refl _ | omega | (simp; done) | (simp; omega)) _) | with_reducible refine Below.drew ?_ | with_reducible refine bel_drewN ?_ _ | (with_reducible refine bel_by (by with_reducible assumption) (by first | exact Nat.le_refl _ | omega | (simp; done) | (simp; omega)) ?_)))⟩
    · have hk : decide ((W.size : Int) > 1) = false ∨ (decide ((W.size : Int) > 1) = true ∧ z = false) := by
        by_cases h : 1 < W.size
        · right
          refine ⟨by simp; omega, ?_⟩
          cases z with
          | false => rfl
          | true => exact absurd ⟨h, rfl⟩ hl
        · left; simp; omega
      have hb2 : (decide (1 < W.size) && z) = false := by
        cases z with
        | false => simp
        | true => simp; have : ¬ 1 < W.size := fun h => hl ⟨h, rfl⟩; omega
      have HB2 := Lib.hid (show ok = (!pt || (digsB F.data.toList && decide (F.size ≤ 3))) by rw [HB.out, hb2]; rfl)
      clear HB hb2 hl
      have way : (pt = true ∧ (digsB F.data.toList = false ∨ (digsB F.data.toList = true ∧ 3 < F.size))) ∨ (pt = false ∧ F.size = 0) ∨ (pt = true ∧ digsB F.data.toList = true ∧ F.size ≤ 3) := by
        cases hp : pt with
        | false =>
          right; left
          refine ⟨rfl, ?_⟩
          rw [← list_size, HNP.out hp]; rfl
        | true =>
          cases hd : digsB F.data.toList with
          | false => exact .inl ⟨rfl, .inl rfl⟩
          | true =>
            by_cases h3 : F.size ≤ 3
            · exact .inr (.inr ⟨rfl, rfl, h3⟩)
            · exact .inl ⟨rfl, .inr ⟨rfl, by omega⟩⟩
      rcases way with ⟨rfl, hd⟩ | hyes
      · have hok : ok = false := by
          rw [HB2.out]
          rcases hd with hd | ⟨hd, h3⟩
          · rw [hd]; rfl
          · rw [hd, decide_eq_false (by omega)]; rfl
        have hR := HR2.out hok
        subst hR
        clear HB2 HPP HR2 hok HNP
        rcases hk with k1 | ⟨k1, rfl⟩
        all_goals
          rcases hd with hd | ⟨hd, h3⟩
          all_goals
            rw [hd] at HNF
            have k3 : decide ((F.size : Int) > 3) = true ∨ True := Or.inr trivial
            go_enter Tryz.func119, Tryz.ntmps119
            go_wp2_with fail
            refine HC.out.mono ?_
            rintro e w1 ⟨rfl, hb1⟩
            have HT1 := Lib.hid (HT.out.below hb1)
            have hz1 := bsize hb1
            go_wp2_with fail
            refine (HNW.out _ HT1.out).mono ?_
            rintro e w2 ⟨rfl, hb2⟩
            have HT2 := Lib.hid (HT1.out.below hb2)
            have hz2 := bsize hb2
            go_wp2_with fail
            refine (HNF.out _ HT2.out).mono ?_
            rintro e w3 ⟨rfl, hb3⟩
            have hz3 := bsize hb3
            go_wp2_with fail
            go_ret2
            exact ⟨rfl, (by repeat (first | with_reducible exact Below.refl _ _ | (with_reducible refine Below.setCell ?_ (by first | exact Nat.le_refl _ | omega | (simp; done) | (simp; omega)) _) | (with_reducible refine Below.alloc ?_ (by first | exact Nat.le_refl _ | omega | (simp; done) | (simp; omega)) _) | with_reducible refine Below.drew ?_ | with_reducible refine bel_drewN ?_ _ | (with_reducible refine bel_by (by with_reducible assumption) (by first | exact Nat.le_refl _ | omega | (simp; done) | (simp; omega)) ?_)))⟩
      · have hok : ok = true := by
          rw [HB2.out]
          rcases hyes with ⟨rfl, _⟩ | ⟨rfl, hd, h3⟩
          · rfl
          · rw [hd, decide_eq_true h3]; rfl
        have h3 : F.size ≤ 3 := by rcases hyes with ⟨_, h⟩ | ⟨_, _, h⟩ <;> omega
        have hf : F.data.toList = [] ∨ digsB F.data.toList = true := by
          rcases hyes with ⟨_, h⟩ | ⟨_, h, _⟩
          · exact .inl (List.eq_nil_of_length_eq_zero (by rw [list_size]; exact h))
          · exact .inr h
        obtain ⟨D, hD, hDs, hDD⟩ := HPP.out hf h3 hok
        clear HB2 HPP HR2 hok HNP hf
        have hc : (3 : Int) - (F.size : Int) = ((3 - F.size : Nat) : Int) := by omega
        have hcw : IntKind.i64.wrap ((3 : Int) - (F.size : Int)) = ((3 - F.size : Nat) : Int) := by rw [IntWalk.i64_in _ (by omega)]; exact hc
        have HR3 := Lib.hid (HRR.out (3 - F.size) (by omega))
        have e48 : (⟨(Lib.repeatL (⟨#[48]⟩ : ByteArray).data.toList (3 - F.size)).toArray⟩ : ByteArray) = bs (List.replicate (3 - F.size) 48) := by
          show bs (Lib.repeatL [48] (3 - F.size)) = _
          rw [rep48]
        rw [e48] at HR3
        clear HRR e48
        have hPs : (bs (List.replicate (3 - F.size) 48)).size ≤ 3 := by rw [bs_size, List.length_replicate]; omega
        generalize bs (List.replicate (3 - F.size) 48) = Z at *
        have HD := Lib.hid hD
        clear hD
        have HQ := Lib.hid hDD
        clear hDD
        generalize 3 - F.size = cc at *
        have k3 : decide ((F.size : Int) > 3) = false := by simp; omega
        rcases hyes with ⟨rfl, hF0⟩ | ⟨rfl, hd, _⟩
        · clear hF0
          rcases hk with k1 | ⟨k1, rfl⟩
          all_goals
            go_enter Tryz.func119, Tryz.ntmps119
            go_wp2_with fail
            refine HC.out.mono ?_
            rintro e w1 ⟨rfl, hb1⟩
            have HT1 := Lib.hid (HT.out.below hb1)
            have hz1 := bsize hb1
            go_wp2_with fail
            refine (HNW.out _ HT1.out).mono ?_
            rintro e w2 ⟨rfl, hb2⟩
            have HT2 := Lib.hid (HT1.out.below hb2)
            have hz2 := bsize hb2
            go_wp2_with fail
            refine (HR3.out _).mono ?_
            rintro e w4 ⟨rfl, hb4⟩
            have HT4 := Lib.hid (HT2.out.below hb4)
            have hz4 := bsize hb4
            have hD := HD.out
            rcases HQ.out with ⟨u, hu, hp, hR1, hR2⟩ | ⟨hp, hR⟩
            · have HPA := Lib.hid (fun W => parse_ok D u (by omega) hp W)
              clear hp
              by_cases hu9 : u ≤ 1000000000
              · have hR := hR1 hu9
                subst hR
                have k9 : decide (u > 1000000000) = false := by simp; omega
                clear hR1 hR2 hu
                go_wp2_with fail
                refine (HPA.out _).mono ?_
                rintro e w5 ⟨rfl, hb5⟩
                go_wp2_with fail
                go_ret2
                exact ⟨rfl, (by repeat (first | with_reducible exact Below.refl _ _ | (with_reducible refine Below.setCell ?_ (by first | exact Nat.le_refl _ | omega | (simp; done) | (simp; omega)) _) | (with_reducible refine Below.alloc ?_ (by first | exact Nat.le_refl _ | omega | (simp; done) | (simp; omega)) _) | with_reducible refine Below.drew ?_ | with_reducible refine bel_drewN ?_ _ | (with_reducible refine bel_by (by with_reducible assumption) (by first | exact Nat.le_refl _ | omega | (simp; done) | (simp; omega)) ?_)))⟩
              · have hR := hR2 (by omega)
                subst hR
                have k9 : decide (u > 1000000000) = true := by simp; omega
                clear hR1 hR2 hu
                go_wp2_with fail
                refine (HPA.out _).mono ?_
                rintro e w5 ⟨rfl, hb5⟩
                go_wp2_with fail
                go_ret2
                exact ⟨rfl, (by repeat (first | with_reducible exact Below.refl _ _ | (with_reducible refine Below.setCell ?_ (by first | exact Nat.le_refl _ | omega | (simp; done) | (simp; omega)) _) | (with_reducible refine Below.alloc ?_ (by first | exact Nat.le_refl _ | omega | (simp; done) | (simp; omega)) _) | with_reducible refine Below.drew ?_ | with_reducible refine bel_drewN ?_ _ | (with_reducible refine bel_by (by with_reducible assumption) (by first | exact Nat.le_refl _ | omega | (simp; done) | (simp; omega)) ?_)))⟩
            · subst hR
              have HPA := Lib.hid (fun W hT => parse_range D (by omega) hp W hT)
              clear hp
              go_wp2_with fail
              refine (HPA.out _ HT4.out).mono ?_
              rintro e w5 ⟨⟨x5, t5, p5, rfl⟩, hb5⟩
              go_wp2_with fail
              go_ret2
              exact ⟨rfl, (by repeat (first | with_reducible exact Below.refl _ _ | (with_reducible refine Below.setCell ?_ (by first | exact Nat.le_refl _ | omega | (simp; done) | (simp; omega)) _) | (with_reducible refine Below.alloc ?_ (by first | exact Nat.le_refl _ | omega | (simp; done) | (simp; omega)) _) | with_reducible refine Below.drew ?_ | with_reducible refine bel_drewN ?_ _ | (with_reducible refine bel_by (by with_reducible assumption) (by first | exact Nat.le_refl _ | omega | (simp; done) | (simp; omega)) ?_)))⟩
        · rw [hd] at HNF
          clear hd
          rcases hk with k1 | ⟨k1, rfl⟩
          all_goals
            go_enter Tryz.func119, Tryz.ntmps119
            go_wp2_with fail
            refine HC.out.mono ?_
            rintro e w1 ⟨rfl, hb1⟩
            have HT1 := Lib.hid (HT.out.below hb1)
            have hz1 := bsize hb1
            go_wp2_with fail
            refine (HNW.out _ HT1.out).mono ?_
            rintro e w2 ⟨rfl, hb2⟩
            have HT2 := Lib.hid (HT1.out.below hb2)
            have hz2 := bsize hb2
            go_wp2_with fail
            refine (HNF.out _ HT2.out).mono ?_
            rintro e w3 ⟨rfl, hb3⟩
            have HT3 := Lib.hid (HT2.out.below hb3)
            have hz3 := bsize hb3
            go_wp2_with fail
            refine (HR3.out _).mono ?_
            rintro e w4 ⟨rfl, hb4⟩
            have HT4 := Lib.hid (HT3.out.below hb4)
            have hz4 := bsize hb4
            have hD := HD.out
            rcases HQ.out with ⟨u, hu, hp, hR1, hR2⟩ | ⟨hp, hR⟩
            · have HPA := Lib.hid (fun W => parse_ok D u (by omega) hp W)
              clear hp
              by_cases hu9 : u ≤ 1000000000
              · have hR := hR1 hu9
                subst hR
                have k9 : decide (u > 1000000000) = false := by simp; omega
                clear hR1 hR2 hu
                go_wp2_with fail
                refine (HPA.out _).mono ?_
                rintro e w5 ⟨rfl, hb5⟩
                go_wp2_with fail
                go_ret2
                exact ⟨rfl, (by repeat (first | with_reducible exact Below.refl _ _ | (with_reducible refine Below.setCell ?_ (by first | exact Nat.le_refl _ | omega | (simp; done) | (simp; omega)) _) | (with_reducible refine Below.alloc ?_ (by first | exact Nat.le_refl _ | omega | (simp; done) | (simp; omega)) _) | with_reducible refine Below.drew ?_ | with_reducible refine bel_drewN ?_ _ | (with_reducible refine bel_by (by with_reducible assumption) (by first | exact Nat.le_refl _ | omega | (simp; done) | (simp; omega)) ?_)))⟩
              · have hR := hR2 (by omega)
                subst hR
                have k9 : decide (u > 1000000000) = true := by simp; omega
                clear hR1 hR2 hu
                go_wp2_with fail
                refine (HPA.out _).mono ?_
                rintro e w5 ⟨rfl, hb5⟩
                go_wp2_with fail
                go_ret2
                exact ⟨rfl, (by repeat (first | with_reducible exact Below.refl _ _ | (with_reducible refine Below.setCell ?_ (by first | exact Nat.le_refl _ | omega | (simp; done) | (simp; omega)) _) | (with_reducible refine Below.alloc ?_ (by first | exact Nat.le_refl _ | omega | (simp; done) | (simp; omega)) _) | with_reducible refine Below.drew ?_ | with_reducible refine bel_drewN ?_ _ | (with_reducible refine bel_by (by with_reducible assumption) (by first | exact Nat.le_refl _ | omega | (simp; done) | (simp; omega)) ?_)))⟩
            · subst hR
              have HPA := Lib.hid (fun W hT => parse_range D (by omega) hp W hT)
              clear hp
              go_wp2_with fail
              refine (HPA.out _ HT4.out).mono ?_
              rintro e w5 ⟨⟨x5, t5, p5, rfl⟩, hb5⟩
              go_wp2_with fail
              go_ret2
              exact ⟨rfl, (by repeat (first | with_reducible exact Below.refl _ _ | (with_reducible refine Below.setCell ?_ (by first | exact Nat.le_refl _ | omega | (simp; done) | (simp; omega)) _) | (with_reducible refine Below.alloc ?_ (by first | exact Nat.le_refl _ | omega | (simp; done) | (simp; omega)) _) | with_reducible refine Below.drew ?_ | with_reducible refine bel_drewN ?_ _ | (with_reducible refine bel_by (by with_reducible assumption) (by first | exact Nat.le_refl _ | omega | (simp; done) | (simp; omega)) ?_)))⟩
end Go.Proofs.YtohalocbghhenaaGreatDoor
