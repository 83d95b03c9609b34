/- What is read is possible: the plain facts. -/
import Derived.Test.YtepigooldelgnaaDoorPld
set_option linter.unusedSimpArgs false
set_option linter.unusedVariables false
namespace Go.Proofs.YtepigooldelgnaaDoor
open Go.RowKit

theorem parL_at : ∀ (f o : Nat) (l : List Tk), (parL f o l).2.2.1 ≠ 0 → (parL f o l).2.2.2 = 0 ∨ ∃ x ∈ l, x.a = (parL f o l).2.2.2
  | 0, _, _, h => absurd rfl h
  | _ + 1, _, [], _ => Or.inl rfl
  | f + 1, o, t :: l, h => by
    have key : ∀ (g p : Nat) (m : List Tk), (∀ y ∈ m, y ∈ l) → ((parL g p m).2.2.2 = 0 ∨ ∃ x ∈ m, x.a = (parL g p m).2.2.2) → ((parL g p m).2.2.2 = 0 ∨ ∃ x ∈ t :: l, x.a = (parL g p m).2.2.2) := by
      intro g p m hm h
      rcases h with h | ⟨x, hx, he⟩
      · exact Or.inl h
      · exact Or.inr ⟨x, by simp [hm x hx], he⟩
    by_cases he : endsB o t = true
    · rw [parL_ends he] at h
      exact absurd rfl h
    have he : endsB o t = false := by simpa using he
    by_cases hk : t.k = 1
    · rcases dw_cases l with ⟨d, m, hd, hl, hda⟩ | hd
      · have hin : ∀ y ∈ m, y ∈ l := fun y hy => by rw [hl]; simp [hy]
        have hdl : d ∈ l := by rw [hl]; simp
        by_cases h5 : sgn d 59 = true
        · rw [parL_semi he hk hd h5] at h ⊢
          by_cases h0 : (parL f o m).2.2.1 = 0
          · unfold consR at h
            rw [if_pos h0] at h
            exact absurd rfl h
          · unfold consR
            rw [if_neg h0]
            exact key f o m hin (parL_at f o m h0)
        · have h5 : sgn d 59 = false := by simpa using h5
          by_cases h1 : sgn d 123 = true
          · by_cases h8 : o = 8
            · subst h8
              rw [parL]
              rw [if_neg (by rw [he]; simp), if_neg (by simp [hk]), hd]
              simp only [h5, h1, if_true, if_false, Bool.false_eq_true, Bool.true_eq_false]
              exact Or.inr ⟨d, by simp [hdl], rfl⟩
            · by_cases h0 : (parL f (o + 1) m).2.2.1 = 0
              · rw [parL_block he hk hd h5 h1 h8 h0] at h ⊢
                have hlr := parL_le f (o + 1) m
                by_cases h9 : (parL f o (parL f (o + 1) m).2.1).2.2.1 = 0
                · unfold consR at h
                  rw [if_pos h9] at h
                  exact absurd rfl h
                · unfold consR
                  rw [if_neg h9]
                  exact key f o _ (fun y hy => hin y (parL_sub f (o + 1) m y hy)) (parL_at f o _ h9)
              · rw [parL]
                rw [if_neg (by rw [he]; simp), if_neg (by simp [hk]), hd]
                simp only [h5, h1, h8, h0, if_true, if_false, Bool.false_eq_true, Bool.true_eq_false]
                exact key f (o + 1) m hin (parL_at f (o + 1) m h0)
          · have h1 : sgn d 123 = false := by simpa using h1
            rw [parL]
            rw [if_neg (by rw [he]; simp), if_neg (by simp [hk]), hd]
            simp only [h5, h1, if_true, if_false, Bool.false_eq_true, Bool.true_eq_false]
            exact Or.inr ⟨d, by simp [hdl], rfl⟩
      · rw [parL]
        rw [if_neg (by rw [he]; simp), if_neg (by simp [hk]), hd]
        exact Or.inl rfl
    · rw [parL_odd (by omega) he hk]
      exact Or.inr ⟨t, by simp, rfl⟩
where
  parL_sub : ∀ (f o : Nat) (l : List Tk), ∀ y ∈ (parL f o l).2.1, y ∈ l
  | 0, _, _, y, h => by simp [parL] at h
  | _ + 1, _, [], y, h => by simp [parL] at h
  | f + 1, o, t :: l, y, h => by
    by_cases h0 : (parL (f + 1) o (t :: l)).2.2.1 = 0
    · rcases parL_inv h0 with hb | ⟨hb, h1, d, m, hd, hs⟩
      · rw [parL_ends hb] at h
        simp [h]
      · obtain ⟨d', m', hd', hl, hda⟩ | hn := dw_cases l
        rotate_left
        · rw [hd] at hn; exact absurd hn (by simp)
        rw [hd] at hd'
        simp only [List.cons.injEq] at hd'
        obtain ⟨rfl, rfl⟩ := hd'
        have hin : ∀ y ∈ m, y ∈ l := fun y hy => by rw [hl]; simp [hy]
        rcases hs with ⟨h59, hc⟩ | ⟨h59, h123, h8, hc, hc2⟩
        · rw [parL_semi hb h1 hd h59] at h
          unfold consR at h
          rw [if_pos hc] at h
          exact List.mem_cons_of_mem _ (hin y (parL_sub f o m y h))
        · rw [parL_block hb h1 hd h59 h123 h8 hc] at h
          unfold consR at h
          rw [if_pos hc2] at h
          exact List.mem_cons_of_mem _ (hin y (parL_sub f (o + 1) m y (parL_sub f o _ y h)))
    · rw [parL_bad _ _ _ h0] at h
      simp at h
theorem inc_low : ∀ {p : Int} {l : List Tk}, Inc p l → ∀ x ∈ l, p ≤ x.a
  | _, [], _, x, h => by simp at h
  | p, t :: r, h, x, hx => by
    rw [List.mem_cons] at hx
    rcases hx with rfl | hx
    · exact h.1
    · have := inc_low h.2 x hx
      have := h.1
      omega
/-- a fault lies within the source -/
theorem parS_at (s : ByteArray) (hs : s.size ≤ 65536) (h : (parS s).2.1 ≠ 0) : 0 ≤ (parS s).2.2 ∧ (parS s).2.2 ≤ (s.size : Int) := by
  have hz := list_size s
  have e := lexS_small s hs
  by_cases h0 : (lexR (s.size + 1) s.data.toList 0).2.1 = 0
  · rw [if_pos h0] at e
    obtain ⟨ts, x, l1, l2, l3, l4, l5, l6, l7, l8⟩ := lexR_like (s.size + 1) s.data.toList 0 (by omega) h0
    unfold parS at h ⊢
    rw [e, if_pos h0] at h ⊢
    simp only at h ⊢
    rcases parL_at _ _ _ h with ha | ⟨y, hy, ha⟩
    · rw [ha]; omega
    · rw [← ha]
      refine ⟨by have := inc_low l4 y hy; omega, ?_⟩
      rw [l1, List.mem_append, List.mem_singleton] at hy
      rcases hy with hy | rfl
      · have := l8 y hy; omega
      · rw [l3]; show ((0 + s.data.toList.length : Nat) : Int) ≤ _; omega
  · rw [if_neg h0] at e
    obtain ⟨k, hk, ha⟩ := lexR_fault (s.size + 1) s.data.toList 0 (by omega) h0
    unfold parS
    rw [e]
    simp only [h0, if_false]
    rw [ha]
    omega
theorem formed_small : ∀ (c : Cls), formed c = true → small c
  | .nil, _ => trivial
  | .cons wd xs b k a r, h => by
    simp only [formed, Bool.and_eq_true] at h
    obtain ⟨⟨⟨⟨h1, h2⟩, _⟩, h4⟩, h5⟩ := h
    have sz : ∀ t : Tk, validT t = true → t.t.size ≤ 1000000000 := fun t ht => by
      have h := spell_len t ht
      have hz := list_size t.t
      unfold spellT at h
      split at h
      · rename_i hk
        unfold validT at ht
        rw [if_pos hk] at ht
        simp only [Bool.and_eq_true] at ht
        have := ht.1.1
        rw [List.isEmpty_iff] at this
        rw [this] at hz
        simp at hz
        omega
      · split at h
        · simp only [List.length_cons, List.length_append] at h; omega
        · omega
    refine ⟨sz ⟨1, wd, 0, 0⟩ h1, fun t ht => ?_, formed_small k h4, formed_small r h5⟩
    have := List.all_eq_true.1 h2 t ht
    simp only [Bool.and_eq_true] at this
    exact sz t this.1
/-- what an accepted source has: its tokens, the entries' tokens; the entries are possible -/
theorem parS_ok (s : ByteArray) (hs : s.size ≤ 65536) (h : (parS s).2.1 = 0) : (lexS s).2 = (0, 0) ∧ (lexS s).1.length = (toksC (parS s).1).length + 1 ∧ checkS (parS s).1 = 0 ∧ small (parS s).1 ∧ parL ((lexS s).1.length + 1) 0 (lexS s).1 = ((parS s).1, [], 0, 0) := by
  have hz := list_size s
  have e := lexS_small s hs
  by_cases h0 : (lexR (s.size + 1) s.data.toList 0).2.1 = 0
  · rw [if_pos h0] at e
    obtain ⟨ts, x, l1, l2, l3, l4, l5, l6, l7, l8⟩ := lexR_like (s.size + 1) s.data.toList 0 (by omega) h0
    unfold parS at h ⊢
    rw [e, if_pos h0] at h ⊢
    rw [l5]
    simp only at h ⊢
    rw [l1] at h ⊢
    have q := parL_fuel ((ts ++ [x]).length + 1) (ts.length + 2) 0 (ts ++ [x]) (by omega) (by simp)
    rw [q] at h ⊢
    have hv : ∀ t ∈ ts ++ [x], validT t = true := fun t ht => by
      rw [List.mem_append, List.mem_singleton] at ht
      rcases ht with ht | rfl
      · exact (l2 t ht).1
      · rw [l3]; simp [validT, vText, bs]
    obtain ⟨_, r2⟩ := parL_app (ts.length + 2) 0 ts x (fun t ht => (l2 t ht).2) (by rw [l3]) (by omega) h
    obtain ⟨r3, _⟩ := r2 rfl
    obtain ⟨L, y, t1, t2, t3, t4, t5⟩ := parL_toks (ts.length + 2) 0 (ts ++ [x]) (by simp) hv h
    have hg := parL_good _ _ _ h
    rw [r3] at t1
    have hl3 := congrArg List.length t3
    simp only [List.length_map] at hl3
    have hl1 := congrArg List.length t1
    simp only [List.length_append, List.length_singleton] at hl1
    refine ⟨by simp, by rw [← hl3]; simp; omega, ?_, formed_small _ t4, ?_⟩
    · have h5 := t5 (by omega)
      have hc : ∀ C : Cls, formed C = true → C.depth ≤ 8 → checkS C = 0 := fun C c1 c2 => by
        unfold checkS
        rw [if_pos c1, if_neg (by omega)]
      exact hc _ t4 (by omega)
    · have e2 : parL (ts.length + 2) 0 (ts ++ [x]) = ((parL (ts.length + 2) 0 (ts ++ [x])).1, (parL (ts.length + 2) 0 (ts ++ [x])).2.1, (parL (ts.length + 2) 0 (ts ++ [x])).2.2) := rfl
      rw [r3, hg] at e2
      exact e2
  · rw [if_neg h0] at e
    unfold parS at h
    rw [e] at h
    simp only [h0, if_false] at h
end Go.Proofs.YtepigooldelgnaaDoor
/- The law of what is read: it is possible, and stands at its offsets: for every string. -/
namespace Go.Proofs.YtepigooldelgnaaDoor
open Go.RowKit

set_option maxHeartbeats 8000000 in
set_option maxRecDepth 100000 in
theorem possible_walk (s : ByteArray) (hs : s.size ≤ 9223372036854775807) (w : World) (hT : Tabs w) : Calls Tryd.prog 3 #[.string s] w fun e w' => e = .returned (.bool true) ∧ Below w.heap.size w w' := by
  have HA := Lib.hid (awake_any w hT)
  have HT := Lib.hid hT
  clear hT
  by_cases h1 : 1500 < s.size
  · have k1 : decide ((s.size : Int) > 1500) = true := decide_eq_true (by omega)
    go_enter Tryd.func3, Tryd.ntmps3
    go_wp2_with fail
    refine HA.out.mono ?_
    rintro e w1 ⟨rfl, hb1⟩
    go_wp2_with fail
    go_ret
    exact ⟨rfl, hb1⟩
  have k1 : decide ((s.size : Int) > 1500) = false := decide_eq_false (by omega)
  have hs2 : s.size ≤ 1500 := by omega
  clear hs h1
  have HP := Lib.hid (fun W hW => parl_any s W hW)
  have HX := Lib.hid (fun W hW => lex_any s W hW)
  have HPB := Lib.hid (@parS_bad s)
  have HPG := Lib.hid (@parS_good s)
  have HPC := Lib.hid (parS_count s)
  have HPA := Lib.hid (parS_at s (by omega))
  have HOK := Lib.hid (parS_ok s (by omega))
  have HLN := Lib.hid (fun h => (@lexS_ok s h).2.1)
  generalize parS s = P at *
  generalize lexS s = X at *
  obtain ⟨c, pc, pa⟩ := P
  obtain ⟨L, lc, la⟩ := X
  unfold PrlPost fV at HP
  unfold LexPost fV at HX
  simp only at HP HX HPB HPG HPC HPA HOK HLN
  go_enter Tryd.func3, Tryd.ntmps3
  go_wp2_with fail
  refine HA.out.mono ?_
  rintro e w1 ⟨rfl, hb1⟩
  have HB1 := Lib.hid hb1
  clear hb1 HA
  go_wp2_with fail
  refine (HP.out _ (HT.out.below HB1.out)).mono ?_
  rintro e w2 ⟨a2, b2, cap2, rfl, sl2, hb2, _⟩
  have HB2 := Lib.hid (HB1.out.trans (Below.mono hb2 HB1.out.size))
  have HL := Lib.hid (SlC.mono (G := fun y => y < w2.heap.size) (fun y hy => hy.2) sl2)
  have hs2w := HB2.out.size
  clear sl2 hb2 HB1
  have HB3 := Lib.hid (HB2.out.alloc (by omega) (.cells #[.int .i64 pc, .int .i64 pa] 26))
  have HW3 := Lib.hid ((Below.refl w2.heap.size w2).alloc (Nat.le_refl _) (.cells #[.int .i64 pc, .int .i64 pa] 26))
  have HF3 := Lib.hid (ft_new w2 pc pa 26)
  obtain ⟨f0, f1, ff, fl⟩ := HF3.out
  clear HB2
  by_cases hpc : pc = 0
  · subst hpc
    have hg := HPG.out rfl
    simp only [Prod.mk.injEq, true_and] at hg
    subst hg
    obtain ⟨ho1, ho2, ho3, ho4, ho5⟩ := HOK.out rfl
    simp only [Prod.mk.injEq] at ho1
    obtain ⟨rfl, rfl⟩ := ho1
    have hlen := HLN.out rfl
    have hPC := HPC.out
    have HCK := Lib.hid (fun W (h : SlC W (fun y => y < w2.heap.size) a2 b2 0 c.len cap2 c) hW => show Calls Tryd.prog 10 #[.slice a2 c.len cap2] W (fun e w' => e = .returned (.int .i64 0) ∧ Below W.heap.size W w') from by
      have := check_any c (by omega) ho4 W _ a2 b2 0 cap2 h hW
      rw [ho3] at this
      exact this)
    have HTO := Lib.hid (fun W (h : SlC W (fun y => y < w2.heap.size) a2 b2 0 c.len cap2 c) => tok_any (c.count + 1) (by omega) c (Nat.lt_succ_self _) (by omega) W _ a2 b2 0 cap2 h)
    have HPL := Lib.hid (fun W a' b' o' cap' (h : SlC W (fun y => y < w2.heap.size) a2 b2 0 c.len cap2 c) (h' : SlT W a' b' o' L.length cap' L) => pld_any (L.length + 1) (by omega) (c.count + 1) (by omega) c (Nat.lt_succ_self _) 0 L [] (Nat.lt_succ_self _) ho5 W _ a2 b2 0 cap2 a' b' o' cap' h h')
    simp only [List.length_nil] at HPL
    have HLE := Lib.hid ho2
    generalize toksC c = TK at *
    clear ho3 ho4 ho5 ho2 HOK HPG HPB HPA HPC HLN
    have hle : TK.length < L.length := by have := HLE.out; omega
    go_wp2_with fail
    clear f0 f1 ff fl
    refine (HX.out _ (HT.out.below HB3.out)).mono ?_
    rintro e w4 ⟨v4, rfl, ho4, hb4⟩
    obtain ⟨a4, b4, cap4, rfl, sl4⟩ := slt_own ho4
    have HB4 := Lib.hid (HB3.out.trans (Below.mono hb4 HB3.out.size))
    have HW4 := Lib.hid (HW3.out.trans (Below.mono hb4 HW3.out.size))
    have HS4 := Lib.hid sl4
    have hs4 := HB4.out.size
    have hs4w := HW4.out.size
    clear sl4 ho4 hb4 HB3 HW3 HF3
    have HB5 := Lib.hid (HB4.out.alloc (by omega) (.cells #[.int .i64 0, .int .i64 0] 26))
    have HW5 := Lib.hid (HW4.out.alloc (by omega) (.cells #[.int .i64 0, .int .i64 0] 26))
    have HS5 := Lib.hid (HS4.out.keep ((Below.refl _ _).alloc (Nat.le_refl _) (.cells #[.int .i64 0, .int .i64 0] 26)))
    have HF5 := Lib.hid (ft_new w4 0 0 26)
    clear HB4 HW4 HS4
    go_wp2_with fail
    refine (HCK.out _ (HL.out.low (fun x hx => hx) HW5.out) (HT.out.below HB5.out)).mono ?_
    rintro e w6 ⟨rfl, hb6⟩
    have HB6 := Lib.hid (HB5.out.trans (Below.mono hb6 HB5.out.size))
    have HW6 := Lib.hid (HW5.out.trans (Below.mono hb6 HW5.out.size))
    have HS6 := Lib.hid (HS5.out.keep hb6)
    obtain ⟨f0, f1, ff, fl⟩ := HF5.out.keep hb6
    clear hb6 HB5 HW5 HS5 HF5
    have z0 : ((L.length : Int) == 0) = false := beq_eq_false_iff_ne.2 (by omega)
    have z1 : ¬ (L.length : Int) = 0 := by omega
    have z2 : ¬ L.length = 0 := by omega
    go_wp2_with fail
    clear f0 f1 ff fl
    refine (HTO.out _ (HL.out.low (fun x hx => hx) HW6.out)).mono ?_
    rintro e w7 ⟨v7, rfl, ho7, hb7⟩
    obtain ⟨a7, cap7, rfl⟩ := own_form ho7
    have HB7 := Lib.hid (HB6.out.trans (Below.mono hb7 HB6.out.size))
    have HW7 := Lib.hid (HW6.out.trans (Below.mono hb7 HW6.out.size))
    have HS7 := Lib.hid (HS6.out.keep hb7)
    clear ho7 hb7 HB6 HW6 HS6
    have y1 : ((TK.length : Int) == (L.length : Int) - 1) = true := beq_iff_eq.2 (by have := HLE.out; omega)
    have y3 : ((L.length : Int) - 0 - 1 == (TK.length : Int)) = true := beq_iff_eq.2 (by have := HLE.out; omega)
    have hs7 := HB7.out.size
    go_wp2_with fail
    refine (HPL.out _ _ _ _ _ (HL.out.low (fun x hx => hx) HW7.out) HS7.out).mono ?_
    rintro e w8 ⟨rfl, hb8⟩
    have HB8 := Lib.hid (HB7.out.trans (Below.mono hb8 HB7.out.size))
    clear hb8
    go_wp2_with fail
    go_ret
    exact ⟨by first | rfl | (simp; done) | (have := HLE.out; simp; omega), HB8.out⟩
  · have q0 : (pc == 0) = false := by simpa using hpc
    have q1 : (pc != 0) = true := by simpa using hpc
    obtain ⟨p1, p2⟩ := HPA.out hpc
    have hcn := HPB.out hpc
    subst hcn
    have r1 : decide (pa ≥ 0) = true := decide_eq_true p1
    have r2 : decide (pa ≤ (s.size : Int)) = true := decide_eq_true p2
    clear HOK HPG HPB HPA HPC HLN
    go_wp2_with fail
    go_ret
    exact ⟨by first | rfl | (simp [Cls.len]; done) | (simp [Cls.len, p1, p2]; done), HB3.out⟩
end Go.Proofs.YtepigooldelgnaaDoor
