/- The reader of lines: read; Parse. -/
import Derived.Test.YtccglojnjakbfaaCha
set_option linter.unusedSimpArgs false
set_option linter.unusedVariables false
namespace Go.Proofs.Ytccglojnjakbfaa
open Go.RowKit

theorem quietD {P : Program} {f : FuncId} {args : Array Value} {w : World} {n : Nat} {v : Value} (h : Calls P f args (w.drewN n) fun e w' => e = .returned v ∧ ∃ m, w' = (w.drewN n).drewN m) : Calls P f args (w.drewN n) fun e w'' => e = .returned v ∧ ∃ m, w'' = w.drewN m :=
  h.mono fun _ _ ⟨he, m, hm⟩ => ⟨he, n + m, by rw [hm, World.drewN_drewN]⟩
theorem redP_len (L : List UInt8) : ∀ (f p : Nat) (acc : List It), acc.length ≤ 30 → (redP L f p acc).2.1.length ≤ 30
  | 0, p, acc, h => h
  | f + 1, p, acc, h => by
    rw [redP]
    have hc := chnP_len L (L.length + 1) (p + runN blB L p) acc h
    split
    · exact h
    · split
      · split
        · exact redP_len L f _ _ hc
        · exact hc
      · exact hc
/-- what read leaves -/
def RedPost (w : World) (b : Nat) (s : ByteArray) (t : Int × List It × Nat) (e : Ending) (w' : World) : Prop :=
  ∃ (v : Value) (q : Nat), e = .returned (.int .i64 t.1) ∧ (t.1 ≠ 0 → q = t.2.2) ∧ RdAt w' b s q v ∧ w'.ownsRow (b + 1) 49 5 v t.2.1.length (flatX t.2.1) ∧ Below b w w'
set_option maxHeartbeats 4000000 in
set_option maxRecDepth 100000 in
theorem read_any {w : World} {b : Nat} {s : ByteArray} {v : Value} (h : RdAt w b s 0 v) (ho : w.ownsRow (b + 1) 49 5 v 0 []) (hs : s.size ≤ 1000000) :
    Calls Try.prog 25 #[.pointer (some ⟨b, 0, none⟩)] w (RedPost w b s (redP s.data.toList (s.size + 1) 0 [])) := by
  obtain ⟨T, hT⟩ : ∃ T, redP s.data.toList (s.size + 1) 0 [] = T := ⟨_, rfl⟩
  rw [hT]
  have HT := Lib.hid hT
  have HP0 := Lib.hid (pass_any h (Nat.zero_le _) hs)
  have HO0 := Lib.hid ho
  have hbw : b < w.heap.size := h.lt
  have hsl : s.data.toList.length = s.size := list_size s
  have HSL := Lib.hid hsl
  have hr0 := runN_le blB s.data.toList 0 (Nat.zero_le _)
  rw [hsl] at hr0
  unfold RedPost
  clear hT h ho hsl
  go_enter Try.func25, Try.ntmps25
  go_wp2_with fail
  refine HP0.out.mono ?_
  rintro e w1 ⟨rfl, hr1, hk1⟩
  have HR1 := Lib.hid hr1
  have HO1 := Lib.hid (own_kp HO0.out (Nat.lt_succ_self _) hk1)
  have HB1 := Lib.hid (hk1.below (B := b) (by omega) (Nat.le_refl _) (Nat.le_refl _))
  clear hr1 hk1 HP0 HO0
  go_wp2_with fail
  go_loopw [3] (fun s3 wr => ∃ (k p : Nat) (ac : List It) (v' : Value), p ≤ s.size ∧ k = p + runN blB s.data.toList p ∧ k ≤ s.size ∧ ac.length ≤ 30 ∧ Hid (RdAt wr b s k v') ∧ Hid (wr.ownsRow (b + 1) 49 5 v' ac.length (flatX ac)) ∧ Hid (Below b w wr) ∧ Hid (redP s.data.toList (s.size - p + 1) p ac = T)) (fun _ wr => s.size - offOf wr b)
  case atStart => exact ⟨0 + runN blB s.data.toList 0, 0, [], v, Nat.zero_le _, rfl, by omega, by simp, HR1, HO1, HB1, by rw [Nat.sub_zero]; exact HT⟩
  case round =>
    obtain ⟨k, p, ac, v', hp, hkp, hk, hac, HR, HO, HB, HE⟩ := hrel
    clear HR1 HO1 HB1 HT
    have HKP := Lib.hid hkp
    have hpk : p ≤ k := by omega
    have hE := HE.out
    rw [redP, ← hkp, HSL.out] at hE
    have HE2 := Lib.hid hE
    have hb0 : b < wr.heap.size := HR.out.lt
    have HOF := Lib.hid (show offOf wr b = k from offOf_eq HR.out)
    clear hE HE hkp
    obtain ⟨c0, c1, c2, cf, cl⟩ := HR.out
    by_cases hlt : k < s.size
    · have hl : (k : Int) < (s.size : Int) := by omega
      have hE3 := HE2.out
      rw [if_neg (by omega)] at hE3
      have HCH := Lib.hid (fun W (hR : RdAt W b s k v') (hO : W.ownsRow (b + 1) 49 5 v' ac.length (flatX ac)) => chain_any hR hO hk hs hac)
      have hat := chnP_at s.data.toList (s.size + 1) k ac (by rw [HSL.out]; exact hk) (by rw [HSL.out]; omega)
      have hln := chnP_len s.data.toList (s.size + 1) k ac hac
      rw [HSL.out] at hat
      unfold ChnPost at HCH
      generalize chnP s.data.toList (s.size + 1) k ac = t at *
      obtain ⟨e0, ac2, q⟩ := t
      simp only at HCH hat hln hE3
      have HE3 := Lib.hid hE3
      have HAT := Lib.hid hat
      clear hE3 hat HE2
      go_wp2_with fail
      go_quiet (fail)
      go_wp2_with fail
      refine (HCH.out _ (HR.out.drewN _) (own_below HO.out (bel_drewN (Below.refl _ _) _))).mono ?_
      rintro e w2 ⟨v2, rfl, hr2, ho2, hb2⟩
      have HR2 := Lib.hid hr2
      have HO2 := Lib.hid ho2
      have HB2 := Lib.hid ((bel_drewN HB.out _).trans hb2)
      clear hr2 ho2 hb2 HR HO HB HCH c0 c1 c2 cf cl
      by_cases h0 : e0 = 0
      · subst h0
        have hkq := HAT.out.2.2 rfl
        have hqs := HAT.out.2.1
        have hE4 := HE3.out
        rw [if_pos rfl] at hE4
        have HE4 := Lib.hid hE4
        clear hE4 HE3
        obtain ⟨c0, c1, c2, cf, cl⟩ := HR2.out
        have HST := Lib.hid (fun n => stands_draws (HR2.out.drewN n) hs 32 (by decide))
        rw [show UInt8.ofNat 32 = 32 from rfl] at HST
        have HPA := Lib.hid (fun W (hW : RdAt W b s q v2) => pass_any hW hqs hs)
        have hrq := runN_le blB s.data.toList q (by rw [HSL.out]; exact hqs)
        rw [HSL.out] at hrq
        by_cases hqlt : q < s.size
        · have hql : (q : Int) < (s.size : Int) := by omega
          have g1 : decide ((q : Int) < (s.size : Int)) = true := decide_eq_true hql
          cases hJ : isAt 32 s.data.toList q with
          | true =>
            rw [hJ] at HST
            have HE5 := Lib.hid (show redP s.data.toList (s.size - q + 1) q ac2 = T by
              rw [← HE4.out, if_pos (Or.inr hJ)]
              exact redP_fuel _ _ _ _ _ (by rw [HSL.out]; omega) (by rw [HSL.out]; omega) (by rw [HSL.out]; omega))
            clear hJ HE4
            go_wp2_with fail
            go_quiet ((first | (go_at_call 38; exact quietD (HST.out _))))
            go_wp2_with fail
            refine (HPA.out _ (HR2.out.drewN _)).mono ?_
            rintro e w3 ⟨rfl, hr3, hk3⟩
            have HR3 := Lib.hid hr3
            have HO3 := Lib.hid (own_kp (own_below HO2.out (bel_drewN (Below.refl _ _) _)) (Nat.lt_succ_self _) hk3)
            have HB3 := Lib.hid ((bel_drewN HB2.out _).trans (hk3.below (B := b) (by show b ≤ w2.heap.size; omega) (Nat.le_refl _) (Nat.le_refl _)))
            clear hr3 hk3
            go_wp2_with fail
            go_roundw
            case rel => exact ⟨_, q, ac2, v2, hqs, rfl, hrq, hln, HR3, HO3, HB3, HE5⟩
            case measure =>
              rw [HOF.out, offOf_eq HR3.out]
              omega
          | false =>
            rw [hJ] at HST
            have HE5 := Lib.hid (show (2, ac2, q) = T by
              rw [← HE4.out, if_neg (by rw [hJ]; simp; omega)])
            clear hJ HE4
            go_wp2_with fail
            go_quiet ((first | (go_at_call 38; exact quietD (HST.out _))))
            go_wp2_with fail
            go_ret
            rw [← HE5.out]
            exact ⟨v2, q, rfl, fun _ => rfl, HR2.out.drewN _, own_below HO2.out (bel_drewN (Below.refl _ _) _), bel_drewN HB2.out _⟩
        · obtain rfl : q = s.size := by omega
          have hql : ¬ (s.size : Int) < (s.size : Int) := by omega
          have g1 : decide ((s.size : Int) < (s.size : Int)) = false := decide_eq_false hql
          have HE5 := Lib.hid (show redP s.data.toList (s.size - s.size + 1) s.size ac2 = T by
            rw [← HE4.out, if_pos (Or.inl rfl)]
            exact redP_fuel _ _ _ _ _ (by rw [HSL.out]; omega) (by rw [HSL.out]; omega) (by rw [HSL.out]; omega))
          clear HE4
          go_wp2_with fail
          go_quiet (fail)
          go_wp2_with fail
          refine (HPA.out _ (HR2.out.drewN _)).mono ?_
          rintro e w3 ⟨rfl, hr3, hk3⟩
          have HR3 := Lib.hid hr3
          have HO3 := Lib.hid (own_kp (own_below HO2.out (bel_drewN (Below.refl _ _) _)) (Nat.lt_succ_self _) hk3)
          have HB3 := Lib.hid ((bel_drewN HB2.out _).trans (hk3.below (B := b) (by show b ≤ w2.heap.size; omega) (Nat.le_refl _) (Nat.le_refl _)))
          clear hr3 hk3
          go_wp2_with fail
          go_roundw
          case rel => exact ⟨_, s.size, ac2, v2, hqs, rfl, hrq, hln, HR3, HO3, HB3, HE5⟩
          case measure =>
            rw [HOF.out, offOf_eq HR3.out]
            omega
      · have hE4 := HE3.out
        rw [if_neg h0] at hE4
        have HE4 := Lib.hid hE4
        have k0 : (e0 == 0) = false := by simpa using h0
        have k1 : (e0 != 0) = true := by simpa using h0
        clear h0 hE4 HE3
        go_wp2_with fail
        go_ret
        rw [← HE4.out]
        exact ⟨v2, q, rfl, fun _ => rfl, HR2.out, HO2.out, HB2.out⟩
    · obtain rfl : k = s.size := by omega
      have hl : ¬ (s.size : Int) < (s.size : Int) := by omega
      have HE3 := Lib.hid (show (0, ac, s.size) = T by rw [← HE2.out, if_pos rfl])
      go_wp2_with fail
      go_quiet (fail)
      go_wp2_with fail
      go_ret
      rw [← HE3.out]
      exact ⟨v', s.size, rfl, fun h => absurd rfl h, HR.out.drewN _, own_below HO.out (bel_drewN (Below.refl _ _) _), bel_drewN HB.out _⟩
/-- what Parse gives -/
def ParPost (w : World) (x : List It × Int × Int) (e : Ending) (w' : World) : Prop :=
  ∃ v, e = .returned (.tuple #[v, fV x.2.1 x.2.2]) ∧ w'.ownsRow w.heap.size 49 5 v x.1.length (flatX x.1) ∧ Below w.heap.size w w'
set_option maxHeartbeats 4000000 in
set_option maxRecDepth 100000 in
theorem parse_any (s : ByteArray) (hs : s.size ≤ 1000000) (w : World) : Calls Try.prog 11 #[.string s] w (ParPost w (parP s.data.toList)) := by
  have HRE := Lib.hid (fun W b v (h : RdAt W b s 0 v) (ho : W.ownsRow (b + 1) 49 5 v 0 []) => read_any h ho hs)
  have HF0 := Lib.hid (ft_new w 0 0 26)
  have HPA := Lib.hid (show parP s.data.toList = if (redP s.data.toList (s.size + 1) 0 []).1 = 0 then ((redP s.data.toList (s.size + 1) 0 []).2.1, 0, 0) else ([], (redP s.data.toList (s.size + 1) 0 []).1, ((redP s.data.toList (s.size + 1) 0 []).2.2 : Int)) by unfold parP; rw [list_size])
  unfold RedPost at HRE
  generalize redP s.data.toList (s.size + 1) 0 [] = t at *
  obtain ⟨e0, ac, q⟩ := t
  simp only at HRE HPA
  have HR0 := Lib.hid (show RdAt ((w.alloc (.cells #[.int .i64 0, .int .i64 0] 26)).alloc (.cells #[.string s, .int .i64 0, .slice none 0 0] 51)) (w.heap.size + 1) s 0 (.slice none 0 0) by
    refine ⟨?_, ?_, ?_, fun k => ?_, ?_⟩
    all_goals simp [go_sem])
  have HB0 := Lib.hid (show Below w.heap.size w ((w.alloc (.cells #[.int .i64 0, .int .i64 0] 26)).alloc (.cells #[.string s, .int .i64 0, .slice none 0 0] 51)) from (by repeat (first | with_reducible exact Below.refl _ _ | (with_reducible refine Below.setCell ?_ (by first | exact Nat.le_refl _ | omega | (simp; done) | (simp; omega)) _) | (with_reducible refine Below.alloc ?_ (by first | exact Nat.le_refl _ | omega | (simp; done) | (simp; omega)) _) | with_reducible refine Below.drew ?_ | with_reducible refine bel_drewN ?_ _ | (with_reducible refine bel_by (by with_reducible assumption) (by first | exact Nat.le_refl _ | omega | (simp; done) | (simp; omega)) ?_))))
  have HF1 := Lib.hid (HF0.out.keep ((Below.refl _ _).alloc (Nat.le_refl _) (.cells #[.string s, .int .i64 0, .slice none 0 0] 51)))
  by_cases h0 : e0 = 0
  · subst h0
    have hpar := HPA.out
    rw [if_pos rfl] at hpar
    rw [hpar]
    unfold ParPost
    simp only
    clear hpar HPA
    go_enter Try.func11, Try.ntmps11
    go_wp2_with fail
    refine (HRE.out _ _ _ HR0.out (World.ownsRow_nil _ _ _ _)).mono ?_
    rintro e w1 ⟨v, p, rfl, hp, hr1, ho1, hb1⟩
    have HR1 := Lib.hid hr1
    have HO1 := Lib.hid ho1
    have HB1 := Lib.hid (HB0.out.trans (hb1.mono (Nat.le_succ _)))
    have HF2 := Lib.hid (HF1.out.low hb1 (Nat.lt_succ_self _))
    clear hp hr1 ho1 hb1 HRE HR0 HB0 HF0 HF1
    obtain ⟨c0, c1, c2, cf, cl⟩ := HR1.out
    obtain ⟨y0, y1, yf, yl⟩ := HF2.out
    go_wp2_with fail
    have hbw := HB1.out
    refine bodyPost_ret (v := .tuple #[v, fV 0 0]) (by simp [results, Try.results11, go_sem, fV, y0, y1, yf, yl]) rfl ?_
    exact ⟨v, rfl, own_low (ownsRow_setCell_below (ownsRow_setCell_below HO1.out (show w.heap.size < w.heap.size + 1 + 1 by omega) _) (show w.heap.size < w.heap.size + 1 + 1 by omega) _) (by omega), (by repeat (first | with_reducible exact Below.refl _ _ | (with_reducible refine Below.setCell ?_ (by first | exact Nat.le_refl _ | omega | (simp; done) | (simp; omega)) _) | (with_reducible refine Below.alloc ?_ (by first | exact Nat.le_refl _ | omega | (simp; done) | (simp; omega)) _) | with_reducible refine Below.drew ?_ | with_reducible refine bel_drewN ?_ _ | (with_reducible refine bel_by (by with_reducible assumption) (by first | exact Nat.le_refl _ | omega | (simp; done) | (simp; omega)) ?_)))⟩
  · have hpar := HPA.out
    rw [if_neg h0] at hpar
    rw [hpar]
    have k0 : (e0 == 0) = false := by simpa using h0
    have k1 : (e0 != 0) = true := by simpa using h0
    have HNE := Lib.hid h0
    unfold ParPost
    simp only
    clear hpar HPA h0
    go_enter Try.func11, Try.ntmps11
    go_wp2_with fail
    refine (HRE.out _ _ _ HR0.out (World.ownsRow_nil _ _ _ _)).mono ?_
    rintro e w1 ⟨v, p, rfl, hp, hr1, ho1, hb1⟩
    obtain rfl := hp HNE.out
    have HR1 := Lib.hid hr1
    have HB1 := Lib.hid (HB0.out.trans (hb1.mono (Nat.le_succ _)))
    have HF2 := Lib.hid (HF1.out.low hb1 (Nat.lt_succ_self _))
    clear hp hr1 ho1 hb1 HRE HR0 HB0 HF0 HF1
    obtain ⟨c0, c1, c2, cf, cl⟩ := HR1.out
    obtain ⟨y0, y1, yf, yl⟩ := HF2.out
    go_wp2_with fail
    go_region
    all_goals
      go_wp2_with fail
      have hbw := HB1.out
      refine bodyPost_ret (v := .tuple #[.slice none 0 0, fV e0 (p : Int)]) (by simp [results, Try.results11, go_sem, fV, y0, y1, yf, yl]) rfl ?_
      exact ⟨_, rfl, World.ownsRow_nil _ _ _ _, (by repeat (first | with_reducible exact Below.refl _ _ | (with_reducible refine Below.setCell ?_ (by first | exact Nat.le_refl _ | omega | (simp; done) | (simp; omega)) _) | (with_reducible refine Below.alloc ?_ (by first | exact Nat.le_refl _ | omega | (simp; done) | (simp; omega)) _) | with_reducible refine Below.drew ?_ | with_reducible refine bel_drewN ?_ _ | (with_reducible refine bel_by (by with_reducible assumption) (by first | exact Nat.le_refl _ | omega | (simp; done) | (simp; omega)) ?_)))⟩
end Go.Proofs.Ytccglojnjakbfaa
