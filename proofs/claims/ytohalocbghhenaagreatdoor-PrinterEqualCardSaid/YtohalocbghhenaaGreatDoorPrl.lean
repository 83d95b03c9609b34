/- Contract of layer 10: Parse. -/
import Derived.Test.YtohalocbghhenaaGreatDoorEnts
import Derived.Test.YtohalocbghhenaaGreatDoorEnts
set_option linter.unusedSimpArgs false
set_option linter.unusedVariables false
namespace Go.Proofs.YtohalocbghhenaaGreatDoor
open Go.RowKit

theorem lexS_ok {s : ByteArray} (h : (lexS s).2.1 = 0) : HasE (lexS s).1 ∧ (lexS s).1.length ≤ 65537 ∧ (lexS s).2 = (0, 0) := by
  unfold lexS at h ⊢
  split at h
  · exact absurd h (by simp)
  · rename_i hs
    rw [if_neg hs]
    split at h
    · rename_i h0
      rw [if_pos h0]
      have hz := list_size s
      obtain ⟨ts, e, l1, _, l3, _, l5, _, l7, _⟩ := lexR_like (s.size + 1) s.data.toList 0 (by omega) h0
      refine ⟨?_, ?_, l5⟩
      · rw [l1]; exact ⟨e, by simp, by rw [l3]⟩
      · rw [l1]; simp; omega
    · exact absurd h (by assumption)
/-- what Parse gives -/
def PrsPost (w : World) (x : Cls × Int × Int) (e : Ending) (w' : World) : Prop :=
  ∃ v vs, e = .returned (.tuple #[v, fV x.2.1 x.2.2]) ∧ w'.ownsRow w.heap.size 25 5 v x.1.len vs ∧ RdC w' (fun x => w.heap.size ≤ x ∧ v.ownBlock ≠ some x) vs x.1 ∧ Below w.heap.size w w'
theorem ps_new (w : World) (v : Value) (T : TypeId) : PsAt (w.alloc (.cells #[v, .int .i64 0] T)) w.heap.size v 0 := by
  refine ⟨?_, ?_, fun k => ?_, ?_⟩
  all_goals simp [go_sem]
theorem gr_below {B : Nat} {w w1 w2 : World} {r : Nat} (h : Below B w w1) (hg : w1.grownBy w2 (some r)) (hr : B ≤ r) (hB : B ≤ w.heap.size) : Below B w w2 :=
  ⟨hg.os.trans h.os, hg.tape.trans h.tape, hg.output.trans h.output, Nat.le_trans h.size hg.size, fun k hk => (hg.block k (Nat.lt_of_lt_of_le hk (Nat.le_trans hB h.size)) (fun e => by cases e; omega)).trans (h.block k hk)⟩
set_option maxHeartbeats 8000000 in
set_option maxRecDepth 100000 in
theorem parse_any (s : ByteArray) (w : World) (hT : Tabs w) : Calls Tryz.prog 22 #[.string s] w (PrsPost w (parS s)) := by
  have HT := Lib.hid hT
  have HX := Lib.hid (fun W hW => lex_any s W hW)
  have HOK := Lib.hid (fun h => @lexS_ok s h)
  have HPS := Lib.hid (show parS s = if (lexS s).2.1 = 0 then ((parL ((lexS s).1.length + 1) 0 (lexS s).1).1, (parL ((lexS s).1.length + 1) 0 (lexS s).1).2.2) else (.nil, (lexS s).2) from rfl)
  obtain ⟨X, hX⟩ : ∃ X, lexS s = X := ⟨_, rfl⟩
  rw [hX] at HX HOK HPS
  obtain ⟨L, c, fa⟩ := X
  unfold LexPost fV at HX
  simp only at HX HOK HPS
  clear hX hT
  go_enter Tryz.func22, Tryz.ntmps22
  go_wp2_with fail
  have HB1 := Lib.hid (show Below w.heap.size w (w.alloc (.cells #[.int .i64 0, .int .i64 0] 40)) from (by repeat (first | with_reducible exact Below.refl _ _ | (with_reducible refine Below.setCell ?_ (by first | exact Nat.le_refl _ | omega | (simp; done) | (simp; omega)) _) | (with_reducible refine Below.alloc ?_ (by first | exact Nat.le_refl _ | omega | (simp; done) | (simp; omega)) _) | with_reducible refine Below.drew ?_ | with_reducible refine bel_drewN ?_ _ | (with_reducible refine bel_by (by with_reducible assumption) (by first | exact Nat.le_refl _ | omega | (simp; done) | (simp; omega)) ?_))))
  refine (HX.out _ (HT.out.below HB1.out)).mono ?_
  rintro e w1 ⟨v1, rfl, ho1, hb1⟩
  have HF1 := Lib.hid ((ft_new w 0 0 40).keep hb1)
  have HB2 := Lib.hid (bel_by hb1 (by simp) HB1.out)
  have hs1 := hb1.size
  simp only [World.size_alloc] at hs1
  obtain ⟨a1, b1, cap1, rfl, sl1⟩ := slt_own ho1
  have HSL := Lib.hid sl1
  have HOL := Lib.hid (fun (h : 0 < L.length) => sl1.hb h)
  clear ho1 hb1 HX HB1
  have HB3 := Lib.hid (HB2.out.alloc (by omega) (.cells #[.int .i64 c, .int .i64 fa] 40))
  have HF3 := Lib.hid (HF1.out.keep ((Below.refl _ _).alloc (Nat.le_refl _) (.cells #[.int .i64 c, .int .i64 fa] 40)))
  have HG3 := Lib.hid (ft_new w1 c fa 40)
  have HS3 := Lib.hid (HSL.out.keep ((Below.refl _ _).alloc (Nat.le_refl _) (.cells #[.int .i64 c, .int .i64 fa] 40)))
  obtain ⟨g0, g1, gf, gl⟩ := HG3.out
  by_cases hc : c = 0
  · subst hc
    obtain ⟨hHE, hLl, hca⟩ := HOK.out rfl
    simp only [Prod.mk.injEq, true_and] at hca
    subst hca
    have hps := HPS.out
    rw [if_pos rfl] at hps
    have HPS2 := Lib.hid hps
    have hpos : 0 < L.length := by
      obtain ⟨y, hy, _⟩ := hHE
      exact List.length_pos_of_mem hy
    have HEC := Lib.hid (ents_any (L.length + 1) L a1 b1 0 L.length cap1 (by omega) (Nat.lt_succ_self _) (L.length + 1))
    have HP := Lib.hid (ps_new (w1.alloc (.cells #[.int .i64 0, .int .i64 0] 40)) (.slice a1 L.length cap1) 74)
    have HS4 := Lib.hid (HS3.out.keep ((Below.refl _ _).alloc (Nat.le_refl _) (.cells #[.slice a1 L.length cap1, .int .i64 0] 74)))
    have HF4 := Lib.hid (HF3.out.keep ((Below.refl _ _).alloc (Nat.le_refl _) (.cells #[.slice a1 L.length cap1, .int .i64 0] 74)))
    have HB4 := Lib.hid (HB3.out.alloc (by simp; omega) (.cells #[.slice a1 L.length cap1, .int .i64 0] 74))
    simp only [World.size_alloc] at HP
    have hbl := HOL.out hpos
    have hi := HEC.out _ _ 0 0 HP.out HS4.out (by simp; omega) (by omega) hHE (by omega) (by omega)
    rw [show ((0 : Nat) : Int) = 0 from rfl, List.drop_zero] at hi
    have HI := Lib.hid hi
    clear hi hps HPS HOK HEC
    obtain ⟨R, hR⟩ : ∃ R, parL (L.length + 1) 0 L = R := ⟨_, rfl⟩
    rw [hR] at HI HPS2
    obtain ⟨K, rest, qc, qa⟩ := R
    unfold fV at HI
    simp only at HI HPS2
    go_wp2_with fail
    refine HI.out.mono ?_
    rintro e w2 ⟨v2, vs, k2, rfl, hg2, hp2, ho2, hr2, _⟩
    have HF5 := Lib.hid (HF4.out.grown hg2 (by intro e; have := Option.some.inj e; omega))
    have HB5 := Lib.hid (gr_below HB4.out hg2 (by omega) (Nat.le_refl _))
    have HO5 := Lib.hid (own_low (base' := w.heap.size + 1) ho2 (by simp; omega))
    have HR5 := Lib.hid (RdC.mono (G := fun x => w.heap.size + 1 ≤ x ∧ v2.ownBlock ≠ some x) (fun x hx => ⟨by have := hx.1; simp at this; omega, hx.2⟩) hr2)
    clear hg2 hp2 ho2 hr2 HI HF4 HB4 HP HS4
    obtain ⟨f0, f1, ff, fl⟩ := HF5.out
    obtain ⟨av, cv, rfl⟩ := own_form HO5.out
    go_wp2_with fail
    obtain ⟨W7, hW7, HFW, hgW⟩ := fin2_ex qc qa HF5.out
    rw [hW7]
    clear hW7 f0 f1 ff fl
    obtain ⟨f0, f1, ff, fl⟩ := HFW
    refine bodyPost_ret (v := .tuple #[.slice av K.len cv, .agg #[.int .i64 qc, .int .i64 qa]]) (by simp [results, Tryz.results22, go_sem, f0, f1, ff, fl]) rfl ?_
    rw [HPS2.out]
    refine ⟨_, vs, rfl, own_low (HO5.out.kept hgW ?_) (Nat.le_succ _), RdC.mono (fun x hx => ⟨by omega, hx.2⟩) (HR5.out.grown hgW (Or.inr (fun x hx => by have := Option.some.inj hx; omega))), gr_below HB5.out hgW (Nat.le_refl _) (Nat.le_refl _)⟩
    by_cases h : (Value.slice av K.len cv).ownBlock = none
    · exact Or.inl h
    · refine Or.inr (fun e => ?_)
      have := (HO5.out.lt _ e).1
      omega
  · have hcn : (c != 0) = true := by simpa using hc
    have hcb : (c == 0) = false := by simpa using hc
    have hps := HPS.out
    rw [if_neg hc] at hps
    have HPS2 := Lib.hid hps
    clear hps HPS HOK
    obtain ⟨f0, f1, ff, fl⟩ := HF3.out
    go_wp2_with fail
    go_region
    all_goals
      go_wp2_with fail
      obtain ⟨W7, hW7, HFW, hgW⟩ := fin2_ex c fa HF3.out
      rw [hW7]
      clear hW7 f0 f1 ff fl
      obtain ⟨f0, f1, ff, fl⟩ := HFW
      have HBW := (gr_below HB3.out hgW (Nat.le_refl _) (Nat.le_refl _)).trans ((Below.refl W7.heap.size W7).drew.mono (gr_below HB3.out hgW (Nat.le_refl _) (Nat.le_refl _)).size)
      refine bodyPost_ret (v := .tuple #[.slice none 0 0, .agg #[.int .i64 c, .int .i64 fa]]) (by simp [results, Tryz.results22, go_sem, f0, f1, ff, fl]) rfl ?_
      rw [HPS2.out]
      exact ⟨.slice none 0 0, [], rfl, World.ownsRow_nil _ _ _ _, rfl, HBW⟩
end Go.Proofs.YtohalocbghhenaaGreatDoor
/- What the laws of layer 10 use of Parse. -/
namespace Go.Proofs.YtohalocbghhenaaGreatDoor
open Go.RowKit

theorem parL_count : ∀ (f o : Nat) (l : List Tk), l.length < f → (parL f o l).2.2.1 = 0 → (parL f o l).1.count + (parL f o l).2.1.length < l.length
  | 0, _, _, h, _ => by omega
  | f + 1, o, [], _, h => absurd h (by simp [parL])
  | f + 1, o, t :: l, hf, h => by
    simp only [List.length_cons] at hf
    rcases parL_inv h with hb | ⟨hb, h1, d, m, hd, hs⟩
    · rw [parL_ends hb]
      simp [Cls.count]
    · have hm := dw_len hd
      rcases hs with ⟨h59, hc⟩ | ⟨h59, h123, h8, hc, hc2⟩
      · have ih := parL_count f o m (by omega) hc
        rw [parL_semi hb h1 hd h59]
        unfold consR
        rw [if_pos hc]
        simp only [Cls.count, List.length_cons]
        omega
      · have i1 := parL_count f (o + 1) m (by omega) hc
        have hlr := parL_le f (o + 1) m
        have i2 := parL_count f o _ (by omega) hc2
        rw [parL_block hb h1 hd h59 h123 h8 hc]
        unfold consR
        rw [if_pos hc2]
        simp only [Cls.count, List.length_cons]
        omega
theorem parS_count (s : ByteArray) : (parS s).1.count ≤ 65537 := by
  unfold parS
  by_cases h : (lexS s).2.1 = 0
  · rw [if_pos h]
    obtain ⟨_, hl, _⟩ := lexS_ok h
    by_cases h0 : (parL ((lexS s).1.length + 1) 0 (lexS s).1).2.2.1 = 0
    · have := parL_count ((lexS s).1.length + 1) 0 (lexS s).1 (by omega) h0
      simp only
      omega
    · rw [parL_bad _ _ _ h0]
      simp [Cls.count]
  · rw [if_neg h]
    simp [Cls.count]
theorem parS_bad {s : ByteArray} (h : (parS s).2.1 ≠ 0) : (parS s).1 = .nil := by
  unfold parS at h ⊢
  by_cases h0 : (lexS s).2.1 = 0
  · rw [if_pos h0] at h ⊢
    simp only at h ⊢
    rw [parL_bad _ _ _ h]
  · rw [if_neg h0]
theorem parS_good {s : ByteArray} (h : (parS s).2.1 = 0) : (parS s).2 = (0, 0) := by
  unfold parS at h ⊢
  by_cases h0 : (lexS s).2.1 = 0
  · rw [if_pos h0] at h ⊢
    simp only at h ⊢
    exact parL_good _ _ _ h
  · rw [if_neg h0] at h
    exact absurd h h0
/-- what Parse gives, as a slice -/
def PrlPost (w : World) (x : Cls × Int × Int) (e : Ending) (w' : World) : Prop :=
  ∃ a b cap, e = .returned (.tuple #[.slice a x.1.len cap, fV x.2.1 x.2.2]) ∧ SlC w' (fun y => w.heap.size ≤ y ∧ y < w'.heap.size) a b 0 x.1.len cap x.1 ∧ Below w.heap.size w w' ∧ (a = none → x.1.len = 0 ∧ cap = 0)
theorem own_form2 {w : World} {base e z n : Nat} {v : Value} {xs : List Value} (h : w.ownsRow base e z v n xs) : ∃ ao cap, v = .slice ao n cap ∧ (ao = none → n = 0 ∧ cap = 0) := by
  rcases h.2 with ⟨rfl, h0⟩ | ⟨g, cap, cur, rfl, _⟩
  · exact ⟨none, 0, by rw [h0], fun _ => ⟨h0, rfl⟩⟩
  · exact ⟨_, cap, rfl, fun h => by cases h⟩
theorem parl_any (s : ByteArray) (w : World) (hT : Tabs w) : Calls Tryz.prog 22 #[.string s] w (PrlPost w (parS s)) :=
  (parse_any s w hT).mono fun e w' h => by
    obtain ⟨v, vs, rfl, ho, hr, hb⟩ := h
    obtain ⟨a, b, cap, hv, sl⟩ := slC_own ho (hr.mono fun x hx => hx.1) (fun x hx => (ho.lt x hx).1)
    obtain ⟨a', cap', hv', hz⟩ := own_form2 ho
    rw [hv] at hv'
    simp only [Value.slice.injEq, true_and] at hv'
    obtain ⟨rfl, rfl⟩ := hv'
    exact ⟨a, b, cap, by rw [hv], sl.here, hb, hz⟩
end Go.Proofs.YtohalocbghhenaaGreatDoor
