/- again: reading a value and writing it. -/
import Derived.Test.YtljeialaefmbmaaInB
import Derived.Test.YtljeialaefmbmaaNumE
import Derived.Test.YtljeialaefmbmaaBut
set_option linter.unusedSimpArgs false
set_option linter.unusedVariables false
namespace Go.Proofs.Ytljeialaefmbmaa
open Go.RowKit

theorem joinR_extract {s : ByteArray} {a e : Nat} {l : List ByteArray} {t : ByteArray} (h : (⟨(joinR l).toArray⟩ : ByteArray) = s.extract 0 a) (ha : a ≤ e) (he : e ≤ s.size) (ht : t = s.extract a e) : (⟨(joinR (t :: l)).toArray⟩ : ByteArray) = s.extract 0 e := by
  rw [← extract_two (s := s) (i := 0) (j := a) (k := e) (by omega) ha he, ← h, ← ht]
  apply ByteArray.ext
  simp [joinR]
theorem joinR_sum {s : ByteArray} {a : Nat} {l : List ByteArray} (h : (⟨(joinR l).toArray⟩ : ByteArray) = s.extract 0 a) (ha : a ≤ s.size) : sumLen l = a := by
  have := congrArg ByteArray.size h
  rw [size_extract ha, size_mk, joinR_len] at this
  omega
/-- what was read so far is what was written so far -/
structure AgS (w : World) (rb wb : Nat) (s : ByteArray) (a o : Nat) : Prop where
  hr : RAt w rb ⟨s, a, o, 0⟩
  hw : ∃ l, WAt w wb l o ∧ (⟨(joinR l).toArray⟩ : ByteArray) = s.extract 0 a ∧ ∀ t ∈ l, 0 < t.size
  rw : rb < wb
  ha : a ≤ s.size
  ho : o ≤ 32
theorem AgS.ok {w : World} {rb wb : Nat} {s : ByteArray} {a o : Nat} (h : AgS w rb wb s a o) (hs : s.size ≤ 2000) : ROk ⟨s, a, o, 0⟩ := ⟨by simp only; omega, h.ha, h.ho⟩
theorem AgS.below {w w' : World} {rb wb : Nat} {s : ByteArray} {a o : Nat} (h : AgS w rb wb s a o) (hb : Below w.heap.size w w') : AgS w' rb wb s a o := by
  obtain ⟨h1, ⟨l, h2, h3⟩, h4, h5, h6⟩ := h
  exact ⟨h1.below hb, ⟨l, h2.below hb, h3⟩, h4, h5, h6⟩
/-- a piece is read, then written -/
theorem AgS.next {w w1 w2 : World} {rb wb : Nat} {s : ByteArray} {a o e o' : Nat} {l : List ByteArray} {t : ByteArray} (h : AgS w rb wb s a o) (hl : (⟨(joinR l).toArray⟩ : ByteArray) = s.extract 0 a) (hne : ∀ t ∈ l, 0 < t.size) (hr : RAt w1 rb ⟨s, e, o', 0⟩) (hw : WAt w2 wb (t :: l) o') (h2 : But wb w1 w2) (hae : a < e) (he : e ≤ s.size) (ht : t = s.extract a e) (ho : o' ≤ 32) : AgS w2 rb wb s e o' := by
  refine ⟨hr.but h2 (by have := h.rw; omega), ⟨t :: l, hw, joinR_extract hl (by omega) he ht, ?_⟩, h.rw, he, ho⟩
  intro u hu
  rcases List.mem_cons.1 hu with rfl | hu
  · rw [ht, size_extract he]; omega
  · exact hne u hu
theorem but_bel {B b : Nat} {w w1 : World} (h : But b w w1) (hb : B ≤ b) (hB : B ≤ w.heap.size) : Below B w w1 := But.below (Below.refl _ _) h hb hB
def AgPost (w : World) (rb wb : Nat) (s : ByteArray) (e o : Nat) (r : Ending) (w' : World) : Prop := r = .returned (.bool true) ∧ AgS w' rb wb s e o ∧ Below rb w w'
def AgC (s : ByteArray) (rb wb n : Nat) : Prop := ∀ (a o : Nat) (w : World) (e : Nat) (D : Int), AgS w rb wb s a o → measS s a = ((e : Int), D) → 0 ≤ D → D ≤ n → (o : Int) + D ≤ 32 →
  Calls Try.prog 36 #[.pointer (some ⟨rb, 0, none⟩), .string s, .pointer (some ⟨wb, 0, none⟩)] w (AgPost w rb wb s e o)
theorem readR_i {s : ByteArray} {a o : Nat} (h : (headS s a).kind = 1) : readR ⟨s, a, o, 0⟩ 1 = (⟨s, (headS s a).fin, o, 0⟩, headS s a) := by
  unfold readR
  rw [if_pos rfl, if_neg (by simp [h])]
  rfl
theorem readR_t {s : ByteArray} {a o : Nat} (h : (headS s a).kind = 2) : readR ⟨s, a, o, 0⟩ 2 = (⟨s, (headS s a).fin, o, 0⟩, headS s a) := by
  unfold readR
  rw [if_pos rfl, if_neg (by simp [h])]
  rfl

set_option maxHeartbeats 4000000 in
set_option maxRecDepth 100000 in
theorem ag_int (s : ByteArray) (hs : s.size ≤ 2000) (rb wb a o : Nat) (w : World) (h : AgS w rb wb s a o) (hk : (headS s a).kind = 1) (h1 : at8 s a = 105) :
    Calls Try.prog 36 #[.pointer (some ⟨rb, 0, none⟩), .string s, .pointer (some ⟨wb, 0, none⟩)] w (AgPost w rb wb s (headS s a).fin o) := by
  have hf := kind_fin (show (headS s a).kind ≠ 0 by omega)
  have hlt := hf.2.2
  obtain ⟨e1, e2, e3⟩ := encI_of hk
  obtain ⟨l, hw, hj, hne⟩ := h.hw
  have hsum := joinR_sum hj h.ha
  have x0 : ¬ (s.size : Int) ≤ (a : Int) := by omega
  have x1 : (a : Int) < (s.size : Int) := by omega
  have y0 : ((((s[a]'hlt).toNat : Int)) == 105) = true := by rw [← at8_eq hlt, h1]; rfl
  have HO := Lib.hid (rdOff_any rb _ w h.hr)
  have HR := Lib.hid (rdInt_any rb _ w h.hr (h.ok hs))
  rw [readR_i hk] at HR
  have HW := Lib.hid (fun (w1 : World) (hb : But rb w w1) => wint_any wb l o (headS s a).n e2 e3 w1 (hw.far hb h.rw) (by omega))
  have HN := Lib.hid (fun (w1 w2 : World) (hr : RAt w1 rb ⟨s, (headS s a).fin, o, 0⟩) (hw2 : WAt w2 wb (encI (headS s a).n :: l) o) (h2 : But wb w1 w2) => h.next hj hne hr hw2 h2 hf.1 hf.2.1 e1.symm h.ho)
  have HZ := Lib.hid (And.intro h.hr.lt h.rw)
  generalize headS s a = hd at *
  obtain ⟨kk, n, tx, fn⟩ := hd
  simp only at HR HW HN ⊢
  clear hk h1 e1 e2 e3 hsum hf hw hj hne h
  go_enter Try.func36, Try.ntmps36
  go_wp2_with fail
  refine HO.out.mono ?_
  rintro e w1 ⟨rfl, rfl⟩
  go_wp2_with fail
  refine HR.out.mono ?_
  rintro e w1 ⟨rfl, hr, hb⟩
  go_wp2_with fail
  refine (HW.out _ hb).mono ?_
  rintro e w2 ⟨rfl, hw2, hb2⟩
  have hA := HN.out _ _ hr hw2 hb2
  have hB : Below rb w w2 := But.below (but_bel hb (Nat.le_refl _) (by have := HZ.out.1; omega)) hb2 (by have := HZ.out.2; omega) (by have := HZ.out.1; omega)
  have HE := Lib.hid (rdErr_any rb _ w2 hA.hr)
  have HA := Lib.hid hA
  have HB := Lib.hid hB
  clear hr hb hw2 hb2 hA hB
  go_wp2_with fail
  refine HE.out.mono ?_
  rintro e w3 ⟨rfl, rfl⟩
  go_wp2
  go_ret
  exact ⟨rfl, HA.out, HB.out⟩
set_option maxHeartbeats 4000000 in
set_option maxRecDepth 100000 in
theorem ag_text (s : ByteArray) (hs : s.size ≤ 2000) (rb wb a o : Nat) (w : World) (h : AgS w rb wb s a o) (hk : (headS s a).kind = 2) (h1 : at8 s a ≠ 105) (h2 : at8 s a ≠ 108) :
    Calls Try.prog 36 #[.pointer (some ⟨rb, 0, none⟩), .string s, .pointer (some ⟨wb, 0, none⟩)] w (AgPost w rb wb s (headS s a).fin o) := by
  have hf := kind_fin (show (headS s a).kind ≠ 0 by omega)
  have hlt := hf.2.2
  have ee := head_t hlt h1 h2 (by intro h3; rw [head_e hlt h3] at hk; simp at hk)
  have e1 : s.extract a (headS s a).fin = encT (headS s a).text := by
    rw [ee] at hk ⊢
    exact encT_of hk (by omega)
  have e4 : (headS s a).text.size ≤ 2000 := by
    have := congrArg ByteArray.size e1
    have h5 : (encT (headS s a).text).size = ((decS ((headS s a).text.size : Int)).length + 1) + (headS s a).text.size := by unfold encT; rw [ByteArray.size_append, ByteArray.size_append]; rfl
    rw [size_extract hf.2.1, h5] at this
    omega
  obtain ⟨l, hw, hj, hne⟩ := h.hw
  have hsum := joinR_sum hj h.ha
  have x0 : ¬ (s.size : Int) ≤ (a : Int) := by omega
  have x1 : (a : Int) < (s.size : Int) := by omega
  have y0 : ((((s[a]'hlt).toNat : Int)) == 105) = false := by rw [← at8_eq hlt]; simp; omega
  have y1 : ((((s[a]'hlt).toNat : Int)) == 108) = false := by rw [← at8_eq hlt]; simp; omega
  have HO := Lib.hid (rdOff_any rb _ w h.hr)
  have HR := Lib.hid (rdText_any rb _ w h.hr (h.ok hs))
  rw [readR_t hk] at HR
  have HW := Lib.hid (fun (w1 : World) (hb : But rb w w1) => wtext_any wb l o (headS s a).text w1 (hw.far hb h.rw) (by omega))
  have HN := Lib.hid (fun (w1 w2 : World) (hr : RAt w1 rb ⟨s, (headS s a).fin, o, 0⟩) (hw2 : WAt w2 wb (encT (headS s a).text :: l) o) (h2 : But wb w1 w2) => h.next hj hne hr hw2 h2 hf.1 hf.2.1 e1.symm h.ho)
  have HZ := Lib.hid (And.intro h.hr.lt h.rw)
  generalize headS s a = hd at *
  obtain ⟨kk, n, tx, fn⟩ := hd
  simp only at HR HW HN ⊢
  clear hk h1 h2 e1 hsum hf hw hj hne h ee e4
  go_enter Try.func36, Try.ntmps36
  go_wp2_with fail
  refine HO.out.mono ?_
  rintro e w1 ⟨rfl, rfl⟩
  go_wp2_with fail
  refine HR.out.mono ?_
  rintro e w1 ⟨rfl, hr, hb⟩
  go_wp2_with fail
  refine (HW.out _ hb).mono ?_
  rintro e w2 ⟨rfl, hw2, hb2⟩
  have hA := HN.out _ _ hr hw2 hb2
  have hB : Below rb w w2 := But.below (but_bel hb (Nat.le_refl _) (by have := HZ.out.1; omega)) hb2 (by have := HZ.out.2; omega) (by have := HZ.out.1; omega)
  have HE := Lib.hid (rdErr_any rb _ w2 hA.hr)
  have HA := Lib.hid hA
  have HB := Lib.hid hB
  clear hr hb hw2 hb2 hA hB
  go_wp2_with fail
  refine HE.out.mono ?_
  rintro e w3 ⟨rfl, rfl⟩
  go_wp2
  go_ret
  exact ⟨rfl, HA.out, HB.out⟩
theorem head_105 {s : ByteArray} {a : Nat} (h : (headS s a).kind = 1) : at8 s a = 105 := by
  have hf := kind_fin (show (headS s a).kind ≠ 0 by omega)
  by_cases h1 : at8 s a = 105
  · exact h1
  · exfalso
    by_cases h2 : at8 s a = 108
    · rw [head_l hf.2.2 h2] at h; simp at h
    · by_cases h3 : at8 s a = 101
      · rw [head_e hf.2.2 h3] at h; simp at h
      · rw [head_t hf.2.2 h1 h2 h3] at h; have := rtext_kind s a; omega
theorem head_not {s : ByteArray} {a : Nat} (h : (headS s a).kind = 2) : at8 s a ≠ 105 ∧ at8 s a ≠ 108 := by
  have hf := kind_fin (show (headS s a).kind ≠ 0 by omega)
  constructor
  · intro h1
    rw [head_i hf.2.2 h1] at h; have := rint_kind s (a + 1); omega
  · intro h2
    rw [head_l hf.2.2 h2] at h; simp at h
def offOf (w : World) (b : Nat) : Nat := match w.cell? ⟨b, 1, none⟩ with
  | some (.int _ z) => z.toNat
  | _ => 0
theorem offOf_eq {w : World} {b : Nat} {r : RSt} (h : RAt w b r) : offOf w b = r.at' := by unfold offOf; rw [h.c1]; simp
set_option maxHeartbeats 8000000 in
set_option maxRecDepth 100000 in
theorem ag_list (s : ByteArray) (hs : s.size ≤ 2000) (rb wb n : Nat) (IH : Hid (AgC s rb wb n)) (a o : Nat) (w : World) (e : Nat) (D : Int) (h : AgS w rb wb s a o) (h0 : a < s.size) (h1 : at8 s a = 108) (hm : measS s a = ((e : Int), D)) (hD : 0 ≤ D) (hDn : D ≤ n + 1) (ho : (o : Int) + D ≤ 32) :
    Calls Try.prog 36 #[.pointer (some ⟨rb, 0, none⟩), .string s, .pointer (some ⟨wb, 0, none⟩)] w (AgPost w rb wb s e o) := by
  have hh := head_l h0 h1
  rw [measS_list (by rw [hh]), hh] at hm
  simp only at hm
  have hD1 : 1 ≤ D := by
    have := measG_ok s _ (a + 1) 1 1 (Nat.le_refl _) (by omega) (by omega) (by omega) (by omega)
    rw [hm] at this
    rcases this with e2 | e2
    · have := congrArg Prod.snd e2
      simp only at this
      omega
    · exact e2.2.2.1
  obtain ⟨l, hw, hj, hne⟩ := h.hw
  have hsum := joinR_sum hj h.ha
  have x0 : ¬ (s.size : Int) ≤ (a : Int) := by omega
  have x1 : (a : Int) < (s.size : Int) := by omega
  have y0 : ((((s[a]'h0).toNat : Int)) == 105) = false := by rw [← at8_eq h0, h1]; rfl
  have y1 : ((((s[a]'h0).toNat : Int)) == 108) = true := by rw [← at8_eq h0, h1]; rfl
  have HO := Lib.hid (rdOff_any rb _ w h.hr)
  have HR := Lib.hid (rdOpen_any rb _ w h.hr (h.ok hs))
  rw [readR_3, if_pos ⟨h0, h1, by omega⟩] at HR
  have HW := Lib.hid (fun (w1 : World) (hb : But rb w w1) => wopen_any wb l o w1 (hw.far hb h.rw) (by omega) (by omega))
  have HN := Lib.hid (fun (w1 w2 : World) (hr : RAt w1 rb ⟨s, a + 1, o + 1, 0⟩) (hw2 : WAt w2 wb (⟨#[108]⟩ :: l) (o + 1)) (h2 : But wb w1 w2) => h.next hj hne hr hw2 h2 (by omega) (by omega) (extract_byte h0 108 h1).symm (by omega))
  have HZ := Lib.hid (And.intro h.hr.lt h.rw)
  have HM := Lib.hid hm
  clear h1 hm hh hsum hw hj hne h
  go_enter Try.func36, Try.ntmps36
  go_wp2_with fail
  refine HO.out.mono ?_
  rintro e w1 ⟨rfl, rfl⟩
  go_wp2_with fail
  refine HR.out.mono ?_
  rintro e w1 ⟨rfl, hr, hb⟩
  go_wp2_with fail
  refine (HW.out _ hb).mono ?_
  rintro e w2 ⟨rfl, hw2, hb2⟩
  have HA2 := Lib.hid (HN.out _ _ hr hw2 hb2)
  have HB2 := Lib.hid (show Below rb w w2 from But.below (but_bel hb (Nat.le_refl _) (by have := HZ.out.1; omega)) hb2 (by have := HZ.out.2; omega) (by have := HZ.out.1; omega))
  clear hr hb hw2 hb2 HO HR HW HN
  go_wp2_with fail
  go_loopw [38] (fun _ wr => ∃ (b : Nat) (c : Int), Hid (AgS wr rb wb s b (o + 1)) ∧ Hid (measG s b 1 c = ((e : Int), D)) ∧ 1 ≤ c ∧ c ≤ 32 ∧ Hid (Below rb w wr)) (fun _ wr => s.size - offOf wr rb)
  case atStart => exact ⟨a + 1, 1, HA2, HM, by omega, by omega, HB2⟩
  case round =>
    clear HA2 HB2 HM
    obtain ⟨b, c, hag, hmg, c1, c2, hbel⟩ := hrel
    have hmm := hmg.out
    have hk0 : (headS s b).kind ≠ 0 := by
      intro hk
      rw [measG_no hk] at hmm
      have := congrArg Prod.snd hmm
      simp only at this
      omega
    have hbs := (kind_fin hk0).2.2
    have HMO := Lib.hid (rdMore_any rb _ wr hag.out.hr (hag.out.ok hs))
    have HOF := Lib.hid (offOf_eq hag.out.hr)
    by_cases h101 : at8 s b = 101
    · have hmore : moreR ⟨s, b, o + 1, 0⟩ = false := by unfold moreR; simp [h101]
      rw [hmore] at HMO
      have hh := head_e hbs h101
      rw [measG_close (by rw [hh]) (by omega), if_neg (by omega), if_pos rfl, hh] at hmm
      have heb : e = b + 1 := by
        have := congrArg Prod.fst hmm
        simp only at this
        omega
      subst heb
      obtain ⟨l2, hw2, hj2, hne2⟩ := hag.out.hw
      have hsum2 := joinR_sum hj2 hag.out.ha
      have HC := Lib.hid (fun nn => rdClose_any rb _ _ (hag.out.below (bel_drewN (Below.refl _ wr) nn)).hr (hag.out.ok hs))
      have HN := Lib.hid (fun (w0 w1 w2 : World) (hr : RAt w1 rb ⟨s, b + 1, o, 0⟩) (hw3 : WAt w2 wb (⟨#[101]⟩ :: l2) o) (h2 : But wb w1 w2) => hag.out.next hj2 hne2 hr hw3 h2 (by omega) (by omega) (extract_byte hbs 101 h101).symm (by have := hag.out.ho; omega))
      have HW := Lib.hid (fun (nn : Nat) (w1 : World) (hb : But rb (wr.drewN nn) w1) => wclose_any wb l2 (o + 1) w1 ((hw2.below (bel_drewN (Below.refl _ wr) nn)).far hb hag.out.rw) (by omega) (by omega))
      rw [readR_4, if_pos ⟨hbs, h101, by omega⟩, Nat.add_sub_cancel] at HC
      rw [if_neg (by omega), Nat.add_sub_cancel] at HW
      clear hk0 hmm h101 hh hmore hmg hw2 hj2 hne2 hsum2 HOF
      go_wp2_with fail
      refine HMO.out.mono ?_
      rintro e w1 ⟨rfl, nn, rfl⟩
      go_wp2_with fail
      refine (HC.out nn).mono ?_
      rintro e w1 ⟨rfl, hr, hb⟩
      go_wp2_with fail
      refine (HW.out nn _ hb).mono ?_
      rintro e w2 ⟨rfl, hw3, hb2⟩
      have hA := HN.out wr _ _ hr hw3 hb2
      have hsz := hbel.out.size
      have hz1 := HZ.out.1
      have hz2 := HZ.out.2
      have hB : Below rb w w2 := But.below (But.below (bel_drewN hbel.out nn) hb (Nat.le_refl _) (by omega)) hb2 (by omega) (by omega)
      have HE := Lib.hid (rdErr_any rb _ w2 hA.hr)
      have HA := Lib.hid hA
      have HB := Lib.hid hB
      clear hr hb hw3 hb2 hA hB hsz
      go_wp2_with fail
      refine HE.out.mono ?_
      rintro e w3 ⟨rfl, rfl⟩
      go_wp2
      go_ret
      exact ⟨rfl, HA.out, HB.out⟩
    · have hmore : moreR ⟨s, b, o + 1, 0⟩ = true := by unfold moreR; simp [h101, hbs]
      rw [hmore] at HMO
      have hk4 : (headS s b).kind ≠ 4 := fun hk => h101 (head_e_of hk).2
      rw [measG_val s b 1 c (by omega) (by omega) c1 hk4] at hmm
      by_cases hbad : (measS s b).2 < 0 ∨ 32 < (measS s b).2 + 1
      · rw [if_pos hbad] at hmm
        have := congrArg Prod.snd hmm
        simp only at this
        omega
      rw [if_neg hbad] at hmm
      rcases measS_ok s b with hz | hz
      · rw [hz] at hbad; simp at hbad
      have hDd : (measS s b).2 + 1 ≤ D := by
        have := measG_ok s _ (measS s b).1.toNat 1 (max ((measS s b).2 + 1) c) (Nat.le_refl _) (by omega) (by omega) (by omega) (by omega)
        rw [hmm] at this
        rcases this with e2 | e2
        · have := congrArg Prod.snd e2
          simp only at this
          omega
        · omega
      obtain ⟨e', he'⟩ : ∃ e' : Nat, (measS s b).1 = (e' : Int) := ⟨(measS s b).1.toNat, by omega⟩
      have hms : measS s b = ((e' : Int), (measS s b).2) := by rw [← he']
      have HI := Lib.hid (fun nn => IH.out b (o + 1) (wr.drewN nn) e' (measS s b).2 (hag.out.below (bel_drewN (Below.refl _ wr) nn)) hms (by omega) (by omega) (by omega))
      rw [he', Int.toNat_natCast] at hmm
      have HG := Lib.hid hmm
      have hlt2 : b < e' := by omega
      have hcc : max ((measS s b).2 + 1) c ≤ 32 := by omega
      generalize (measS s b).2 = dd at *
      have HQ := Lib.hid (And.intro hlt2 hcc)
      clear hk0 hmm h101 hmore hmg hk4 hbad hz hms he' hDd hlt2 hcc
      go_wp2_with fail
      refine HMO.out.mono ?_
      rintro e w1 ⟨rfl, nn, rfl⟩
      go_wp2_with fail
      refine (HI.out nn).mono ?_
      rintro e w2 ⟨rfl, hA, hB⟩
      have HA := Lib.hid hA
      have HB := Lib.hid ((bel_drewN hbel.out nn).trans hB)
      have HOF2 := Lib.hid (offOf_eq hA.hr)
      clear hA hB
      go_wp2
      go_roundw
      case rel => exact ⟨e', max (dd + 1) c, HA, HG, by omega, HQ.out.2, HB⟩
      case measure => rw [HOF.out, HOF2.out]; have := HQ.out.1; show s.size - e' < s.size - b; omega
theorem agC (s : ByteArray) (hs : s.size ≤ 2000) (rb wb : Nat) : ∀ n, AgC s rb wb n := by
  intro n
  induction n with
  | zero =>
    intro a o w e D h hm hD hDn ho
    have hk0 : (headS s a).kind ≠ 0 := by
      intro hk
      rw [measS_G, measG_no hk] at hm
      have := congrArg Prod.snd hm
      simp only at this
      omega
    rcases kind_cases s a with hk | hk | hk | hk | hk
    · exact absurd hk hk0
    · have hh := head_l_of hk
      have := measG_ok s _ (a + 1) 1 1 (Nat.le_refl _) (by omega) (by omega) (by omega) (by omega)
      rw [measS_list hk, head_l hh.1 hh.2] at hm
      simp only at hm
      rw [hm] at this
      rcases this with e2 | e2
      · have := congrArg Prod.snd e2
        simp only at this
        omega
      · simp only at e2; omega
    · rw [measS_G, measG_close hk (by omega), if_pos (by omega)] at hm
      have := congrArg Prod.snd hm
      simp only at this
      omega
    · rw [measS_G, measG_atom (Or.inl hk) (by omega) (by omega), if_pos rfl] at hm
      have e1 : e = (headS s a).fin := by
        have := congrArg Prod.fst hm
        simp only at this
        omega
      rw [e1]
      exact ag_int s hs rb wb a o w h hk (head_105 hk)
    · rw [measS_G, measG_atom (Or.inr hk) (by omega) (by omega), if_pos rfl] at hm
      have e1 : e = (headS s a).fin := by
        have := congrArg Prod.fst hm
        simp only at this
        omega
      rw [e1]
      exact ag_text s hs rb wb a o w h hk (head_not hk).1 (head_not hk).2
  | succ n ih =>
    intro a o w e D h hm hD hDn ho
    have hk0 : (headS s a).kind ≠ 0 := by
      intro hk
      rw [measS_G, measG_no hk] at hm
      have := congrArg Prod.snd hm
      simp only at this
      omega
    rcases kind_cases s a with hk | hk | hk | hk | hk
    · exact absurd hk hk0
    · have hh := head_l_of hk
      exact ag_list s hs rb wb n (Lib.hid ih) a o w e D h hh.1 hh.2 hm hD (by omega) ho
    · rw [measS_G, measG_close hk (by omega), if_pos (by omega)] at hm
      have := congrArg Prod.snd hm
      simp only at this
      omega
    · rw [measS_G, measG_atom (Or.inl hk) (by omega) (by omega), if_pos rfl] at hm
      have e1 : e = (headS s a).fin := by
        have := congrArg Prod.fst hm
        simp only at this
        omega
      rw [e1]
      exact ag_int s hs rb wb a o w h hk (head_105 hk)
    · rw [measS_G, measG_atom (Or.inr hk) (by omega) (by omega), if_pos rfl] at hm
      have e1 : e = (headS s a).fin := by
        have := congrArg Prod.fst hm
        simp only at this
        omega
      rw [e1]
      exact ag_text s hs rb wb a o w h hk (head_not hk).1 (head_not hk).2
end Go.Proofs.Ytljeialaefmbmaa
