/- Contracts of package encode: Split. -/
import Derived.Test.YtljeialaefmbmaaDoorPure
import Derived.Laws.AppendOwn
set_option linter.unusedSimpArgs false
set_option linter.unusedVariables false
namespace Go.Proofs.YtljeialaefmbmaaDoor
open Go.RowKit

theorem rint_kind (s : ByteArray) (a : Nat) : (rintS s a).kind = 0 ∨ (rintS s a).kind = 1 := by
  unfold rintS
  split
  · split
    · left; rfl
    · right; rfl
  · split
    · left; rfl
    · right; rfl
theorem rtext_kind (s : ByteArray) (a : Nat) : (rtextS s a).kind = 0 ∨ (rtextS s a).kind = 2 := by
  unfold rtextS
  split
  · left; rfl
  · right; rfl
theorem head_e {s : ByteArray} {a : Nat} (h : a < s.size) (hc : at8 s a = 101) : headS s a = ⟨4, 0, ⟨#[]⟩, a + 1⟩ := by
  unfold headS
  rw [if_neg (by omega), if_neg (by omega), if_neg (by omega), if_pos hc]
theorem head_l {s : ByteArray} {a : Nat} (h : a < s.size) (hc : at8 s a = 108) : headS s a = ⟨3, 0, ⟨#[]⟩, a + 1⟩ := by
  unfold headS
  rw [if_neg (by omega), if_neg (by omega), if_pos hc]
theorem head_i {s : ByteArray} {a : Nat} (h : a < s.size) (hc : at8 s a = 105) : headS s a = rintS s (a + 1) := by
  unfold headS
  rw [if_neg (by omega), if_pos hc]
theorem head_t {s : ByteArray} {a : Nat} (h : a < s.size) (hc : at8 s a ≠ 105) (hd : at8 s a ≠ 108) (he : at8 s a ≠ 101) : headS s a = rtextS s a := by
  unfold headS
  rw [if_neg (by omega), if_neg hc, if_neg hd, if_neg he]
theorem head_e_of {s : ByteArray} {a : Nat} (h : (headS s a).kind = 4) : a < s.size ∧ at8 s a = 101 := by
  have hf := kind_fin (show (headS s a).kind ≠ 0 by omega)
  refine ⟨hf.2.2, ?_⟩
  by_cases h1 : at8 s a = 105
  · rw [head_i hf.2.2 h1] at h; have := rint_kind s (a + 1); omega
  · by_cases h2 : at8 s a = 108
    · rw [head_l hf.2.2 h2] at h; simp at h
    · by_cases h3 : at8 s a = 101
      · exact h3
      · rw [head_t hf.2.2 h1 h2 h3] at h; have := rtext_kind s a; omega
theorem head_l_of {s : ByteArray} {a : Nat} (h : (headS s a).kind = 3) : a < s.size ∧ at8 s a = 108 := by
  have hf := kind_fin (show (headS s a).kind ≠ 0 by omega)
  refine ⟨hf.2.2, ?_⟩
  by_cases h1 : at8 s a = 105
  · rw [head_i hf.2.2 h1] at h; have := rint_kind s (a + 1); omega
  · by_cases h2 : at8 s a = 108
    · exact h2
    · by_cases h3 : at8 s a = 101
      · rw [head_e hf.2.2 h3] at h; simp at h
      · rw [head_t hf.2.2 h1 h2 h3] at h; have := rtext_kind s a; omega

/-- the elements of a list, from an offset on -/
def splitF (s : ByteArray) : Nat → Nat → List ByteArray
  | 0, _ => []
  | f + 1, a => if (headS s a).kind = 4 then [] else s.extract a (measS s a).1.toNat :: splitF s f (measS s a).1.toNat
def splitS (s : ByteArray) : List ByteArray := splitF s s.size 1
/-- within a list -/
structure InL (s : ByteArray) (a : Nat) (D : Int) : Prop where
  ex : ∃ c : Int, 1 ≤ c ∧ c ≤ 32 ∧ measG s a 1 c = ((s.size : Int), D)
  d0 : 0 ≤ D
theorem InL.lt {s : ByteArray} {a : Nat} {D : Int} (h : InL s a D) : a < s.size := by
  obtain ⟨⟨c, _, _, e⟩, h0⟩ := h
  have hk : (headS s a).kind ≠ 0 := by
    intro hk
    rw [measG_no hk] at e
    have := congrArg Prod.snd e
    simp at this
    omega
  exact (kind_fin hk).2.2
theorem InL.next {s : ByteArray} {a : Nat} {D : Int} (h : InL s a D) (hk : (headS s a).kind ≠ 4) : InL s (measS s a).1.toNat D ∧ a < (measS s a).1.toNat ∧ ((measS s a).1.toNat : Int) = (measS s a).1 ∧ (measS s a).1.toNat ≤ s.size ∧ 0 ≤ (measS s a).2 ∧ (measS s a).2 ≤ 31 := by
  obtain ⟨⟨c, c1, c2, e⟩, h0⟩ := h
  rw [measG_val s a 1 c (by omega) (by omega) c1 hk] at e
  by_cases h5 : (measS s a).2 < 0 ∨ 32 < (measS s a).2 + 1
  · rw [if_pos h5] at e
    have := congrArg Prod.snd e
    simp at this
    omega
  · rw [if_neg h5] at e
    rcases measS_ok s a with h6 | h6
    · rw [h6] at h5; simp at h5
    · exact ⟨⟨⟨_, by omega, by omega, e⟩, h0⟩, by omega, by omega, by omega, by omega, by omega⟩
theorem depthS_list {s : ByteArray} (hd : 1 ≤ depthS s) : (headS s 0).kind = 3 ∧ InL s 1 (depthS s) := by
  have h1 : measS s 0 = ((s.size : Int), depthS s) := by
    unfold depthS at hd ⊢
    by_cases h : (measS s 0).1 = (s.size : Int)
    · rw [if_pos h] at hd ⊢
      rw [← h]
    · rw [if_neg h] at hd; omega
  have hk : (headS s 0).kind = 3 := by
    rw [measS_G] at h1
    rcases kind_cases s 0 with h | h | h | h
    · rw [measG_no h] at h1
      have := congrArg Prod.snd h1
      simp at this; omega
    · exact h
    · rw [measG_close h (by omega), if_pos (by omega)] at h1
      have := congrArg Prod.snd h1
      simp at this; omega
    · rw [measG_atom h (by omega) (by omega), if_pos rfl] at h1
      have := congrArg Prod.snd h1
      simp at this; omega
  have h2 := head_l_of hk
  rw [measS_list hk, head_l h2.1 h2.2] at h1
  exact ⟨hk, ⟨1, by omega, by omega, h1⟩, by omega⟩
theorem strInfo : (Tryd.prog.info? 9).map (fun i => (i.zero, i.size, i.bytes)) = some (some (.string ⟨#[]⟩), 1, 16) := by kernel_rfl
def SplitPost (w : World) (L : List ByteArray) (e : Ending) (w' : World) : Prop :=
  ∃ v, e = .returned (.tuple #[v, .bool true]) ∧ w'.ownsRow w.heap.size 9 1 v L.length (L.map Value.string) ∧ Below w.heap.size w w'

set_option maxHeartbeats 1000000 in
theorem split_no (s : ByteArray) (hs : s.size ≤ 4611686018427387904) (hd : depthS s < 1) (w : World) :
    Calls Tryd.prog 20 #[.string s] w fun e w' => e = .returned (.tuple #[.slice none 0 0, .bool false]) ∧ Below w.heap.size w w' := by
  have HD := Lib.hid (fun W => depth_any s hs W)
  generalize depthS s = D at *
  go_enter Tryd.func20, Tryd.ntmps20
  go_wp2_with fail
  refine (HD.out _).mono ?_
  rintro r w1 ⟨rfl, hb1⟩
  go_wp2
  go_ret2
  exact ⟨rfl, (by repeat (first | with_reducible exact Below.refl _ _ | (with_reducible refine Below.setCell ?_ (by first | exact Nat.le_refl _ | omega | (simp; done) | (simp; omega)) _) | (with_reducible refine Below.alloc ?_ (by first | exact Nat.le_refl _ | omega | (simp; done) | (simp; omega)) _) | with_reducible refine Below.drew ?_ | with_reducible refine bel_drewN ?_ _ | (with_reducible refine bel_by (by with_reducible assumption) (by first | exact Nat.le_refl _ | omega | (simp; done) | (simp; omega)) ?_)))⟩

set_option maxHeartbeats 4000000 in
set_option maxRecDepth 100000 in
theorem split_yes (s : ByteArray) (hs : s.size ≤ 1099511627776) (hd : 1 ≤ depthS s) (w : World) :
    Calls Tryd.prog 20 #[.string s] w (SplitPost w (splitS s)) := by
  have HD := Lib.hid (fun W => depth_any s (by omega) W)
  have HM := Lib.hid (fun (a : Nat) (W : World) (h : a ≤ s.size) => meas_any s a (by omega) (by omega) W)
  have HI := Lib.hid (depthS_list hd).2
  obtain ⟨L, hL⟩ : ∃ L, L = splitS s := ⟨_, rfl⟩
  rw [← hL]
  have HL := Lib.hid hL
  clear hL
  obtain ⟨i0, hi, hz0, hz1, hz2⟩ := info_parts strInfo
  generalize depthS s = D at *
  go_enter Tryd.func20, Tryd.ntmps20
  go_wp2_with fail
  refine (HD.out _).mono ?_
  rintro r w1 ⟨rfl, hb1⟩
  have hB1 := Lib.hid hb1
  clear hb1
  go_wp2_with fail
  go_loopw [4, 5] (fun s4 s5 wr => ∃ (v : Value) (a f : Nat) (xs : List ByteArray), s4 = v ∧ s5 = .int .i64 (a : Int) ∧ wr.ownsRow w.heap.size 9 1 v xs.length (xs.map Value.string) ∧ Hid (InL s a D) ∧ Hid (s.size ≤ f + a) ∧ Hid (xs.length ≤ a) ∧ Hid (L = xs ++ splitF s f a) ∧ Below w.heap.size w wr) (fun _ s5 _ => s.size - (intOf s5).toNat)
  case atStart => exact ⟨_, 1, s.size, [], rfl, rfl, World.ownsRow_nil _ _ _ _, HI, Lib.hid (by omega), Lib.hid (by simp), HL, hB1.out⟩
  case round =>
    clear HD HI HL hB1
    obtain ⟨v, a, f, xs, rfl, rfl, hown, hin, hf, hxs, hLx, hbel⟩ := hrel
    have hlt := hin.out.lt
    have e8 := at8_eq hlt
    by_cases hk : (headS s a).kind = 4
    · have h101 := (head_e_of hk).2
      have y0 : ((((s[a]'hlt).toNat : Int)) != 101) = false := by rw [← e8, h101]; rfl
      have HX := Lib.hid (show L = xs by
        have := hf.out
        obtain ⟨g, rfl⟩ : ∃ g, f = g + 1 := ⟨f - 1, by omega⟩
        rw [hLx.out, splitF, if_pos hk, List.append_nil])
      clear h101 e8 hk hf hxs hLx hin
      go_wp2_with fail
      go_ret2
      exact ⟨_, rfl, by rw [HX.out]; exact hown, hbel⟩
    · have h101 : at8 s a ≠ 101 := fun h => hk (by rw [head_e hlt h])
      have y0 : ((((s[a]'hlt).toNat : Int)) != 101) = true := by rw [← e8]; simp [bne]; omega
      obtain ⟨hin2, g1, g2, g3, g4, g5⟩ := hin.out.next hk
      have HMA := Lib.hid (fun W => HM.out a W (by omega))
      have HIN := Lib.hid hin2
      have HX := Lib.hid (show ∃ g, s.size ≤ g + (measS s a).1.toNat ∧ L = (xs ++ [s.extract a (measS s a).1.toNat]) ++ splitF s g (measS s a).1.toNat by
        have := hf.out
        obtain ⟨g, rfl⟩ : ∃ g, f = g + 1 := ⟨f - 1, by omega⟩
        exact ⟨g, by omega, by rw [hLx.out, splitF, if_neg hk]; simp⟩)
      rw [← g2] at HMA
      generalize (measS s a).1.toNat = e at *
      generalize (measS s a).2 = dd at *
      clear h101 e8 hk hf hLx hin hin2 HM g2
      have g3' : (e : Int) ≤ (s.size : Int) := by omega
      have g1' : (a : Int) ≤ (e : Int) := by omega
      go_wp2_with fail
      refine (HMA.out _).mono ?_
      rintro r w2 ⟨rfl, hb2⟩
      have hbw := hbel.trans (hb2.mono hbel.size)
      have hown2 := hown.kept (w' := w2) (row := none) ⟨hb2.os, hb2.tape, hb2.output, hb2.size, fun j hj _ => hb2.block j hj⟩ (Classical.em _)
      clear hown hbel HMA
      have hol := hown2.lt
      have hwz := bsize hbw
      have hxl := hxs.out
      go_wp2_with (at_builtin; refine wpList_append_own _ rfl _ _ 44 rfl w.heap.size 9 i0 (.string ⟨#[]⟩) 1 16 Tryd.underlying44 hi hz0 hz1 hz2 rfl (by decide) _ _ _ rfl (hown2.alloc _) ⟨w2.heap.size, 0, none⟩ 1 1 [.string (s.extract a e)] rfl rfl ?c1 ?c2 ?c3 ?c4 ?c5 ?_)
      case c1 =>
        intro j u hj
        match j, hj with
        | 0, hj => simp at hj; subst hj; simp [Addr.add]
      case c2 => intro u hu; simp at hu; subst hu; rfl
      case c3 => unfold maxLen; omega
      case c4 => omega
      case c5 => simp; omega
      intro v' w3 hown' hgrow' _
      have hb3 : Below w.heap.size w w3 := ((hbw.alloc (by omega) _)).grown hgrow' (by simp; omega) (fun j hj => (hol j hj).1)
      clear hgrow' hol hown2 hbw
      go_wp2
      go_roundw
      case rel =>
        obtain ⟨g, q1, q2⟩ := HX.out
        exact ⟨v', e, g, xs ++ [s.extract a e], rfl, rfl, by simpa using hown', HIN, Lib.hid q1, Lib.hid (by simp; omega), Lib.hid q2, hb3⟩
      case measure => simp [intOf]; omega
end Go.Proofs.YtljeialaefmbmaaDoor
