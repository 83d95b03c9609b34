/- Contracts of package encode: the heads of texts and lists. -/
import Derived.Test.YtljeialaefmbmaaDoorHead
set_option linter.unusedSimpArgs false
set_option linter.unusedVariables false
namespace Go.Proofs.YtljeialaefmbmaaDoor
open Go.RowKit

/-- readText -/
def rtextS (s : ByteArray) (a : Nat) : Hd :=
  if (rnumS s a 58).2 = 0 ∨ (s.size : Int) - (rnumS s a 58).2 < (rnumS s a 58).1 then hdNo
  else ⟨2, 0, s.extract (rnumS s a 58).2 ((rnumS s a 58).2 + (rnumS s a 58).1.toNat), (rnumS s a 58).2 + (rnumS s a 58).1.toNat⟩

set_option maxHeartbeats 2000000 in
set_option maxRecDepth 100000 in
theorem rtext_of (s : ByteArray) (a : Nat) (hs : s.size ≤ 4611686018427387904) (m e : Nat) (HR : Hid (RN s a 58 (m : Int) e)) (m1 : m ≤ 9999999999999999999) (he : e ≤ s.size) (w : World) :
    Calls Tryd.prog 42 #[.string s, .int .i64 (a : Int)] w fun r w' => r = .returned (if e = 0 ∨ (s.size : Int) - e < m then hdNo else ⟨2, 0, s.extract e (e + m), e + m⟩ : Hd).v ∧ Below w.heap.size w w' := by
  have HR' : Hid (∀ W, Calls Tryd.prog 47 #[.string s, .int .i64 (a : Int), .int .u8 58] W fun r w' => r = .returned (.tuple #[.int .u64 (m : Int), .int .i64 (e : Int)]) ∧ W = w') := HR.out
  clear HR
  by_cases he0 : e = 0
  · rw [if_pos (Or.inl he0)]
    subst he0
    go_enter Tryd.func42, Tryd.ntmps42
    go_wp2_with fail
    refine (HR'.out _).mono ?_
    rintro r w1 ⟨rfl, rfl⟩
    go_wp2
    refine bodyPost_ret (v := hdNo.v) (by simp [results, Tryd.results42, go_sem, hdNo, Hd.v]) rfl ⟨rfl, (by repeat (first | with_reducible exact Below.refl _ _ | (with_reducible refine Below.setCell ?_ (by first | exact Nat.le_refl _ | omega | (simp; done) | (simp; omega)) _) | (with_reducible refine Below.alloc ?_ (by first | exact Nat.le_refl _ | omega | (simp; done) | (simp; omega)) _) | with_reducible refine Below.drew ?_ | with_reducible refine bel_drewN ?_ _ | (with_reducible refine bel_by (by with_reducible assumption) (by first | exact Nat.le_refl _ | omega | (simp; done) | (simp; omega)) ?_)))⟩
  · have y0 : ((e : Int) == 0) = false := by simp; omega
    have y1 : IntKind.u64.wrap ((s.size : Int) - (e : Int)) = (s.size : Int) - (e : Int) := IntWalk.u64_in _ (by omega)
    by_cases hm : (s.size : Int) - e < m
    · rw [if_pos (Or.inr hm)]
      clear he0
      go_enter Tryd.func42, Tryd.ntmps42
      go_wp2_with fail
      refine (HR'.out _).mono ?_
      rintro r w1 ⟨rfl, rfl⟩
      go_wp2
      refine bodyPost_ret (v := hdNo.v) (by simp [results, Tryd.results42, go_sem, hdNo, Hd.v]) rfl ⟨rfl, (by repeat (first | with_reducible exact Below.refl _ _ | (with_reducible refine Below.setCell ?_ (by first | exact Nat.le_refl _ | omega | (simp; done) | (simp; omega)) _) | (with_reducible refine Below.alloc ?_ (by first | exact Nat.le_refl _ | omega | (simp; done) | (simp; omega)) _) | with_reducible refine Below.drew ?_ | with_reducible refine bel_drewN ?_ _ | (with_reducible refine bel_by (by with_reducible assumption) (by first | exact Nat.le_refl _ | omega | (simp; done) | (simp; omega)) ?_)))⟩
    · rw [if_neg (by rintro (h | h); exact he0 h; exact hm h)]
      have y2 : IntKind.i64.wrap (m : Int) = (m : Int) := IntWalk.i64_in _ (by omega)
      have y3 : (e : Int) + (m : Int) ≤ (s.size : Int) := by omega
      clear he0
      go_enter Tryd.func42, Tryd.ntmps42
      go_wp2_with fail
      refine (HR'.out _).mono ?_
      rintro r w1 ⟨rfl, rfl⟩
      go_wp2
      refine bodyPost_ret (v := (⟨2, 0, s.extract e (e + m), e + m⟩ : Hd).v) (by simp [results, Tryd.results42, go_sem, Hd.v]) rfl ⟨rfl, (by repeat (first | with_reducible exact Below.refl _ _ | (with_reducible refine Below.setCell ?_ (by first | exact Nat.le_refl _ | omega | (simp; done) | (simp; omega)) _) | (with_reducible refine Below.alloc ?_ (by first | exact Nat.le_refl _ | omega | (simp; done) | (simp; omega)) _) | with_reducible refine Below.drew ?_ | with_reducible refine bel_drewN ?_ _ | (with_reducible refine bel_by (by with_reducible assumption) (by first | exact Nat.le_refl _ | omega | (simp; done) | (simp; omega)) ?_)))⟩
theorem rtext_any (s : ByteArray) (a : Nat) (ha : a ≤ s.size) (hs : s.size ≤ 4611686018427387904) (w : World) :
    Calls Tryd.prog 42 #[.string s, .int .i64 (a : Int)] w fun r w' => r = .returned (rtextS s a).v ∧ Below w.heap.size w w' := by
  unfold rtextS
  obtain ⟨b1, b2, b3, _⟩ := rnumS_bd s a 58 ha
  have e1 : (((rnumS s a 58).1.toNat : Nat) : Int) = (rnumS s a 58).1 := by omega
  have h := rtext_of s a hs (rnumS s a 58).1.toNat (rnumS s a 58).2 (Lib.hid (fun W => by rw [e1]; exact rnum_any s a 58 ha hs W)) (by omega) b3 w
  rw [e1] at h
  exact h

/-- readHead -/
def headS (s : ByteArray) (a : Nat) : Hd :=
  if s.size ≤ a then hdNo
  else if at8 s a = 105 then rintS s (a + 1)
  else if at8 s a = 108 then ⟨3, 0, ⟨#[]⟩, a + 1⟩
  else if at8 s a = 101 then ⟨4, 0, ⟨#[]⟩, a + 1⟩
  else rtextS s a

set_option maxHeartbeats 2000000 in
set_option maxRecDepth 100000 in
theorem head_any (s : ByteArray) (a : Nat) (hs : s.size ≤ 4611686018427387904) (h63 : a ≤ 9223372036854775807) (w : World) :
    Calls Tryd.prog 36 #[.string s, .int .i64 (a : Int)] w fun r w' => r = .returned (headS s a).v ∧ Below w.heap.size w w' := by
  unfold headS
  by_cases h0 : s.size ≤ a
  · rw [if_pos h0]
    have x0 : (s.size : Int) ≤ (a : Int) := by omega
    clear h0
    go_enter Tryd.func36, Tryd.ntmps36
    go_wp2
    refine bodyPost_ret (v := hdNo.v) (by simp [results, Tryd.results36, go_sem, hdNo, Hd.v]) rfl ⟨rfl, (by repeat (first | with_reducible exact Below.refl _ _ | (with_reducible refine Below.setCell ?_ (by first | exact Nat.le_refl _ | omega | (simp; done) | (simp; omega)) _) | (with_reducible refine Below.alloc ?_ (by first | exact Nat.le_refl _ | omega | (simp; done) | (simp; omega)) _) | with_reducible refine Below.drew ?_ | with_reducible refine bel_drewN ?_ _ | (with_reducible refine bel_by (by with_reducible assumption) (by first | exact Nat.le_refl _ | omega | (simp; done) | (simp; omega)) ?_)))⟩
  · rw [if_neg h0]
    have hlt : a < s.size := by omega
    have x0 : ¬ (s.size : Int) ≤ (a : Int) := by omega
    have x1 : (a : Int) < (s.size : Int) := by omega
    have e8 := at8_eq hlt
    have HI := Lib.hid (fun W => rint_any s (a + 1) (by omega) hs W)
    have HI' : Hid (∀ W, Calls Tryd.prog 41 #[.string s, .int .i64 ((a : Int) + 1)] W fun r w' => r = .returned (rintS s (a + 1)).v ∧ Below W.heap.size W w') := HI.out
    have HX := Lib.hid (fun W => rtext_any s a (by omega) hs W)
    clear HI
    generalize rintS s (a + 1) = hi at *
    generalize rtextS s a = hx at *
    obtain ⟨k1, n1, t1, f1⟩ := hi
    obtain ⟨k2, n2, t2, f2⟩ := hx
    by_cases c1 : at8 s a = 105
    · rw [if_pos c1]
      have y1 : ((((s[a]'hlt).toNat : Int)) == 105) = true := by rw [← e8, c1]; rfl
      clear e8 c1 h0
      go_enter Tryd.func36, Tryd.ntmps36
      go_wp2_with fail
      refine (HI'.out _).mono ?_
      rintro r w1 ⟨rfl, hb1⟩
      obtain ⟨hc1, hf1⟩ := bcell hb1
      have hz1 := bsize hb1
      simp at hz1
      have k0 : w.heap.size < w1.heap.size := by omega
      unfold Hd.v
      go_wp2
      refine bodyPost_ret (v := (⟨k1, n1, t1, f1⟩ : Hd).v) (by simp [results, Tryd.results36, go_sem, hc1, hf1, k0, Hd.v]) rfl ⟨rfl, (by repeat (first | with_reducible exact Below.refl _ _ | (with_reducible refine Below.setCell ?_ (by first | exact Nat.le_refl _ | omega | (simp; done) | (simp; omega)) _) | (with_reducible refine Below.alloc ?_ (by first | exact Nat.le_refl _ | omega | (simp; done) | (simp; omega)) _) | with_reducible refine Below.drew ?_ | with_reducible refine bel_drewN ?_ _ | (with_reducible refine bel_by (by with_reducible assumption) (by first | exact Nat.le_refl _ | omega | (simp; done) | (simp; omega)) ?_)))⟩
    · rw [if_neg c1]
      have y1 : ((((s[a]'hlt).toNat : Int)) == 105) = false := by rw [← e8]; simp; omega
      by_cases c2 : at8 s a = 108
      · rw [if_pos c2]
        have y2 : ((((s[a]'hlt).toNat : Int)) == 108) = true := by rw [← e8, c2]; rfl
        clear e8 c1 c2 h0
        go_enter Tryd.func36, Tryd.ntmps36
        go_wp2
        refine bodyPost_ret (v := (⟨3, 0, ⟨#[]⟩, a + 1⟩ : Hd).v) (by simp [results, Tryd.results36, go_sem, Hd.v]) rfl ⟨rfl, (by repeat (first | with_reducible exact Below.refl _ _ | (with_reducible refine Below.setCell ?_ (by first | exact Nat.le_refl _ | omega | (simp; done) | (simp; omega)) _) | (with_reducible refine Below.alloc ?_ (by first | exact Nat.le_refl _ | omega | (simp; done) | (simp; omega)) _) | with_reducible refine Below.drew ?_ | with_reducible refine bel_drewN ?_ _ | (with_reducible refine bel_by (by with_reducible assumption) (by first | exact Nat.le_refl _ | omega | (simp; done) | (simp; omega)) ?_)))⟩
      · rw [if_neg c2]
        have y2 : ((((s[a]'hlt).toNat : Int)) == 108) = false := by rw [← e8]; simp; omega
        by_cases c3 : at8 s a = 101
        · rw [if_pos c3]
          have y3 : ((((s[a]'hlt).toNat : Int)) == 101) = true := by rw [← e8, c3]; rfl
          clear e8 c1 c2 c3 h0
          go_enter Tryd.func36, Tryd.ntmps36
          go_wp2
          refine bodyPost_ret (v := (⟨4, 0, ⟨#[]⟩, a + 1⟩ : Hd).v) (by simp [results, Tryd.results36, go_sem, Hd.v]) rfl ⟨rfl, (by repeat (first | with_reducible exact Below.refl _ _ | (with_reducible refine Below.setCell ?_ (by first | exact Nat.le_refl _ | omega | (simp; done) | (simp; omega)) _) | (with_reducible refine Below.alloc ?_ (by first | exact Nat.le_refl _ | omega | (simp; done) | (simp; omega)) _) | with_reducible refine Below.drew ?_ | with_reducible refine bel_drewN ?_ _ | (with_reducible refine bel_by (by with_reducible assumption) (by first | exact Nat.le_refl _ | omega | (simp; done) | (simp; omega)) ?_)))⟩
        · rw [if_neg c3]
          have y3 : ((((s[a]'hlt).toNat : Int)) == 101) = false := by rw [← e8]; simp; omega
          clear e8 c1 c2 c3 h0
          go_enter Tryd.func36, Tryd.ntmps36
          go_wp2_with fail
          refine (HX.out _).mono ?_
          rintro r w1 ⟨rfl, hb1⟩
          obtain ⟨hc1, hf1⟩ := bcell hb1
          have hz1 := bsize hb1
          simp at hz1
          have k0 : w.heap.size < w1.heap.size := by omega
          unfold Hd.v
          go_wp2
          refine bodyPost_ret (v := (⟨k2, n2, t2, f2⟩ : Hd).v) (by simp [results, Tryd.results36, go_sem, hc1, hf1, k0, Hd.v]) rfl ⟨rfl, (by repeat (first | with_reducible exact Below.refl _ _ | (with_reducible refine Below.setCell ?_ (by first | exact Nat.le_refl _ | omega | (simp; done) | (simp; omega)) _) | (with_reducible refine Below.alloc ?_ (by first | exact Nat.le_refl _ | omega | (simp; done) | (simp; omega)) _) | with_reducible refine Below.drew ?_ | with_reducible refine bel_drewN ?_ _ | (with_reducible refine bel_by (by with_reducible assumption) (by first | exact Nat.le_refl _ | omega | (simp; done) | (simp; omega)) ?_)))⟩
end Go.Proofs.YtljeialaefmbmaaDoor
