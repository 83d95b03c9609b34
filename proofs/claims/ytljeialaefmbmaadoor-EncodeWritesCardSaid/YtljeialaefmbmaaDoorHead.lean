/- Contracts of package encode: the heads of integers and texts. -/
import Derived.Test.YtljeialaefmbmaaDoorNum
set_option linter.unusedSimpArgs false
set_option linter.unusedVariables false
namespace Go.Proofs.YtljeialaefmbmaaDoor
open Go.RowKit

/-- a head: kind, number, text, offset behind it -/
structure Hd where
  kind : Int
  n : Int
  text : ByteArray
  fin : Nat
def Hd.v (h : Hd) : Value := .agg #[.int .i64 h.kind, .int .i64 h.n, .string h.text, .int .i64 (h.fin : Int)]
def hdNo : Hd := ⟨0, 0, ⟨#[]⟩, 0⟩
theorem rnumS_bd (s : ByteArray) (a : Nat) (mark : UInt8) (ha : a ≤ s.size) : 0 ≤ (rnumS s a mark).1 ∧ (rnumS s a mark).1 ≤ 9999999999999999999 ∧ (rnumS s a mark).2 ≤ s.size ∧ ((rnumS s a mark).2 ≠ 0 → a + 2 ≤ (rnumS s a mark).2) := by
  unfold rnumS
  split
  · rename_i h
    obtain ⟨r1, r2⟩ := digN_le 19 s a
    have r2 := r2 ha
    have b := numN_bd s a (digN 19 s a) r2 (fun j h' hj => digN_dig 19 s a j h' hj)
    have p := pow19 _ r1
    refine ⟨b.1, by simp only; omega, by simp only; omega, fun _ => by simp only; omega⟩
  · simp

/-- readInt -/
def rintS (s : ByteArray) (a : Nat) : Hd :=
  if a < s.size ∧ at8 s a = 45 then
    (if (rnumS s (a + 1) 59).2 = 0 ∨ 9223372036854775808 < (rnumS s (a + 1) 59).1 ∨ (rnumS s (a + 1) 59).1 = 0 then hdNo else ⟨1, -(rnumS s (a + 1) 59).1, ⟨#[]⟩, (rnumS s (a + 1) 59).2⟩)
  else (if (rnumS s a 59).2 = 0 ∨ 9223372036854775807 < (rnumS s a 59).1 then hdNo else ⟨1, (rnumS s a 59).1, ⟨#[]⟩, (rnumS s a 59).2⟩)
def RN (s : ByteArray) (a : Nat) (c : Int) (m : Int) (e : Nat) : Prop := ∀ W, Calls Tryd.prog 47 #[.string s, .int .i64 (a : Int), .int .u8 c] W fun r w' => r = .returned (.tuple #[.int .u64 m, .int .i64 (e : Int)]) ∧ W = w'

set_option maxHeartbeats 2000000 in
set_option maxRecDepth 100000 in
theorem rint_neg (s : ByteArray) (a : Nat) (h0 : a < s.size) (hc : at8 s a = 45) (hs : s.size ≤ 4611686018427387904) (m : Int) (e : Nat) (HR : Hid (RN s (a + 1) 59 m e)) (m0 : 0 ≤ m) (m1 : m ≤ 9999999999999999999) (he : e ≤ s.size) (w : World) :
    Calls Tryd.prog 41 #[.string s, .int .i64 (a : Int)] w fun r w' => r = .returned (if e = 0 ∨ 9223372036854775808 < m ∨ m = 0 then hdNo else ⟨1, -m, ⟨#[]⟩, e⟩ : Hd).v ∧ Below w.heap.size w w' := by
  have x0 : (a : Int) < (s.size : Int) := by omega
  have x1 : ((((s[a]'h0).toNat : Int)) == 45) = true := by rw [← at8_eq h0, hc]; rfl
  have HR' : Hid (∀ W, Calls Tryd.prog 47 #[.string s, .int .i64 ((a : Int) + 1), .int .u8 59] W fun r w' => r = .returned (.tuple #[.int .u64 m, .int .i64 (e : Int)]) ∧ W = w') := HR.out
  clear hc HR
  by_cases he0 : e = 0
  · rw [if_pos (Or.inl he0)]
    subst he0
    go_enter Tryd.func41, Tryd.ntmps41
    go_wp2_with fail
    refine (HR'.out _).mono ?_
    rintro r w1 ⟨rfl, rfl⟩
    go_wp2
    refine bodyPost_ret (v := hdNo.v) (by simp [results, Tryd.results41, go_sem, hdNo, Hd.v]) rfl ⟨rfl, (by repeat (first | with_reducible exact Below.refl _ _ | (with_reducible refine Below.setCell ?_ (by first | exact Nat.le_refl _ | omega | (simp; done) | (simp; omega)) _) | (with_reducible refine Below.alloc ?_ (by first | exact Nat.le_refl _ | omega | (simp; done) | (simp; omega)) _) | with_reducible refine Below.drew ?_ | with_reducible refine bel_drewN ?_ _ | (with_reducible refine bel_by (by with_reducible assumption) (by first | exact Nat.le_refl _ | omega | (simp; done) | (simp; omega)) ?_)))⟩
  · have y0 : ((e : Int) == 0) = false := by simp; omega
    by_cases hm : 9223372036854775808 < m
    · rw [if_pos (Or.inr (Or.inl hm))]
      clear he0
      go_enter Tryd.func41, Tryd.ntmps41
      go_wp2_with fail
      refine (HR'.out _).mono ?_
      rintro r w1 ⟨rfl, rfl⟩
      go_wp2
      refine bodyPost_ret (v := hdNo.v) (by simp [results, Tryd.results41, go_sem, hdNo, Hd.v]) rfl ⟨rfl, (by repeat (first | with_reducible exact Below.refl _ _ | (with_reducible refine Below.setCell ?_ (by first | exact Nat.le_refl _ | omega | (simp; done) | (simp; omega)) _) | (with_reducible refine Below.alloc ?_ (by first | exact Nat.le_refl _ | omega | (simp; done) | (simp; omega)) _) | with_reducible refine Below.drew ?_ | with_reducible refine bel_drewN ?_ _ | (with_reducible refine bel_by (by with_reducible assumption) (by first | exact Nat.le_refl _ | omega | (simp; done) | (simp; omega)) ?_)))⟩
    · by_cases hz : m = 0
      · rw [if_pos (Or.inr (Or.inr hz))]
        subst hz
        clear he0
        go_enter Tryd.func41, Tryd.ntmps41
        go_wp2_with fail
        refine (HR'.out _).mono ?_
        rintro r w1 ⟨rfl, rfl⟩
        go_wp2
        refine bodyPost_ret (v := hdNo.v) (by simp [results, Tryd.results41, go_sem, hdNo, Hd.v]) rfl ⟨rfl, (by repeat (first | with_reducible exact Below.refl _ _ | (with_reducible refine Below.setCell ?_ (by first | exact Nat.le_refl _ | omega | (simp; done) | (simp; omega)) _) | (with_reducible refine Below.alloc ?_ (by first | exact Nat.le_refl _ | omega | (simp; done) | (simp; omega)) _) | with_reducible refine Below.drew ?_ | with_reducible refine bel_drewN ?_ _ | (with_reducible refine bel_by (by with_reducible assumption) (by first | exact Nat.le_refl _ | omega | (simp; done) | (simp; omega)) ?_)))⟩
      · rw [if_neg (by rintro (h | h | h); exact he0 h; exact hm h; exact hz h)]
        have y1 : (m == 0) = false := by simpa using hz
        have y2 : wrap64 (-wrap64 m) = -m := by unfold wrap64; omega
        clear he0 hz
        go_enter Tryd.func41, Tryd.ntmps41
        go_wp2_with fail
        refine (HR'.out _).mono ?_
        rintro r w1 ⟨rfl, rfl⟩
        go_wp2
        refine bodyPost_ret (v := (⟨1, -m, ⟨#[]⟩, e⟩ : Hd).v) (by simp [results, Tryd.results41, go_sem, Hd.v, y2]) rfl ⟨rfl, (by repeat (first | with_reducible exact Below.refl _ _ | (with_reducible refine Below.setCell ?_ (by first | exact Nat.le_refl _ | omega | (simp; done) | (simp; omega)) _) | (with_reducible refine Below.alloc ?_ (by first | exact Nat.le_refl _ | omega | (simp; done) | (simp; omega)) _) | with_reducible refine Below.drew ?_ | with_reducible refine bel_drewN ?_ _ | (with_reducible refine bel_by (by with_reducible assumption) (by first | exact Nat.le_refl _ | omega | (simp; done) | (simp; omega)) ?_)))⟩

set_option maxHeartbeats 2000000 in
set_option maxRecDepth 100000 in
theorem rint_pos (s : ByteArray) (a : Nat) (h : ¬ (a < s.size ∧ at8 s a = 45)) (hs : s.size ≤ 4611686018427387904) (m : Int) (e : Nat) (HR : Hid (RN s a 59 m e)) (m0 : 0 ≤ m) (m1 : m ≤ 9999999999999999999) (he : e ≤ s.size) (w : World) :
    Calls Tryd.prog 41 #[.string s, .int .i64 (a : Int)] w fun r w' => r = .returned (if e = 0 ∨ 9223372036854775807 < m then hdNo else ⟨1, m, ⟨#[]⟩, e⟩ : Hd).v ∧ Below w.heap.size w w' := by
  have HR' : Hid (∀ W, Calls Tryd.prog 47 #[.string s, .int .i64 (a : Int), .int .u8 59] W fun r w' => r = .returned (.tuple #[.int .u64 m, .int .i64 (e : Int)]) ∧ W = w') := HR.out
  have hw : (∃ h0 : a < s.size, ((((s[a]'h0).toNat : Int)) == 45) = false) ∨ ¬ (a : Int) < (s.size : Int) := by
    by_cases h0 : a < s.size
    · left
      refine ⟨h0, ?_⟩
      have : at8 s a ≠ 45 := fun hc => h ⟨h0, hc⟩
      rw [at8_eq h0] at this
      simp; omega
    · right; omega
  clear h HR
  by_cases he0 : e = 0
  · rw [if_pos (Or.inl he0)]
    subst he0
    rcases hw with ⟨h0, x1⟩ | x0
    · have x0 : (a : Int) < (s.size : Int) := by omega
      go_enter Tryd.func41, Tryd.ntmps41
      go_wp2_with fail
      refine (HR'.out _).mono ?_
      rintro r w1 ⟨rfl, rfl⟩
      go_wp2
      refine bodyPost_ret (v := hdNo.v) (by simp [results, Tryd.results41, go_sem, hdNo, Hd.v]) rfl ⟨rfl, (by repeat (first | with_reducible exact Below.refl _ _ | (with_reducible refine Below.setCell ?_ (by first | exact Nat.le_refl _ | omega | (simp; done) | (simp; omega)) _) | (with_reducible refine Below.alloc ?_ (by first | exact Nat.le_refl _ | omega | (simp; done) | (simp; omega)) _) | with_reducible refine Below.drew ?_ | with_reducible refine bel_drewN ?_ _ | (with_reducible refine bel_by (by with_reducible assumption) (by first | exact Nat.le_refl _ | omega | (simp; done) | (simp; omega)) ?_)))⟩
    · go_enter Tryd.func41, Tryd.ntmps41
      go_wp2_with fail
      refine (HR'.out _).mono ?_
      rintro r w1 ⟨rfl, rfl⟩
      go_wp2
      refine bodyPost_ret (v := hdNo.v) (by simp [results, Tryd.results41, go_sem, hdNo, Hd.v]) rfl ⟨rfl, (by repeat (first | with_reducible exact Below.refl _ _ | (with_reducible refine Below.setCell ?_ (by first | exact Nat.le_refl _ | omega | (simp; done) | (simp; omega)) _) | (with_reducible refine Below.alloc ?_ (by first | exact Nat.le_refl _ | omega | (simp; done) | (simp; omega)) _) | with_reducible refine Below.drew ?_ | with_reducible refine bel_drewN ?_ _ | (with_reducible refine bel_by (by with_reducible assumption) (by first | exact Nat.le_refl _ | omega | (simp; done) | (simp; omega)) ?_)))⟩
  · have y0 : ((e : Int) == 0) = false := by simp; omega
    by_cases hm : 9223372036854775807 < m
    · rw [if_pos (Or.inr hm)]
      clear he0
      rcases hw with ⟨h0, x1⟩ | x0
      · have x0 : (a : Int) < (s.size : Int) := by omega
        go_enter Tryd.func41, Tryd.ntmps41
        go_wp2_with fail
        refine (HR'.out _).mono ?_
        rintro r w1 ⟨rfl, rfl⟩
        go_wp2
        refine bodyPost_ret (v := hdNo.v) (by simp [results, Tryd.results41, go_sem, hdNo, Hd.v]) rfl ⟨rfl, (by repeat (first | with_reducible exact Below.refl _ _ | (with_reducible refine Below.setCell ?_ (by first | exact Nat.le_refl _ | omega | (simp; done) | (simp; omega)) _) | (with_reducible refine Below.alloc ?_ (by first | exact Nat.le_refl _ | omega | (simp; done) | (simp; omega)) _) | with_reducible refine Below.drew ?_ | with_reducible refine bel_drewN ?_ _ | (with_reducible refine bel_by (by with_reducible assumption) (by first | exact Nat.le_refl _ | omega | (simp; done) | (simp; omega)) ?_)))⟩
      · go_enter Tryd.func41, Tryd.ntmps41
        go_wp2_with fail
        refine (HR'.out _).mono ?_
        rintro r w1 ⟨rfl, rfl⟩
        go_wp2
        refine bodyPost_ret (v := hdNo.v) (by simp [results, Tryd.results41, go_sem, hdNo, Hd.v]) rfl ⟨rfl, (by repeat (first | with_reducible exact Below.refl _ _ | (with_reducible refine Below.setCell ?_ (by first | exact Nat.le_refl _ | omega | (simp; done) | (simp; omega)) _) | (with_reducible refine Below.alloc ?_ (by first | exact Nat.le_refl _ | omega | (simp; done) | (simp; omega)) _) | with_reducible refine Below.drew ?_ | with_reducible refine bel_drewN ?_ _ | (with_reducible refine bel_by (by with_reducible assumption) (by first | exact Nat.le_refl _ | omega | (simp; done) | (simp; omega)) ?_)))⟩
    · rw [if_neg (by rintro (h | h); exact he0 h; exact hm h)]
      have y2 : wrap64 m = m := by unfold wrap64; omega
      have y3 : IntKind.i64.wrap m = m := IntWalk.i64_in _ (by omega)
      clear he0
      rcases hw with ⟨h0, x1⟩ | x0
      · have x0 : (a : Int) < (s.size : Int) := by omega
        go_enter Tryd.func41, Tryd.ntmps41
        go_wp2_with fail
        refine (HR'.out _).mono ?_
        rintro r w1 ⟨rfl, rfl⟩
        go_wp2
        refine bodyPost_ret (v := (⟨1, m, ⟨#[]⟩, e⟩ : Hd).v) (by simp [results, Tryd.results41, go_sem, Hd.v, y2, y3]) rfl ⟨rfl, (by repeat (first | with_reducible exact Below.refl _ _ | (with_reducible refine Below.setCell ?_ (by first | exact Nat.le_refl _ | omega | (simp; done) | (simp; omega)) _) | (with_reducible refine Below.alloc ?_ (by first | exact Nat.le_refl _ | omega | (simp; done) | (simp; omega)) _) | with_reducible refine Below.drew ?_ | with_reducible refine bel_drewN ?_ _ | (with_reducible refine bel_by (by with_reducible assumption) (by first | exact Nat.le_refl _ | omega | (simp; done) | (simp; omega)) ?_)))⟩
      · go_enter Tryd.func41, Tryd.ntmps41
        go_wp2_with fail
        refine (HR'.out _).mono ?_
        rintro r w1 ⟨rfl, rfl⟩
        go_wp2
        refine bodyPost_ret (v := (⟨1, m, ⟨#[]⟩, e⟩ : Hd).v) (by simp [results, Tryd.results41, go_sem, Hd.v, y2, y3]) rfl ⟨rfl, (by repeat (first | with_reducible exact Below.refl _ _ | (with_reducible refine Below.setCell ?_ (by first | exact Nat.le_refl _ | omega | (simp; done) | (simp; omega)) _) | (with_reducible refine Below.alloc ?_ (by first | exact Nat.le_refl _ | omega | (simp; done) | (simp; omega)) _) | with_reducible refine Below.drew ?_ | with_reducible refine bel_drewN ?_ _ | (with_reducible refine bel_by (by with_reducible assumption) (by first | exact Nat.le_refl _ | omega | (simp; done) | (simp; omega)) ?_)))⟩

/-- readInt -/
theorem rint_any (s : ByteArray) (a : Nat) (ha : a ≤ s.size) (hs : s.size ≤ 4611686018427387904) (w : World) :
    Calls Tryd.prog 41 #[.string s, .int .i64 (a : Int)] w fun r w' => r = .returned (rintS s a).v ∧ Below w.heap.size w w' := by
  unfold rintS
  by_cases h : a < s.size ∧ at8 s a = 45
  · rw [if_pos h]
    obtain ⟨b1, b2, b3, _⟩ := rnumS_bd s (a + 1) 59 (by omega)
    exact rint_neg s a h.1 h.2 hs _ _ (Lib.hid (fun W => rnum_any s (a + 1) 59 (by omega) hs W)) b1 b2 b3 w
  · rw [if_neg h]
    obtain ⟨b1, b2, b3, _⟩ := rnumS_bd s a 59 ha
    exact rint_pos s a h hs _ _ (Lib.hid (fun W => rnum_any s a 59 ha hs W)) b1 b2 b3 w
end Go.Proofs.YtljeialaefmbmaaDoor
