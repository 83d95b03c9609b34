/- Contracts of layer 9: Place, and the reference's. -/
import Derived.Test.YtmokeegebbmdhaaGreatDoorNum
import Derived.Lib.LastIndexByte
import Derived.Lib.Bytealg
set_option linter.unusedSimpArgs false
set_option linter.unusedVariables false
namespace Go.Proofs.YtmokeegebbmdhaaGreatDoor
open Go.RowKit

def plS (x : Int × Int) (c : UInt8) : Int × Int := if c = 10 then (x.1 + 1, 1) else (x.1, x.2 + 1)
/-- line and column behind a text -/
def plF (l : List UInt8) : Int × Int := l.foldl plS (1, 1)
theorem plF_snoc (l : List UInt8) (c : UInt8) : plF (l ++ [c]) = plS (plF l) c := by
  unfold plF; rw [List.foldl_append]; rfl
theorem plF_at (U : ByteArray) : ∀ k, k ≤ U.size → plF (U.data.toList.take k) = (((Lib.countByte (U.data.toList.take k) 10 : Nat) : Int) + 1, (k : Int) - Lib.lastIdx U 10 k) ∧ -1 ≤ Lib.lastIdx U 10 k ∧ Lib.lastIdx U 10 k < k
  | 0, _ => by simp [plF, Lib.countByte, Lib.lastIdx]
  | k + 1, h => by
    have hk : k < U.size := by omega
    obtain ⟨ih, i1, i2⟩ := plF_at U k (by omega)
    have hkL : k < U.data.toList.length := by rw [list_size]; exact hk
    have hg : U.data.toList[k]'hkL = U[k]'hk := rfl
    have hg2 : U.data[k]! = U[k]'hk := by
      have h2 : k < U.data.size := hk
      rw [getElem!_pos U.data k h2]
      rfl
    have hl : Lib.lastIdx U 10 (k + 1) = if ((U.data[k]!).toNat : Int) = 10 then (k : Int) else Lib.lastIdx U 10 k := rfl
    have hcnt : ∀ l : List UInt8, Lib.countByte l 10 = l.count 10 := fun _ => rfl
    rw [List.take_succ_eq_append_getElem hkL, plF_snoc, ih, hg, hl, hg2, hcnt, hcnt, List.count_append]
    generalize Lib.lastIdx U 10 k = q at *
    generalize (U.data.toList.take k).count 10 = m at *
    have e10 := u8_eq (U[k]'hk) 10 (by decide)
    have e11 : (UInt8.ofNat 10) = 10 := rfl
    rw [e11] at e10
    generalize U[k]'hk = c at *
    cases hc : (c == 10) with
    | true =>
      rw [hc] at e10
      have hc2 : c = 10 := by simpa using hc
      subst hc2
      simp [plS]
      omega
    | false =>
      rw [hc] at e10
      have hc2 : ¬ c = 10 := by simpa using hc
      have hn : ¬ ((c.toNat : Int)) = 10 := by simpa using e10.symm
      have hct : ([c] : List UInt8).count 10 = 0 := by simp [List.count_singleton, hc]
      rw [if_neg hn, hct]
      simp [plS, hc2]
      omega
theorem plF_all (U : ByteArray) : plF U.data.toList = (((Lib.countByte U.data.toList 10 : Nat) : Int) + 1, (U.size : Int) - Lib.lastIndexByte U 10) ∧ -1 ≤ Lib.lastIndexByte U 10 ∧ Lib.lastIndexByte U 10 < U.size := by
  have := plF_at U U.size (Nat.le_refl _)
  rw [← list_size, List.take_length, list_size] at this
  exact this
theorem plF_bd : ∀ (l : List UInt8) , 1 ≤ (plF l).1 ∧ (plF l).1 ≤ l.length + 1 ∧ 1 ≤ (plF l).2 ∧ (plF l).2 ≤ l.length + 1 := by
  intro l
  have h : ∀ (l : List UInt8) (x : Int × Int) (n : Int), 1 ≤ x.1 ∧ x.1 ≤ n ∧ 1 ≤ x.2 ∧ x.2 ≤ n → 1 ≤ (l.foldl plS x).1 ∧ (l.foldl plS x).1 ≤ l.length + n ∧ 1 ≤ (l.foldl plS x).2 ∧ (l.foldl plS x).2 ≤ l.length + n := by
    intro l
    induction l with
    | nil => intro x n h; simpa using h
    | cons c t ih =>
      intro x n h
      rw [List.foldl_cons]
      have := ih (plS x c) (n + 1) (by unfold plS; split <;> simp <;> omega)
      simp only [List.length_cons]
      omega
  have := h l (1, 1) 1 (by simp)
  unfold plF
  omega
def clampN (a : Int) (n : Nat) : Nat := (min (max a 0) (n : Int)).toNat
def plA (s : ByteArray) (a : Int) : Int × Int := plF (s.data.toList.take (clampN a s.size))
set_option maxHeartbeats 2000000 in
set_option maxRecDepth 100000 in
theorem place_any (s : ByteArray) (hs : s.size ≤ 1000000) (a : Int) (ha : -9223372036854775808 ≤ a ∧ a ≤ 9223372036854775807) (w : World) : Calls Tryz.prog 19 #[.string s, .int .i64 a] w fun e w' => e = .returned (.tuple #[.int .i64 (plA s a).1, .int .i64 (plA s a).2]) ∧ w = w' := by
  obtain ⟨p, hp⟩ : ∃ p, clampN a s.size = p := ⟨_, rfl⟩
  have hps : p ≤ s.size := by rw [← hp]; unfold clampN; omega
  obtain ⟨U, hU⟩ : ∃ U, s.extract 0 p = U := ⟨_, rfl⟩
  have eU : U.data.toList = s.data.toList.take p := by rw [← hU, ext_list, List.drop_zero, Nat.sub_zero]
  have eUs : U.size = p := by rw [← hU]; simp; omega
  obtain ⟨p1, p2, p3⟩ := plF_all U
  have HR := Lib.hid (show plA s a = (((Lib.countByte U.data.toList 10 : Nat) : Int) + 1, (U.size : Int) - Lib.lastIndexByte U 10) by unfold plA; rw [hp, ← eU, p1])
  rw [eUs] at HR p3
  have HC := Lib.hid (fun W => Tryz.strings_Count_one U 10 W)
  have HL := Lib.hid (fun W => Tryz.strings_LastIndexByte U 10 (by omega) W)
  have hcl : Lib.countByte U.data.toList 10 ≤ 1000000 := by
    have := List.count_le_length (a := (10 : UInt8)) (l := U.data.toList)
    rw [list_size] at this
    unfold Lib.countByte; omega
  generalize plA s a = R at *
  generalize Lib.countByte U.data.toList 10 = c at *
  generalize Lib.lastIndexByte U 10 = q at *
  have hR := HR.out
  subst hR
  have HU := Lib.hid hU
  have hX : s.extract 0 (min (max a 0) (s.size : Int)).toNat = U := by rw [← hU, ← hp]; rfl
  have hlo : 0 ≤ min (max a 0) (s.size : Int) := by omega
  have hhi : min (max a 0) (s.size : Int) ≤ (s.size : Int) := by omega
  clear HR p1 eU hU hp HU
  go_enter Tryz.func19, Tryz.ntmps19
  go_wp2_with fail
  refine (HC.out _).mono ?_
  rintro e w1 ⟨rfl, rfl⟩
  go_wp2_with fail
  refine (HL.out _).mono ?_
  rintro e w1 ⟨rfl, rfl⟩
  go_wp2_with fail
  go_ret2
  exact ⟨rfl, rfl⟩
end Go.Proofs.YtmokeegebbmdhaaGreatDoor
