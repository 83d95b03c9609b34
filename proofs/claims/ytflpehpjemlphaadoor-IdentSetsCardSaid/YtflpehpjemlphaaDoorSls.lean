/- Slices of strings that are known; contracts of layer 4: shared, Sorted, Has, the reference's Same. -/
import Derived.Test.YtflpehpjemlphaaDoorBut
import Derived.Test.YtflpehpjemlphaaDoorShelf
import Derived.Sort.Walk0
set_option linter.unusedSimpArgs false
set_option linter.unusedVariables false
namespace Go.Proofs.YtflpehpjemlphaaDoor
open Go.RowKit

/-- a slice of strings that reads as a list -/
structure SlS (w : World) (a : Option Addr) (b off len cap : Nat) (L : List ByteArray) : Prop where
  hl : L.length = len
  ha : 0 < len → a = some ⟨b, off, none⟩
  hb : 0 < len → b < w.heap.size
  hcap : len ≤ cap
  hmax : cap ≤ maxLen
  cell : ∀ (k : Nat) (h : k < L.length), w.cell? ⟨b, off + k, none⟩ = some (.string L[k])
theorem SlS.keep {w w' : World} {a : Option Addr} {b off len cap : Nat} {L : List ByteArray} (h : SlS w a b off len cap L) (hB : Below w.heap.size w w') : SlS w' a b off len cap L := by
  obtain ⟨h1, h2, h3, h4, h5, h6⟩ := h
  refine ⟨h1, h2, fun h => Nat.lt_of_lt_of_le (h3 h) hB.size, h4, h5, fun k hk => ?_⟩
  exact (hB.cell (p := ⟨b, off + k, none⟩) (h3 (by omega))).trans (h6 k hk)
theorem SlS.drewN {w : World} {a : Option Addr} {b off len cap : Nat} {L : List ByteArray} (h : SlS w a b off len cap L) (n : Nat) : SlS (w.drewN n) a b off len cap L :=
  ⟨h.hl, h.ha, h.hb, h.hcap, h.hmax, h.cell⟩
/-- with how many bytes two texts begin alike -/
def cplL : List UInt8 → List UInt8 → Nat
  | a :: x, b :: y => if a = b then cplL x y + 1 else 0
  | _, _ => 0
theorem cpl_le : ∀ (a b : List UInt8), cplL a b ≤ a.length ∧ cplL a b ≤ b.length
  | [], b => by cases b <;> simp [cplL]
  | _ :: _, [] => by simp [cplL]
  | a :: x, b :: y => by
    unfold cplL
    have := cpl_le x y
    split <;> simp <;> omega
theorem cpl_same : ∀ (a b : List UInt8) (k : Nat), k < cplL a b → a[k]? = b[k]?
  | [], b, k, h => by cases b <;> simp [cplL] at h
  | _ :: _, [], k, h => by simp [cplL] at h
  | a :: x, b :: y, k, h => by
    unfold cplL at h
    split at h
    · rename_i e
      cases k with
      | zero => simp [e]
      | succ k => simpa using cpl_same x y k (by omega)
    · omega
theorem cpl_end : ∀ (a b : List UInt8), cplL a b < a.length → cplL a b < b.length → a[cplL a b]? ≠ b[cplL a b]?
  | [], b, h, _ => by cases b <;> simp [cplL] at h
  | _ :: _, [], _, h => by simp [cplL] at h
  | a :: x, b :: y, h1, h2 => by
    by_cases e : a = b
    · have ec : cplL (a :: x) (b :: y) = cplL x y + 1 := by rw [cplL, if_pos e]
      rw [ec] at h1 h2 ⊢
      simpa using cpl_end x y (by simpa using h1) (by simpa using h2)
    · have ec : cplL (a :: x) (b :: y) = 0 := by rw [cplL, if_neg e]
      rw [ec]
      simpa using e
def cpl (a b : ByteArray) : Nat := cplL a.data.toList b.data.toList
theorem bget (s : ByteArray) (k : Nat) (h : k < s.size) : s.data.toList[k]? = some (s[k]'h) := by
  rw [List.getElem?_eq_getElem (by simpa using h)]
  rfl
theorem blen (s : ByteArray) : s.data.toList.length = s.size := by simp
theorem cpl_bd (a b : ByteArray) : cpl a b ≤ a.size ∧ cpl a b ≤ b.size := by
  have := cpl_le a.data.toList b.data.toList
  rw [blen, blen] at this
  exact this
theorem cpl_eq (a b : ByteArray) (k : Nat) (h : k < cpl a b) (h1 : k < a.size) (h2 : k < b.size) : (((a[k]'h1).toNat : Int) == ((b[k]'h2).toNat : Int)) = true := by
  have := cpl_same _ _ k h
  rw [bget a k h1, bget b k h2] at this
  rw [Option.some.inj this]
  simp
theorem cpl_ne (a b : ByteArray) (h1 : cpl a b < a.size) (h2 : cpl a b < b.size) : (((a[cpl a b]'h1).toNat : Int) == ((b[cpl a b]'h2).toNat : Int)) = false := by
  have := cpl_end a.data.toList b.data.toList (by rw [blen]; exact h1) (by rw [blen]; exact h2)
  have e1 := bget a _ h1
  have e2 := bget b _ h2
  have e3 : a.data.toList[cplL a.data.toList b.data.toList]? = some (a[cpl a b]'h1) := e1
  have e4 : b.data.toList[cplL a.data.toList b.data.toList]? = some (b[cpl a b]'h2) := e2
  rw [e3, e4] at this
  rw [beq_eq_false_iff_ne]
  intro h
  exact this (congrArg some (UInt8.toNat.inj (by omega)))
set_option maxHeartbeats 1000000 in
set_option maxRecDepth 100000 in
theorem shared_any (a b : ByteArray) (ha : a.size ≤ 4611686018427387904) (hb : b.size ≤ 4611686018427387904) (w : World) :
    Calls Tryd.prog 33 #[.string a, .string b] w fun e w' => e = .returned (.int .i64 (cpl a b : Int)) ∧ ∃ n, w' = w.drewN n := by
  obtain ⟨b1, b2⟩ := cpl_bd a b
  have HE := Lib.hid (fun k h h1 h2 => cpl_eq a b k h h1 h2)
  have HN := Lib.hid (show ∀ (k : Nat), cpl a b = k → ∀ (h1 : k < a.size) (h2 : k < b.size), (((a[k]'h1).toNat : Int) == ((b[k]'h2).toNat : Int)) = false by rintro k rfl h1 h2; exact cpl_ne a b h1 h2)
  obtain ⟨r, hr⟩ : ∃ r, cpl a b = r := ⟨_, rfl⟩
  simp only [hr] at b1 b2 HE HN
  rw [hr]
  clear hr
  go_enter Tryd.func33, Tryd.ntmps33
  go_wp2_with fail
  go_loopw [5] (fun s5 wr => ∃ (k n : Nat), k ≤ r ∧ s5 = .int .i64 (k : Int) ∧ w.drewN n = wr) (fun s5 _ => (a.size - (intOf s5)).toNat)
  case atStart => exact ⟨0, 0, Nat.zero_le _, rfl, rfl⟩
  case round =>
    obtain ⟨k, n, hk, rfl, rfl⟩ := hrel
    generalize hwn : w.drewN n = wn
    by_cases h1 : k < a.size
    · have k1 : decide ((k : Int) < (a.size : Int)) = true := by simpa using h1
      have l1 : (k : Int) < (a.size : Int) := by omega
      by_cases h2 : k < b.size
      · have k2 : decide ((k : Int) < (b.size : Int)) = true := by simpa using h2
        have l2 : (k : Int) < (b.size : Int) := by omega
        by_cases h3 : k < r
        · have k3 := HE.out k h3 h1 h2
          go_wp2_with fail
          go_quiet (fail)
          go_wp2_with fail
          go_roundw
          case rel => exact ⟨k + 1, n + nq, by omega, by go_num, by rw [← hwn, World.drewN_drewN]⟩
          case measure => simp [intOf]; omega
        · obtain rfl : k = r := by omega
          have k3 := HN.out k rfl h1 h2
          go_wp2_with fail
          go_quiet (fail)
          go_wp2
          go_ret
          exact ⟨rfl, n + nq, by rw [← hwn, World.drewN_drewN]⟩
      · have k2 : decide ((k : Int) < (b.size : Int)) = false := by simpa using h2
        have l2 : ¬ (k : Int) < (b.size : Int) := by omega
        obtain rfl : k = r := by omega
        go_wp2_with fail
        go_quiet (fail)
        go_wp2
        go_ret
        exact ⟨rfl, n + nq, by rw [← hwn, World.drewN_drewN]⟩
    · have k1 : decide ((k : Int) < (a.size : Int)) = false := by simpa using h1
      have l1 : ¬ (k : Int) < (a.size : Int) := by omega
      obtain rfl : k = r := by omega
      go_wp2_with fail
      go_quiet (fail)
      go_wp2
      go_ret
      exact ⟨rfl, n + nq, by rw [← hwn, World.drewN_drewN]⟩
end Go.Proofs.YtflpehpjemlphaaDoor
