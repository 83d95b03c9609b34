/- Contracts of layer 4: pieces of a string. -/
import Derived.Test.YtflpehpjemlphaaDoorBut
import Derived.Test.YtflpehpjemlphaaDoorByte
import Derived.Test.YtflpehpjemlphaaDoorShelf
set_option linter.unusedSimpArgs false
set_option linter.unusedVariables false
namespace Go.Proofs.YtflpehpjemlphaaDoor
open Go.RowKit

def bs (l : List UInt8) : ByteArray := ⟨l.toArray⟩
theorem bs_list (s : ByteArray) : bs s.data.toList = s := by
  unfold bs; simp
/-- how many digits a text begins with -/
def lead (s : ByteArray) : Nat := (s.data.toList.takeWhile dig).length
theorem lead_le (s : ByteArray) : lead s ≤ s.size := by
  unfold lead
  have := (List.takeWhile_sublist dig (l := s.data.toList)).length_le
  simpa using this
theorem list_get (s : ByteArray) (k : Nat) (h : k < s.size) : s.data.toList[k]? = some (s[k]'h) := by
  rw [List.getElem?_eq_getElem (by simpa using h)]
  rfl
theorem tw_get (p : UInt8 → Bool) : ∀ (l : List UInt8) (k : Nat), k < (l.takeWhile p).length → ∃ c, l[k]? = some c ∧ p c = true
  | [], k, h => by simp at h
  | c :: t, k, h => by
    by_cases hc : p c = true
    · rw [List.takeWhile_cons_of_pos hc] at h
      cases k with
      | zero => exact ⟨c, rfl, hc⟩
      | succ k =>
        obtain ⟨d, h1, h2⟩ := tw_get p t k (by simpa using h)
        exact ⟨d, by simpa using h1, h2⟩
    · rw [List.takeWhile_cons_of_neg hc] at h
      simp at h
theorem tw_end (p : UInt8 → Bool) : ∀ (l : List UInt8), (l.takeWhile p).length < l.length → ∃ c, l[(l.takeWhile p).length]? = some c ∧ p c = false
  | [], h => by simp at h
  | c :: t, h => by
    by_cases hc : p c = true
    · rw [List.takeWhile_cons_of_pos hc] at h ⊢
      obtain ⟨d, h1, h2⟩ := tw_end p t (by simpa using h)
      exact ⟨d, by simpa using h1, h2⟩
    · rw [List.takeWhile_cons_of_neg hc]
      exact ⟨c, rfl, by simpa using hc⟩
theorem lead_dig (s : ByteArray) (k : Nat) (hk : k < s.size) (h : k < lead s) : dig (s[k]'hk) = true := by
  obtain ⟨c, h1, h2⟩ := tw_get dig _ k h
  rw [list_get s k hk] at h1
  rw [Option.some.inj h1]
  exact h2
theorem lead_end (s : ByteArray) (h : lead s < s.size) : dig (s[lead s]'h) = false := by
  obtain ⟨c, h1, h2⟩ := tw_end dig s.data.toList (by simpa [lead] using h)
  have h3 : s.data.toList[lead s]? = some c := h1
  rw [list_get s _ h] at h3
  rw [Option.some.inj h3]
  exact h2
theorem take_of_lead (l : List UInt8) (p : UInt8 → Bool) : l.take (l.takeWhile p).length = l.takeWhile p ∧ l.drop (l.takeWhile p).length = l.dropWhile p := by
  induction l with
  | nil => simp
  | cons c t ih =>
    by_cases hc : p c = true
    · rw [List.takeWhile_cons_of_pos hc, List.dropWhile_cons_of_pos hc]
      simp [ih.1, ih.2]
    · rw [List.takeWhile_cons_of_neg hc, List.dropWhile_cons_of_neg hc]
      simp
theorem digit_eq (c : UInt8) (w : World) (b : Bool) (h : dig c = b) : Calls Tryd.prog 37 #[.int .u8 (c.toNat : Int)] w fun e w' => e = .returned (.bool b) ∧ w = w' := by
  rw [dig_in] at h
  exact digit_is c w b h

theorem ext_list (s : ByteArray) (a b : Nat) : (s.extract a b).data.toList = (s.data.toList.drop a).take (b - a) := by
  rw [ByteArray.data_extract, Array.toList_extract, List.extract_eq_take_drop]
theorem bs_of {s : ByteArray} {l : List UInt8} (h : s.data.toList = l) : bs l = s := by
  rw [← h]; exact bs_list s
theorem list_size (s : ByteArray) : s.data.toList.length = s.size := by simp
/-- what is behind the first piece, if it is a number -/
theorem piece_num (s : ByteArray) (h : 0 < lead s) : kindOf s.data.toList = 48 ∧ Lib.trimLeftB (s.extract 0 (lead s)).data.toList 48 = numOf s.data.toList ∧ bs (restOf s.data.toList) = s.extract (lead s) s.size := by
  have ht := take_of_lead s.data.toList dig
  have hl : s.data.toList ≠ [] := by
    intro h0
    unfold lead at h
    rw [h0] at h
    simp at h
  have h0 : 0 < s.size := Nat.lt_of_lt_of_le h (lead_le s)
  have hd := lead_dig s 0 h0 h
  have hg := list_get s 0 h0
  refine ⟨?_, ?_, ?_⟩
  · cases hs : s.data.toList with
    | nil => exact absurd hs hl
    | cons c t =>
      rw [hs] at hg
      have : c = s[0]'h0 := by simpa using hg
      rw [← this] at hd
      simp [kindOf, hd]
  · rw [ext_list, List.drop_zero, Nat.sub_zero]
    unfold lead numOf
    rw [ht.1]
    rfl
  · apply bs_of
    rw [ext_list, List.take_of_length_le (by rw [List.length_drop, list_size]; omega)]
    unfold lead
    rw [ht.2]
    cases hs : s.data.toList with
    | nil => exact absurd hs hl
    | cons c t =>
      rw [hs] at hg
      have : c = s[0]'h0 := by simpa using hg
      rw [← this] at hd
      simp [restOf, hd]
theorem piece_byte (s : ByteArray) (h : lead s = 0) (h0 : 0 < s.size) : kindOf s.data.toList = ((s[0]'h0).toNat : Int) ∧ numOf s.data.toList = [] ∧ bs (restOf s.data.toList) = s.extract 1 s.size := by
  have hd : dig (s[0]'h0) = false := by
    have := lead_end s (by omega)
    simp only [h] at this
    exact this
  have hg := list_get s 0 h0
  cases hs : s.data.toList with
  | nil => rw [hs] at hg; simp at hg
  | cons c t =>
    rw [hs] at hg
    have hc : c = s[0]'h0 := by simpa using hg
    rw [← hc] at hd
    refine ⟨by rw [← hc]; simp [kindOf, hd], numOf_none hd, ?_⟩
    apply bs_of
    rw [ext_list, hs]
    have : (c :: t).length = s.size := by rw [← hs, list_size]
    rw [List.take_of_length_le (by rw [List.length_drop]; omega)]
    simp [restOf, hd]
theorem size0 {s : ByteArray} (h : s.size = 0) : s.data.toList = [] := List.eq_nil_of_length_eq_zero (by rw [list_size]; exact h)
theorem empty_list (s : ByteArray) : s.toList = s.data.toList := Lib.toList_data s

/-- what the closure of pieces leaves: the rest in its cell -/
structure PieceAt (w : World) (b : Nat) (s : ByteArray) : Prop where
  c : w.cell? ⟨b, 0, none⟩ = some (.string s)
  f : w.frozen? ⟨b, 0, none⟩ = false
  lt : b < w.heap.size

theorem pieces_any (s : ByteArray) (w : World) : Calls Tryd.prog 41 #[.string s] w fun e w' => e = .returned (.func (.func 51) #[] #[.pointer (some ⟨w.heap.size, 0, none⟩)]) ∧ PieceAt w' w.heap.size s ∧ Below w.heap.size w w' := by
  have hmf : ∀ (fn : Fn) (first cap : Array Value) (w : World), (Instr.makeFunc fn first cap).run Tryd.prog w = .ok (.func fn first cap) w := fun _ _ _ _ => rfl
  go_enter Tryd.func41, Tryd.ntmps41
  go_wp2
  go_ret
  refine ⟨rfl, ⟨?_, ?_, ?_⟩, (by repeat (first | with_reducible exact Below.refl _ _ | (with_reducible refine Below.setCell ?_ (by first | exact Nat.le_refl _ | omega | (simp; done) | (simp; omega)) _) | (with_reducible refine Below.alloc ?_ (by first | exact Nat.le_refl _ | omega | (simp; done) | (simp; omega)) _) | with_reducible refine Below.drew ?_ | with_reducible refine bel_drewN ?_ _ | (with_reducible refine bel_by (by with_reducible assumption) (by first | exact Nat.le_refl _ | omega | (simp; done) | (simp; omega)) ?_)))⟩
  · simp [go_sem]
  · simp [go_sem]
  · simp
set_option maxHeartbeats 1000000 in
set_option maxRecDepth 100000 in
theorem piece_any (b : Nat) (s : ByteArray) (hs : s.size ≤ 4611686018427387904) (w : World) (hP : PieceAt w b s) :
    Calls Tryd.prog 51 #[.pointer (some ⟨b, 0, none⟩)] w fun e w' => e = .returned (.agg #[.int .i64 (kindOf s.data.toList), .string (bs (numOf s.data.toList))]) ∧ PieceAt w' b (bs (restOf s.data.toList)) ∧ But b w w' := by
  obtain ⟨c0, f0, lt⟩ := hP
  have ll := lead_le s
  have HD := Lib.hid (fun k h => lead_dig s k h)
  have HE := Lib.hid (lead_end s)
  have hN : ∃ r, lead s = r := ⟨_, rfl⟩
  obtain ⟨r, hr⟩ := hN
  rw [hr] at ll HD HE
  have HR := Lib.hid hr
  clear hr
  obtain ⟨kk, hkk⟩ : ∃ x, kindOf s.data.toList = x := ⟨_, rfl⟩
  obtain ⟨nn, hnn⟩ : ∃ x, numOf s.data.toList = x := ⟨_, rfl⟩
  obtain ⟨rr, hrr⟩ : ∃ x, bs (restOf s.data.toList) = x := ⟨_, rfl⟩
  rw [hkk, hnn, hrr]
  have HKK := Lib.hid hkk
  have HNN := Lib.hid hnn
  have HRR := Lib.hid hrr
  clear hkk hnn hrr
  go_enter Tryd.func51, Tryd.ntmps51
  go_upto_block 0 with fail
  go_cut [2] (fun s2 wx => s2 = .int .i64 (r : Int) ∧ w.alloc (Obj.cells #[Value.int IntKind.i64 0, Value.string { data := #[] }] 46) = wx)
  case first =>
    go_wp2_with fail
    go_loop [2] (fun s2 => ∃ k : Nat, k ≤ r ∧ s2 = .int .i64 (k : Int)) (fun s2 => (s.size - (intOf s2)).toNat)
    case atStart => exact ⟨0, Nat.zero_le _, rfl⟩
    case round =>
      obtain ⟨k, hk, rfl⟩ := hrel
      by_cases hlt : k < s.size
      · have hl : (k : Int) < (s.size : Int) := by omega
        have hl2 : decide ((k : Int) < (s.size : Int)) = true := by simpa using hlt
        by_cases hkr : k < r
        · have H1 := Lib.hid (HD.out k hlt hkr)
          go_wp2_with fail
          refine (digit_eq _ _ true H1.out).mono ?_
          rintro e w1 ⟨rfl, rfl⟩
          go_wp2
          go_round
          case rel => exact ⟨k + 1, by omega, by go_num⟩
          case measure => simp [intOf]; omega
        · obtain rfl : k = r := by omega
          have H1 := Lib.hid (HE.out hlt)
          go_wp2_with fail
          refine (digit_eq _ _ false H1.out).mono ?_
          rintro e w1 ⟨rfl, rfl⟩
          go_wp2_with fail
          go_meet
          exact ⟨rfl, rfl⟩
      · have hl2 : decide ((k : Int) < (s.size : Int)) = false := by simp; omega
        obtain rfl : k = r := by omega
        go_wp2_with fail
        go_meet
        exact ⟨rfl, rfl⟩
  obtain ⟨rfl, rfl⟩ := hcut
  by_cases hr0 : 0 < r
  · have k1 : (0 : Int) < (r : Int) := by omega
    obtain ⟨p1, p2, p3⟩ := piece_num s (by rw [HR.out]; exact hr0)
    rw [HR.out] at p2 p3
    rw [HKK.out] at p1
    rw [HNN.out] at p2
    rw [HRR.out] at p3
    have HP := Lib.hid p2
    have HQ := Lib.hid p1
    subst p3
    clear p1 p2
    go_wp2_with fail
    refine (Tryd.strings_TrimLeft_one (s.extract 0 r) 48 (by decide) _).mono ?_
    rintro e w1 ⟨rfl, rfl⟩
    rw [HP.out]
    go_wp2
    refine bodyPost_ret (v := .agg #[.int .i64 48, .string (bs nn)]) (by simp [results, Tryd.results51, go_sem, bs]) rfl ⟨by rw [HQ.out], ⟨?_, ?_, ?_⟩, ?_⟩
    · simp (maxDischargeDepth := 6) [go_sem, c0, f0, lt]
    · simp (maxDischargeDepth := 6) [go_sem, c0, f0, lt]
    · simp; omega
    · exact (((But.of (Below.refl _ _)).set _ _).alloc _).alloc _
  · obtain rfl : r = 0 := by omega
    by_cases h0 : 0 < s.size
    · have k2 : ¬ s.toList = [] := by rw [empty_list]; intro h; have := list_size s; rw [h] at this; simp at this; omega
      have k3 : (!s.toList.isEmpty) = true := by cases hh : s.toList with | nil => exact absurd hh k2 | cons c t => rfl
      obtain ⟨p1, p2, p3⟩ := piece_byte s HR.out h0
      rw [HKK.out] at p1
      rw [HNN.out] at p2
      rw [HRR.out] at p3
      subst p1 p2 p3
      have KW := Lib.hid (IntWalk.wrap64_in ((s[0]'h0).toNat : Int) ⟨by omega, by have := (s[0]'h0).toNat_lt; omega⟩)
      go_wp2
      refine bodyPost_ret (v := .agg #[.int .i64 ((s[0]'h0).toNat : Int), .string (bs [])]) (by simp [results, Tryd.results51, go_sem, bs, KW.out]) rfl ⟨rfl, ⟨?_, ?_, ?_⟩, ?_⟩
      · simp (maxDischargeDepth := 6) [go_sem, c0, f0, lt]
      · simp (maxDischargeDepth := 6) [go_sem, c0, f0, lt]
      · simp; omega
      · exact (((But.of (Below.refl _ _)).set _ _).alloc _).alloc _
    · have hz : s.data.toList = [] := size0 (by omega)
      have k2 : s.toList = [] := by rw [empty_list]; exact hz
      have k3 : (!s.toList.isEmpty) = false := by rw [k2]; rfl
      have p1 := HKK.out
      have p2 := HNN.out
      have p3 := HRR.out
      have hs2 : s.extract 0 s.size = s := by
        have := bs_of (ext_list s 0 s.size)
        rw [List.drop_zero, Nat.sub_zero, List.take_of_length_le (by rw [list_size]; omega)] at this
        rw [← this, bs_list]
      have e2 : bs [] = s := by rw [← hz]; exact bs_list s
      rw [hz] at p1 p2 p3
      have q1 : kk = -1 := p1.symm
      have q2 : nn = [] := p2.symm
      have q3 : rr = s := by rw [← p3]; exact e2
      have HS2 := Lib.hid hs2
      clear p1 p2 p3 e2 hz hs2
      subst q1 q2 q3
      go_wp2
      refine bodyPost_ret (v := .agg #[.int .i64 (-1), .string (bs [])]) (by simp [results, Tryd.results51, go_sem, bs]) rfl ⟨rfl, ⟨?_, ?_, ?_⟩, ?_⟩
      · simp (maxDischargeDepth := 6) [go_sem, c0, f0, lt, HS2.out]
      · simp (maxDischargeDepth := 6) [go_sem, c0, f0, lt]
      · simp; omega
      · exact (((But.of (Below.refl _ _)).set _ _).alloc _).alloc _
end Go.Proofs.YtflpehpjemlphaaDoor
