/- Contracts of layer 4: the reference's comparison of two pieces. -/
import Derived.Test.YtcfhmbbkkadnfaaDoorRNat
set_option linter.unusedSimpArgs false
set_option linter.unusedVariables false
namespace Go.Proofs.YtcfhmbbkkadnfaaDoor
open Go.RowKit

theorem quietS {P : Program} {f : FuncId} {args : Array Value} {w : World} {n : Nat} {v : Value} (h : Calls P f args (w.drewN n) fun e w' => e = .returned v ∧ w.drewN n = w') : Calls P f args (w.drewN n) fun e w'' => e = .returned v ∧ ∃ m, w'' = w.drewN m :=
  h.mono fun _ _ ⟨he, hm⟩ => ⟨he, n, hm.symm⟩
theorem isP_byte {p : ByteArray} {c : UInt8} (h : p.data.toList = [c]) : ∃ h0 : 0 < p.size, p[0]'h0 = c := by
  have hl : p.size = 1 := by rw [← list_size, h]; rfl
  have h0 : 0 < p.size := by omega
  refine ⟨h0, ?_⟩
  have := list_get p 0 h0
  rw [h] at this
  simpa using this.symm
theorem isP_num {p : ByteArray} (h : ∀ c ∈ p.data.toList, dig c = true) (hl : p.data.toList ≠ []) : ∃ h0 : 0 < p.size, dig (p[0]'h0) = true := by
  have h0 : 0 < p.size := by
    rw [← list_size]; exact List.length_pos_iff.2 hl
  refine ⟨h0, h _ ?_⟩
  have := list_get p 0 h0
  exact List.mem_of_getElem? this
theorem bs_zero : bs [48] = ⟨#[48]⟩ := rfl
theorem tok_byte {c : UInt8} (h : dig c = false) : tokOf [c] = ((c.toNat : Int), []) := by
  unfold tokOf
  rw [numOf_none h]
  simp [kindOf, h]
theorem tok_num {l : List UInt8} (h : ∀ c ∈ l, dig c = true) (hl : l ≠ []) : tokOf l = (48, str0 l) := by
  cases l with
  | nil => exact absurd rfl hl
  | cons c t =>
    have hc := h c (List.mem_cons_self)
    unfold tokOf numOf
    rw [(take_self h).1]
    simp [kindOf, hc, str0]
theorem cmp_one (c d : UInt8) : Lib.compareBytes [c] [d] = tokC ((c.toNat : Int), []) ((d.toNat : Int), []) := by
  rw [bytes_lex]
  unfold lexC
  rw [cmp8_eq]
  unfold tokC thenC onC
  simp only
  split
  · simp [lexC, Lib.compareInt, Lib.compareBytes]
  · rfl
set_option maxHeartbeats 400000 in
set_option maxRecDepth 100000 in
theorem rpieces_bb (p q : ByteArray) (c d : UInt8) (hp : p.data.toList = [c]) (hq : q.data.toList = [d]) (hc : dig c = false) (hd : dig d = false) (w : World) :
    Calls Tryd.prog 62 #[.string p, .string q] w fun e w' => e = .returned (.int .i64 (tokC (tokOf p.data.toList) (tokOf q.data.toList))) ∧ ∃ n, w' = w.drewN n := by
  obtain ⟨p0, pe⟩ := isP_byte hp
  obtain ⟨q0, qe⟩ := isP_byte hq
  have g1 : inB 48 57 (p[0]'p0) = false := by rw [pe, ← dig_in]; exact hc
  have g2 : inB 48 57 (q[0]'q0) = false := by rw [qe, ← dig_in]; exact hd
  have H1 := Lib.hid (fun W => rdigit_is (p[0]'p0) W false g1)
  have H2 := Lib.hid (fun W => rdigit_is (q[0]'q0) W false g2)
  have HR := Lib.hid (show tokC (tokOf p.data.toList) (tokOf q.data.toList) = Lib.compareBytes p.data.toList q.data.toList by rw [hp, hq, tok_byte hc, tok_byte hd, cmp_one])
  obtain ⟨r, hr⟩ : ∃ r, tokC (tokOf p.data.toList) (tokOf q.data.toList) = r := ⟨_, rfl⟩
  rw [hr] at HR ⊢
  clear hp hq pe qe hc hd g1 g2 hr
  go_enter Tryd.func62, Tryd.ntmps62
  go_wp2_with fail
  go_quiet ((first | (go_at_call 38; with_reducible exact quietS (H1.out _)) | (go_at_call 38; with_reducible exact quietS (H2.out _))))
  go_wp2_with fail
  refine (rcompare_any p q _).mono ?_
  rintro e w1 ⟨rfl, rfl⟩
  rw [← HR.out]
  go_wp2
  go_ret
  exact ⟨rfl, _, rfl⟩
theorem cmp_bn {c : UInt8} {l : List UInt8} (hc : dig c = false) (hl : ∀ x ∈ l, dig x = true) (hl0 : l ≠ []) : tokC (tokOf [c]) (tokOf l) = Lib.compareBytes [c] [48] ∧ tokC (tokOf l) (tokOf [c]) = Lib.compareBytes [48] [c] := by
  have hne : (c.toNat : Int) ≠ 48 := by
    intro h
    have : dig c = true := by rw [dig_iff]; omega
    rw [this] at hc; contradiction
  rw [tok_byte hc, tok_num hl hl0]
  have e1 : Lib.compareBytes [c] [48] = onC (fun x : UInt8 => (x.toNat : Int)) Lib.compareInt c 48 := by
    rw [bytes_lex]
    unfold lexC
    rw [cmp8_eq]
    have : onC (fun x : UInt8 => (x.toNat : Int)) Lib.compareInt c 48 ≠ 0 := by
      show (if (c.toNat : Int) < 48 then (-1 : Int) else if (c.toNat : Int) > 48 then 1 else 0) ≠ 0
      split
      · omega
      · split
        · omega
        · omega
    rw [if_neg this]
  have e2 : Lib.compareBytes [48] [c] = - Lib.compareBytes [c] [48] := tot_bytes.turn _ _
  have e3 : tokC (48, str0 l) ((c.toNat : Int), []) = - tokC ((c.toNat : Int), []) (48, str0 l) := tot_tok.turn _ _
  have e4 : tokC ((c.toNat : Int), []) (48, str0 l) = onC (fun x : UInt8 => (x.toNat : Int)) Lib.compareInt c 48 := by
    have e5 : onC (fun x : UInt8 => (x.toNat : Int)) Lib.compareInt c 48 = Lib.compareInt (c.toNat : Int) 48 := rfl
    rw [e5]
    rcases Int.lt_trichotomy (c.toNat : Int) 48 with h | h | h
    · rw [tok_lt (a := ((c.toNat : Int), [])) (b := (48, str0 l)) h]; unfold Lib.compareInt; rw [if_pos h]
    · exact absurd h hne
    · rw [tok_gt (a := ((c.toNat : Int), [])) (b := (48, str0 l)) h]; unfold Lib.compareInt; rw [if_neg (by omega), if_pos h]
  exact ⟨by rw [e4, e1], by rw [e3, e2, e4, e1]⟩
theorem z48 : (⟨#[48]⟩ : ByteArray).data.toList = [48] := rfl
set_option maxHeartbeats 400000 in
set_option maxRecDepth 100000 in
theorem rpieces_bn (p q : ByteArray) (c : UInt8) (hp : p.data.toList = [c]) (hc : dig c = false) (hq : ∀ x ∈ q.data.toList, dig x = true) (hq0 : q.data.toList ≠ []) (w : World) :
    Calls Tryd.prog 62 #[.string p, .string q] w fun e w' => e = .returned (.int .i64 (tokC (tokOf p.data.toList) (tokOf q.data.toList))) ∧ ∃ n, w' = w.drewN n := by
  obtain ⟨p0, pe⟩ := isP_byte hp
  obtain ⟨q0, qe⟩ := isP_num hq hq0
  have g1 : inB 48 57 (p[0]'p0) = false := by rw [pe, ← dig_in]; exact hc
  have g2 : inB 48 57 (q[0]'q0) = true := by rw [← dig_in]; exact qe
  have H1 := Lib.hid (fun W => rdigit_is (p[0]'p0) W false g1)
  have H2 := Lib.hid (fun W => rdigit_is (q[0]'q0) W true g2)
  have HR := Lib.hid (show tokC (tokOf p.data.toList) (tokOf q.data.toList) = Lib.compareBytes p.data.toList (⟨#[48]⟩ : ByteArray).data.toList by rw [z48, hp]; exact (cmp_bn hc hq hq0).1)
  obtain ⟨r, hr⟩ : ∃ r, tokC (tokOf p.data.toList) (tokOf q.data.toList) = r := ⟨_, rfl⟩
  rw [hr] at HR ⊢
  clear hp hq hq0 pe qe hc g1 g2 hr
  go_enter Tryd.func62, Tryd.ntmps62
  go_wp2_with fail
  go_quiet ((first | (go_at_call 38; with_reducible exact quietS (H1.out _)) | (go_at_call 38; with_reducible exact quietS (H2.out _))))
  go_wp2_with fail
  refine (rcompare_any p ⟨#[48]⟩ _).mono ?_
  rintro e w1 ⟨rfl, rfl⟩
  rw [← HR.out]
  go_wp2
  go_ret
  exact ⟨rfl, _, rfl⟩
set_option maxHeartbeats 400000 in
set_option maxRecDepth 100000 in
theorem rpieces_nb (p q : ByteArray) (c : UInt8) (hq : q.data.toList = [c]) (hc : dig c = false) (hp : ∀ x ∈ p.data.toList, dig x = true) (hp0 : p.data.toList ≠ []) (w : World) :
    Calls Tryd.prog 62 #[.string p, .string q] w fun e w' => e = .returned (.int .i64 (tokC (tokOf p.data.toList) (tokOf q.data.toList))) ∧ ∃ n, w' = w.drewN n := by
  obtain ⟨q0, qe⟩ := isP_byte hq
  obtain ⟨p0, pe⟩ := isP_num hp hp0
  have g2 : inB 48 57 (q[0]'q0) = false := by rw [qe, ← dig_in]; exact hc
  have g1 : inB 48 57 (p[0]'p0) = true := by rw [← dig_in]; exact pe
  have H1 := Lib.hid (fun W => rdigit_is (p[0]'p0) W true g1)
  have H2 := Lib.hid (fun W => rdigit_is (q[0]'q0) W false g2)
  have HR := Lib.hid (show tokC (tokOf p.data.toList) (tokOf q.data.toList) = Lib.compareBytes (⟨#[48]⟩ : ByteArray).data.toList q.data.toList by rw [z48, hq]; exact (cmp_bn hc hp hp0).2)
  obtain ⟨r, hr⟩ : ∃ r, tokC (tokOf p.data.toList) (tokOf q.data.toList) = r := ⟨_, rfl⟩
  rw [hr] at HR ⊢
  clear hp hq hp0 pe qe hc g1 g2 hr
  go_enter Tryd.func62, Tryd.ntmps62
  go_wp2_with fail
  go_quiet ((first | (go_at_call 38; with_reducible exact quietS (H1.out _)) | (go_at_call 38; with_reducible exact quietS (H2.out _))))
  go_wp2_with fail
  refine (rcompare_any ⟨#[48]⟩ q _).mono ?_
  rintro e w1 ⟨rfl, rfl⟩
  rw [← HR.out]
  go_wp2
  go_ret
  exact ⟨rfl, _, rfl⟩
end Go.Proofs.YtcfhmbbkkadnfaaDoor
