/- The reference's Natural; the law IdentNatural: its walk. -/
import Derived.Test.YtcfhmbbkkadnfaaDoorRPcn
set_option linter.unusedSimpArgs false
set_option linter.unusedVariables false
namespace Go.Proofs.YtcfhmbbkkadnfaaDoor
open Go.RowKit

theorem quietD {P : Program} {f : FuncId} {args : Array Value} {w : World} {n : Nat} {v : Value} (h : Calls P f args (w.drewN n) fun e w' => e = .returned v ∧ ∃ m, w' = (w.drewN n).drewN m) : Calls P f args (w.drewN n) fun e w'' => e = .returned v ∧ ∃ m, w'' = w.drewN m :=
  h.mono fun _ _ ⟨he, m, hm⟩ => ⟨he, n + m, by rw [hm, World.drewN_drewN]⟩
theorem ext_head (a : ByteArray) (i : Nat) : (a.extract i (i + plen (a.data.toList.drop i))).data.toList = headP (a.data.toList.drop i) := by
  rw [ext_list]
  unfold headP
  congr 1
  omega
theorem drop_rest (a : ByteArray) (i : Nat) : a.data.toList.drop (i + plen (a.data.toList.drop i)) = restOf (a.data.toList.drop i) := by
  rw [← plen_drop, List.drop_drop]
theorem drop_ne {a : ByteArray} {i : Nat} (h : i < a.size) : a.data.toList.drop i ≠ [] := by
  intro e
  have := congrArg List.length e
  rw [List.length_drop, list_size] at this
  simp at this
  omega
theorem drop_nil {a : ByteArray} {i : Nat} (h : a.size ≤ i) : a.data.toList.drop i = [] := List.drop_of_length_le (by rw [list_size]; exact h)
theorem lex_one {x : List UInt8} (h : x ≠ []) : lexC tokC (toks x) (toks []) = 1 := by
  rw [toks_cons h, toks_nil]; rfl
theorem lex_mone {x : List UInt8} (h : x ≠ []) : lexC tokC (toks []) (toks x) = -1 := by
  rw [toks_cons h, toks_nil]; rfl
/-- one step of the comparison -/
theorem rstep (a b : ByteArray) (i k : Nat) (hi : i < a.size) (hk : k < b.size) (ha : a.size ≤ 4611686018427387904) (hb : b.size ≤ 4611686018427387904) :
    ∃ X Y : Nat, i < X ∧ X ≤ a.size ∧ k < Y ∧ Y ≤ b.size ∧ i + plen (a.data.toList.drop i) = X ∧ k + plen (b.data.toList.drop k) = Y ∧
      (∀ W, Calls Tryd.prog 62 #[.string (a.extract i X), .string (b.extract k Y)] W fun e w' => e = .returned (.int .i64 (tokC (tokOf (a.data.toList.drop i)) (tokOf (b.data.toList.drop k)))) ∧ ∃ n, w' = W.drewN n) ∧
      (tokC (tokOf (a.data.toList.drop i)) (tokOf (b.data.toList.drop k)) = 0 → lexC tokC (toks (a.data.toList.drop i)) (toks (b.data.toList.drop k)) = lexC tokC (toks (a.data.toList.drop X)) (toks (b.data.toList.drop Y))) := by
  have p1 := plen_pos (drop_ne hi)
  have p2 := plen_pos (drop_ne hk)
  rw [List.length_drop, list_size] at p1 p2
  refine ⟨_, _, by omega, by omega, by omega, by omega, rfl, rfl, fun W => ?_, fun h => ?_⟩
  · have e1 := ext_head a i
    have e2 := ext_head b k
    have s1 : (a.extract i (i + plen (a.data.toList.drop i))).size ≤ 4611686018427387904 := by
      rw [← list_size, e1]; unfold headP; rw [List.length_take]; omega
    have s2 : (b.extract k (k + plen (b.data.toList.drop k))).size ≤ 4611686018427387904 := by
      rw [← list_size, e2]; unfold headP; rw [List.length_take]; omega
    have := rpieces_any _ _ s1 s2 (by rw [e1]; exact headP_is (drop_ne hi)) (by rw [e2]; exact headP_is (drop_ne hk)) W
    rw [e1, e2, headP_tok, headP_tok] at this
    exact this
  · have := lex_next h (fun e => drop_ne hi (kind_nil.1 e))
    rw [this.1, drop_rest, drop_rest]

set_option maxHeartbeats 1000000 in
set_option maxRecDepth 100000 in
theorem rnatural_any (a b : ByteArray) (ha : a.size ≤ 4611686018427387904) (hb : b.size ≤ 4611686018427387904) (w : World) :
    Calls Tryd.prog 37 #[.string a, .string b] w fun e w' => e = .returned (.int .i64 (natC a.data.toList b.data.toList)) ∧ ∃ n, w' = w.drewN n := by
  have HN := Lib.hid (show natC a.data.toList b.data.toList = if lexC tokC (toks a.data.toList) (toks b.data.toList) = 0 then Lib.compareBytes a.data.toList b.data.toList else lexC tokC (toks a.data.toList) (toks b.data.toList) from rfl)
  obtain ⟨r, hr⟩ : ∃ r, natC a.data.toList b.data.toList = r := ⟨_, rfl⟩
  obtain ⟨x, hx⟩ : ∃ x, lexC tokC (toks a.data.toList) (toks b.data.toList) = x := ⟨_, rfl⟩
  rw [hr, hx] at HN
  rw [hr]
  have HX := Lib.hid hx
  clear hr hx
  go_enter Tryd.func37, Tryd.ntmps37
  go_wp2_with fail
  go_loopw [5, 6] (fun s5 s6 wr => ∃ (i k n : Nat), i ≤ a.size ∧ k ≤ b.size ∧ s5 = .int .i64 (i : Int) ∧ s6 = .int .i64 (k : Int) ∧ w.drewN n = wr ∧ Hid (lexC tokC (toks (a.data.toList.drop i)) (toks (b.data.toList.drop k)) = x)) (fun s5 _ _ => (a.size - (intOf s5)).toNat)
  case atStart => exact ⟨0, 0, 0, Nat.zero_le _, Nat.zero_le _, rfl, rfl, rfl, HX⟩
  case round =>
    clear HX
    obtain ⟨i, k, n, hi, hk, rfl, rfl, rfl, HI⟩ := hrel
    by_cases h1 : i < a.size
    · have l1 : (i : Int) < (a.size : Int) := by omega
      have l1b : decide (i < a.size) = true := by simpa using h1
      by_cases h2 : k < b.size
      · have l2 : (k : Int) < (b.size : Int) := by omega
        have l2b : decide (k < b.size) = true := by simpa using h2
        obtain ⟨X, Y, x1, x2, y1, y2, eX, eY, hcall, hnext⟩ := rstep a b i k h1 h2 ha hb
        have HC := Lib.hid hcall
        have HNX := Lib.hid hnext
        have HPA := Lib.hid (fun W => rpiece_any a i h1 ha W)
        have HPB := Lib.hid (fun W => rpiece_any b k h2 hb W)
        rw [eX] at HPA
        rw [eY] at HPB
        have HFI := Lib.hid (@lex_first (a.data.toList.drop i) (b.data.toList.drop k))
        rw [HI.out] at HNX HFI
        obtain ⟨c, hc⟩ : ∃ c, tokC (tokOf (a.data.toList.drop i)) (tokOf (b.data.toList.drop k)) = c := ⟨_, rfl⟩
        rw [hc] at HC HNX HFI
        clear hcall hnext eX eY hc HI
        generalize hwn : w.drewN n = wn
        have HWN := Lib.hid hwn
        clear hwn
        have m1 : (i : Int) ≤ (X : Int) := by omega
        have m2 : (X : Int) ≤ (a.size : Int) := by omega
        have m3 : (k : Int) ≤ (Y : Int) := by omega
        have m4 : (Y : Int) ≤ (b.size : Int) := by omega
        go_wp2_with fail
        refine (HPA.out _).mono ?_
        rintro e w1 ⟨rfl, rfl⟩
        go_wp2_with fail
        refine (HPB.out _).mono ?_
        rintro e w1 ⟨rfl, rfl⟩
        go_wp2_with fail
        go_quiet ((first | (go_at_call 62; exact quietD (HC.out _))))
        by_cases h0 : c = 0
        · have k0 : (c != 0) = false := by rw [h0]; rfl
          have HJ := Lib.hid (HNX.out h0)
          clear h0 HNX HFI HC HPA HPB
          go_wp2_with fail
          go_roundw
          case rel => exact ⟨X, Y, n + nq, x2, y2, rfl, rfl, by rw [← HWN.out, World.drewN_drewN], Lib.hid HJ.out.symm⟩
          case measure => simp [intOf]; omega
        · have k0 : (c != 0) = true := by simpa using h0
          have HJ := Lib.hid (show r = c by
            have := HFI.out h0
            rw [HN.out, this, if_neg h0])
          clear h0 HNX HFI HC HPA HPB HN
          go_wp2
          go_ret
          exact ⟨by rw [HJ.out]; rfl, n + nq, by rw [← HWN.out, World.drewN_drewN]⟩
      · have l2 : ¬ (k : Int) < (b.size : Int) := by omega
        have l2b : decide (k < b.size) = false := by simpa using h2
        have HJ := Lib.hid (show r = 1 by
          have e := HI.out
          rw [drop_nil (a := b) (by omega), lex_one (drop_ne h1)] at e
          rw [HN.out, ← e]; rfl)
        clear HN HI
        go_wp2
        go_ret
        exact ⟨by rw [HJ.out]; rfl, n, rfl⟩
    · have l1 : ¬ (i : Int) < (a.size : Int) := by omega
      have l1b : decide (i < a.size) = false := by simpa using h1
      by_cases h2 : k < b.size
      · have l2 : (k : Int) < (b.size : Int) := by omega
        have l2b : decide (k < b.size) = true := by simpa using h2
        have HJ := Lib.hid (show r = -1 by
          have e := HI.out
          rw [drop_nil (a := a) (by omega), lex_mone (drop_ne h2)] at e
          rw [HN.out, ← e]; rfl)
        clear HN HI
        go_wp2
        go_ret
        exact ⟨by rw [HJ.out]; rfl, n, rfl⟩
      · have l2 : ¬ (k : Int) < (b.size : Int) := by omega
        have l2b : decide (k < b.size) = false := by simpa using h2
        have HJ := Lib.hid (show r = Lib.compareBytes a.data.toList b.data.toList by
          have e := HI.out
          rw [drop_nil (a := a) (by omega), drop_nil (a := b) (by omega)] at e
          rw [HN.out, ← e]; rfl)
        clear HN HI
        go_wp2_with fail
        refine (rcompare_any a b _).mono ?_
        rintro e w1 ⟨rfl, rfl⟩
        go_wp2
        go_ret
        exact ⟨by rw [HJ.out]; rfl, n, rfl⟩
end Go.Proofs.YtcfhmbbkkadnfaaDoor
