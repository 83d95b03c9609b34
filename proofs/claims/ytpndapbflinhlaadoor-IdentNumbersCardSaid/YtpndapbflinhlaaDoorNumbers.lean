/- The law IdentNumbers: its walk. -/
import Derived.Test.YtpndapbflinhlaaDoorDig
set_option linter.unusedSimpArgs false
set_option linter.unusedVariables false
namespace Go.Proofs.YtpndapbflinhlaaDoor
open Go.RowKit

theorem end_nodig {p : ByteArray} (h : p.size = 0 ∨ ∃ h : p.size - 1 < p.size, inB 48 57 (p[p.size - 1]'h) = false) : EndNoDig p.data.toList := by
  intro t c e
  have hl : p.size = t.length + 1 := by rw [← list_size, e]; simp
  rcases h with h | ⟨h, hd⟩
  · omega
  · have hg := list_get p (p.size - 1) h
    rw [e, List.getElem?_append_right (by omega), show p.size - 1 - t.length = 0 by omega] at hg
    simp at hg
    rw [dig_in, hg]
    exact hd
theorem nodig {p : ByteArray} (h : p.size = 0 ∨ ∃ h : 0 < p.size, inB 48 57 (p[0]'h) = false) : NoDig p.data.toList := by
  intro c t e
  rcases h with h | ⟨h, hd⟩
  · rw [size0 h] at e; contradiction
  · have hg := list_get p 0 h
    rw [e] at hg
    simp at hg
    rw [dig_in, hg]
    exact hd
theorem cat_data (x y : ByteArray) : (x ++ y).data.toList = x.data.toList ++ y.data.toList := by simp
theorem cat_size (x y : ByteArray) : (x ++ y).size = x.size + y.size := ByteArray.size_append
/-- what the law asks of the comparison -/
theorem numbers_fact {p a b : ByteArray} {m n : Nat} (hp : EndNoDig p.data.toList) (ha : NoDig a.data.toList) (hb : NoDig b.data.toList) (hm : m ≤ 1000000000) (hn : n ≤ 1000000000) (hne : m ≠ n) :
    decide (natC ((p ++ bs (decF 9 m)) ++ a).data.toList ((p ++ bs (decF 9 n)) ++ b).data.toList < 0) = decide ((m : Int) < (n : Int)) := by
  rw [cat_data, cat_data, cat_data, cat_data, bs_data, bs_data, List.append_assoc, List.append_assoc]
  have := numbers_nat 9 m n (by omega) (by omega) hp ha hb hne
  rw [decide_eq_decide, this]
  omega

set_option maxHeartbeats 4000000 in
set_option maxRecDepth 100000 in
theorem numbers_out (p a b : ByteArray) (m n : Int) (hp : p.size ≤ 9223372036854775807) (ha : a.size ≤ 9223372036854775807) (hb : b.size ≤ 9223372036854775807) (lm : -9223372036854775808 ≤ m) (um : m ≤ 9223372036854775807) (ln : -9223372036854775808 ≤ n) (un : n ≤ 9223372036854775807)
    (h : p.size > 200 ∨ a.size > 200 ∨ b.size > 200 ∨ m < 0 ∨ n < 0 ∨ m > 1000000000 ∨ n > 1000000000 ∨ m = n) (w : World) :
    Calls Tryd.prog 8 #[.string p, .int .i64 m, .int .i64 n, .string a, .string b] w fun e w' => e = .returned (.bool true) ∧ Below w.heap.size w w' := by
  by_cases h0 : p.size > 200
  · have k0 : decide ((p.size : Int) > 200) = true := decide_eq_true (by omega)
    go_enter Tryd.func8, Tryd.ntmps8
    go_wp2_with fail
    refine (awake_any _).mono ?_
    rintro e w1 ⟨rfl, hbl⟩
    have HB := Lib.hid hbl
    clear hbl
    go_wp2
    go_ret
    exact ⟨rfl, HB.out⟩
  · have k0 : decide ((p.size : Int) > 200) = false := decide_eq_false (by omega)
    by_cases h1 : a.size > 200
    · have k1 : decide ((a.size : Int) > 200) = true := decide_eq_true (by omega)
      go_enter Tryd.func8, Tryd.ntmps8
      go_wp2_with fail
      refine (awake_any _).mono ?_
      rintro e w1 ⟨rfl, hbl⟩
      have HB := Lib.hid hbl
      clear hbl
      go_wp2
      go_ret
      exact ⟨rfl, HB.out⟩
    · have k1 : decide ((a.size : Int) > 200) = false := decide_eq_false (by omega)
      by_cases h2 : b.size > 200
      · have k2 : decide ((b.size : Int) > 200) = true := decide_eq_true (by omega)
        go_enter Tryd.func8, Tryd.ntmps8
        go_wp2_with fail
        refine (awake_any _).mono ?_
        rintro e w1 ⟨rfl, hbl⟩
        have HB := Lib.hid hbl
        clear hbl
        go_wp2
        go_ret
        exact ⟨rfl, HB.out⟩
      · have k2 : decide ((b.size : Int) > 200) = false := decide_eq_false (by omega)
        by_cases h3 : m < 0
        · have k3 : decide (m < 0) = true := decide_eq_true (by omega)
          go_enter Tryd.func8, Tryd.ntmps8
          go_wp2_with fail
          refine (awake_any _).mono ?_
          rintro e w1 ⟨rfl, hbl⟩
          have HB := Lib.hid hbl
          clear hbl
          go_wp2
          go_ret
          exact ⟨rfl, HB.out⟩
        · have k3 : decide (m < 0) = false := decide_eq_false (by omega)
          by_cases h4 : n < 0
          · have k4 : decide (n < 0) = true := decide_eq_true (by omega)
            go_enter Tryd.func8, Tryd.ntmps8
            go_wp2_with fail
            refine (awake_any _).mono ?_
            rintro e w1 ⟨rfl, hbl⟩
            have HB := Lib.hid hbl
            clear hbl
            go_wp2
            go_ret
            exact ⟨rfl, HB.out⟩
          · have k4 : decide (n < 0) = false := decide_eq_false (by omega)
            by_cases h5 : m > 1000000000
            · have k5 : decide (m > 1000000000) = true := decide_eq_true (by omega)
              go_enter Tryd.func8, Tryd.ntmps8
              go_wp2_with fail
              refine (awake_any _).mono ?_
              rintro e w1 ⟨rfl, hbl⟩
              have HB := Lib.hid hbl
              clear hbl
              go_wp2
              go_ret
              exact ⟨rfl, HB.out⟩
            · have k5 : decide (m > 1000000000) = false := decide_eq_false (by omega)
              by_cases h6 : n > 1000000000
              · have k6 : decide (n > 1000000000) = true := decide_eq_true (by omega)
                go_enter Tryd.func8, Tryd.ntmps8
                go_wp2_with fail
                refine (awake_any _).mono ?_
                rintro e w1 ⟨rfl, hbl⟩
                have HB := Lib.hid hbl
                clear hbl
                go_wp2
                go_ret
                exact ⟨rfl, HB.out⟩
              · have k6 : decide (n > 1000000000) = false := decide_eq_false (by omega)
                by_cases h7 : m = n
                · have k7 : (m == n) = true := beq_iff_eq.2 (by omega)
                  go_enter Tryd.func8, Tryd.ntmps8
                  go_wp2_with fail
                  refine (awake_any _).mono ?_
                  rintro e w1 ⟨rfl, hbl⟩
                  have HB := Lib.hid hbl
                  clear hbl
                  go_wp2
                  go_ret
                  exact ⟨rfl, HB.out⟩
                · have k7 : (m == n) = false := beq_eq_false_iff_ne.2 (by omega)
                  exact absurd h (by omega)

set_option maxHeartbeats 2000000 in
set_option maxRecDepth 100000 in
theorem numbers_eee (p a b : ByteArray) (m n : Nat) (hp : p.size ≤ 200) (ha : a.size ≤ 200) (hb : b.size ≤ 200) (hm : m ≤ 1000000000) (hn : n ≤ 1000000000) (hne : m ≠ n) (x0 : p.size = 0) (x1 : a.size = 0) (x2 : b.size = 0) (w : World) :
    Calls Tryd.prog 8 #[.string p, .int .i64 (m : Int), .int .i64 (n : Int), .string a, .string b] w fun e w' => e = .returned (.bool true) ∧ Below w.heap.size w w' := by
  have k0 : decide ((p.size : Int) > 200) = false := decide_eq_false (by omega)
  have k1 : decide ((a.size : Int) > 200) = false := decide_eq_false (by omega)
  have k2 : decide ((b.size : Int) > 200) = false := decide_eq_false (by omega)
  have k3 : decide ((m : Int) < 0) = false := decide_eq_false (by omega)
  have k4 : decide ((n : Int) < 0) = false := decide_eq_false (by omega)
  have k5 : decide ((m : Int) > 1000000000) = false := decide_eq_false (by omega)
  have k6 : decide ((n : Int) > 1000000000) = false := decide_eq_false (by omega)
  have k7 : ((m : Int) == (n : Int)) = false := beq_eq_false_iff_ne.2 (by omega)
  have g0 : decide ((p.size : Int) > 0) = false := decide_eq_false (by omega)
  have f0 : decide (0 < p.size) = false := decide_eq_false (by omega)
  have g1 : decide ((a.size : Int) > 0) = false := decide_eq_false (by omega)
  have f1 : decide (0 < a.size) = false := decide_eq_false (by omega)
  have g2 : decide ((b.size : Int) > 0) = false := decide_eq_false (by omega)
  have f2 : decide (0 < b.size) = false := decide_eq_false (by omega)
  have HF := Lib.hid (numbers_fact (end_nodig (Or.inl x0)) (nodig (Or.inl x1)) (nodig (Or.inl x2)) hm hn hne)
  clear x0 x1 x2
  go_enter Tryd.func8, Tryd.ntmps8
  go_wp2_with fail
  refine (awake_any _).mono ?_
  rintro e w1 ⟨rfl, hbl⟩
  have HB := Lib.hid hbl
  clear hbl
  go_wp2_with fail
  refine (digits_any 9 (by omega) m _ (by omega) hm).mono ?_
  rintro e w3 ⟨rfl, hbl⟩
  have HB3 := Lib.hid (HB.out.trans (hbl.mono HB.out.size))
  clear hbl HB
  obtain ⟨dm, hdm⟩ : ∃ dm, bs (decF 9 m) = dm := ⟨_, rfl⟩
  have zm : dm.size ≤ 10 := by rw [← hdm, bs_size]; exact decF_len 9 m
  rw [hdm] at HF ⊢
  clear hdm
  go_wp2_with fail
  refine (digits_any 9 (by omega) n _ (by omega) hn).mono ?_
  rintro e w4 ⟨rfl, hbl⟩
  have HB4 := Lib.hid (HB3.out.trans (hbl.mono HB3.out.size))
  clear hbl HB3
  obtain ⟨dn, hdn⟩ : ∃ dn, bs (decF 9 n) = dn := ⟨_, rfl⟩
  have zn : dn.size ≤ 10 := by rw [← hdn, bs_size]; exact decF_len 9 n
  rw [hdn] at HF ⊢
  clear hdn
  have z1 : (p ++ dm).size ≤ 300 := by rw [cat_size]; omega
  have z2 : (p ++ dn).size ≤ 300 := by rw [cat_size]; omega
  have z3 : ((p ++ dm) ++ a).size ≤ 600 := by rw [cat_size]; omega
  have z4 : ((p ++ dn) ++ b).size ≤ 600 := by rw [cat_size]; omega
  go_wp2_with fail
  refine (natural_any ((p ++ dm) ++ a) ((p ++ dn) ++ b) (by omega) (by omega) _).mono ?_
  rintro e w5 ⟨rfl, hbl⟩
  have HB5 := Lib.hid (HB4.out.trans (hbl.mono HB4.out.size))
  have hf := HF.out
  generalize natC ((p ++ dm) ++ a).data.toList ((p ++ dn) ++ b).data.toList = v at *
  clear hbl HB4 z1 z2 z3 z4
  go_wp2
  go_ret
  exact ⟨rfl, HB5.out⟩

set_option maxHeartbeats 2000000 in
set_option maxRecDepth 100000 in
theorem numbers_een (p a b : ByteArray) (m n : Nat) (hp : p.size ≤ 200) (ha : a.size ≤ 200) (hb : b.size ≤ 200) (hm : m ≤ 1000000000) (hn : n ≤ 1000000000) (hne : m ≠ n) (x0 : p.size = 0) (x1 : a.size = 0) (y2 : 0 < b.size) (x2 : inB 48 57 (b[0]'(by omega)) = false) (w : World) :
    Calls Tryd.prog 8 #[.string p, .int .i64 (m : Int), .int .i64 (n : Int), .string a, .string b] w fun e w' => e = .returned (.bool true) ∧ Below w.heap.size w w' := by
  have k0 : decide ((p.size : Int) > 200) = false := decide_eq_false (by omega)
  have k1 : decide ((a.size : Int) > 200) = false := decide_eq_false (by omega)
  have k2 : decide ((b.size : Int) > 200) = false := decide_eq_false (by omega)
  have k3 : decide ((m : Int) < 0) = false := decide_eq_false (by omega)
  have k4 : decide ((n : Int) < 0) = false := decide_eq_false (by omega)
  have k5 : decide ((m : Int) > 1000000000) = false := decide_eq_false (by omega)
  have k6 : decide ((n : Int) > 1000000000) = false := decide_eq_false (by omega)
  have k7 : ((m : Int) == (n : Int)) = false := beq_eq_false_iff_ne.2 (by omega)
  have g0 : decide ((p.size : Int) > 0) = false := decide_eq_false (by omega)
  have f0 : decide (0 < p.size) = false := decide_eq_false (by omega)
  have g1 : decide ((a.size : Int) > 0) = false := decide_eq_false (by omega)
  have f1 : decide (0 < a.size) = false := decide_eq_false (by omega)
  have g2 : decide ((b.size : Int) > 0) = true := decide_eq_true (by omega)
  have f2 : decide (0 < b.size) = true := decide_eq_true (by omega)
  have l2 : 0 < b.size := by omega
  have D2 := Lib.hid x2
  have HF := Lib.hid (numbers_fact (end_nodig (Or.inl x0)) (nodig (Or.inl x1)) (nodig (Or.inr ⟨l2, x2⟩)) hm hn hne)
  clear x0 x1 x2
  go_enter Tryd.func8, Tryd.ntmps8
  go_wp2_with fail
  refine (awake_any _).mono ?_
  rintro e w1 ⟨rfl, hbl⟩
  have HB := Lib.hid hbl
  clear hbl
  go_wp2_with fail
  refine (rdigit_is _ _ false D2.out).mono ?_
  rintro e w2 ⟨rfl, rfl⟩
  go_wp2_with fail
  refine (digits_any 9 (by omega) m _ (by omega) hm).mono ?_
  rintro e w3 ⟨rfl, hbl⟩
  have HB3 := Lib.hid (HB.out.trans (hbl.mono HB.out.size))
  clear hbl HB
  obtain ⟨dm, hdm⟩ : ∃ dm, bs (decF 9 m) = dm := ⟨_, rfl⟩
  have zm : dm.size ≤ 10 := by rw [← hdm, bs_size]; exact decF_len 9 m
  rw [hdm] at HF ⊢
  clear hdm
  go_wp2_with fail
  refine (digits_any 9 (by omega) n _ (by omega) hn).mono ?_
  rintro e w4 ⟨rfl, hbl⟩
  have HB4 := Lib.hid (HB3.out.trans (hbl.mono HB3.out.size))
  clear hbl HB3
  obtain ⟨dn, hdn⟩ : ∃ dn, bs (decF 9 n) = dn := ⟨_, rfl⟩
  have zn : dn.size ≤ 10 := by rw [← hdn, bs_size]; exact decF_len 9 n
  rw [hdn] at HF ⊢
  clear hdn
  have z1 : (p ++ dm).size ≤ 300 := by rw [cat_size]; omega
  have z2 : (p ++ dn).size ≤ 300 := by rw [cat_size]; omega
  have z3 : ((p ++ dm) ++ a).size ≤ 600 := by rw [cat_size]; omega
  have z4 : ((p ++ dn) ++ b).size ≤ 600 := by rw [cat_size]; omega
  go_wp2_with fail
  refine (natural_any ((p ++ dm) ++ a) ((p ++ dn) ++ b) (by omega) (by omega) _).mono ?_
  rintro e w5 ⟨rfl, hbl⟩
  have HB5 := Lib.hid (HB4.out.trans (hbl.mono HB4.out.size))
  have hf := HF.out
  generalize natC ((p ++ dm) ++ a).data.toList ((p ++ dn) ++ b).data.toList = v at *
  clear hbl HB4 z1 z2 z3 z4
  go_wp2
  go_ret
  exact ⟨rfl, HB5.out⟩

set_option maxHeartbeats 2000000 in
set_option maxRecDepth 100000 in
theorem numbers_eed (p a b : ByteArray) (m n : Nat) (hp : p.size ≤ 200) (ha : a.size ≤ 200) (hb : b.size ≤ 200) (hm : m ≤ 1000000000) (hn : n ≤ 1000000000) (hne : m ≠ n) (x0 : p.size = 0) (x1 : a.size = 0) (y2 : 0 < b.size) (x2 : inB 48 57 (b[0]'(by omega)) = true) (w : World) :
    Calls Tryd.prog 8 #[.string p, .int .i64 (m : Int), .int .i64 (n : Int), .string a, .string b] w fun e w' => e = .returned (.bool true) ∧ Below w.heap.size w w' := by
  have k0 : decide ((p.size : Int) > 200) = false := decide_eq_false (by omega)
  have k1 : decide ((a.size : Int) > 200) = false := decide_eq_false (by omega)
  have k2 : decide ((b.size : Int) > 200) = false := decide_eq_false (by omega)
  have k3 : decide ((m : Int) < 0) = false := decide_eq_false (by omega)
  have k4 : decide ((n : Int) < 0) = false := decide_eq_false (by omega)
  have k5 : decide ((m : Int) > 1000000000) = false := decide_eq_false (by omega)
  have k6 : decide ((n : Int) > 1000000000) = false := decide_eq_false (by omega)
  have k7 : ((m : Int) == (n : Int)) = false := beq_eq_false_iff_ne.2 (by omega)
  have g0 : decide ((p.size : Int) > 0) = false := decide_eq_false (by omega)
  have f0 : decide (0 < p.size) = false := decide_eq_false (by omega)
  have g1 : decide ((a.size : Int) > 0) = false := decide_eq_false (by omega)
  have f1 : decide (0 < a.size) = false := decide_eq_false (by omega)
  have g2 : decide ((b.size : Int) > 0) = true := decide_eq_true (by omega)
  have f2 : decide (0 < b.size) = true := decide_eq_true (by omega)
  have l2 : 0 < b.size := by omega
  have D2 := Lib.hid x2
  clear x0 x1 x2
  go_enter Tryd.func8, Tryd.ntmps8
  go_wp2_with fail
  refine (awake_any _).mono ?_
  rintro e w1 ⟨rfl, hbl⟩
  have HB := Lib.hid hbl
  clear hbl
  go_wp2_with fail
  refine (rdigit_is _ _ true D2.out).mono ?_
  rintro e w2 ⟨rfl, rfl⟩
  go_wp2
  go_ret
  exact ⟨rfl, HB.out⟩

set_option maxHeartbeats 2000000 in
set_option maxRecDepth 100000 in
theorem numbers_ene (p a b : ByteArray) (m n : Nat) (hp : p.size ≤ 200) (ha : a.size ≤ 200) (hb : b.size ≤ 200) (hm : m ≤ 1000000000) (hn : n ≤ 1000000000) (hne : m ≠ n) (x0 : p.size = 0) (y1 : 0 < a.size) (x1 : inB 48 57 (a[0]'(by omega)) = false) (x2 : b.size = 0) (w : World) :
    Calls Tryd.prog 8 #[.string p, .int .i64 (m : Int), .int .i64 (n : Int), .string a, .string b] w fun e w' => e = .returned (.bool true) ∧ Below w.heap.size w w' := by
  have k0 : decide ((p.size : Int) > 200) = false := decide_eq_false (by omega)
  have k1 : decide ((a.size : Int) > 200) = false := decide_eq_false (by omega)
  have k2 : decide ((b.size : Int) > 200) = false := decide_eq_false (by omega)
  have k3 : decide ((m : Int) < 0) = false := decide_eq_false (by omega)
  have k4 : decide ((n : Int) < 0) = false := decide_eq_false (by omega)
  have k5 : decide ((m : Int) > 1000000000) = false := decide_eq_false (by omega)
  have k6 : decide ((n : Int) > 1000000000) = false := decide_eq_false (by omega)
  have k7 : ((m : Int) == (n : Int)) = false := beq_eq_false_iff_ne.2 (by omega)
  have g0 : decide ((p.size : Int) > 0) = false := decide_eq_false (by omega)
  have f0 : decide (0 < p.size) = false := decide_eq_false (by omega)
  have g1 : decide ((a.size : Int) > 0) = true := decide_eq_true (by omega)
  have f1 : decide (0 < a.size) = true := decide_eq_true (by omega)
  have l1 : 0 < a.size := by omega
  have D1 := Lib.hid x1
  have g2 : decide ((b.size : Int) > 0) = false := decide_eq_false (by omega)
  have f2 : decide (0 < b.size) = false := decide_eq_false (by omega)
  have HF := Lib.hid (numbers_fact (end_nodig (Or.inl x0)) (nodig (Or.inr ⟨l1, x1⟩)) (nodig (Or.inl x2)) hm hn hne)
  clear x0 x1 x2
  go_enter Tryd.func8, Tryd.ntmps8
  go_wp2_with fail
  refine (awake_any _).mono ?_
  rintro e w1 ⟨rfl, hbl⟩
  have HB := Lib.hid hbl
  clear hbl
  go_wp2_with fail
  refine (rdigit_is _ _ false D1.out).mono ?_
  rintro e w2 ⟨rfl, rfl⟩
  go_wp2_with fail
  refine (digits_any 9 (by omega) m _ (by omega) hm).mono ?_
  rintro e w3 ⟨rfl, hbl⟩
  have HB3 := Lib.hid (HB.out.trans (hbl.mono HB.out.size))
  clear hbl HB
  obtain ⟨dm, hdm⟩ : ∃ dm, bs (decF 9 m) = dm := ⟨_, rfl⟩
  have zm : dm.size ≤ 10 := by rw [← hdm, bs_size]; exact decF_len 9 m
  rw [hdm] at HF ⊢
  clear hdm
  go_wp2_with fail
  refine (digits_any 9 (by omega) n _ (by omega) hn).mono ?_
  rintro e w4 ⟨rfl, hbl⟩
  have HB4 := Lib.hid (HB3.out.trans (hbl.mono HB3.out.size))
  clear hbl HB3
  obtain ⟨dn, hdn⟩ : ∃ dn, bs (decF 9 n) = dn := ⟨_, rfl⟩
  have zn : dn.size ≤ 10 := by rw [← hdn, bs_size]; exact decF_len 9 n
  rw [hdn] at HF ⊢
  clear hdn
  have z1 : (p ++ dm).size ≤ 300 := by rw [cat_size]; omega
  have z2 : (p ++ dn).size ≤ 300 := by rw [cat_size]; omega
  have z3 : ((p ++ dm) ++ a).size ≤ 600 := by rw [cat_size]; omega
  have z4 : ((p ++ dn) ++ b).size ≤ 600 := by rw [cat_size]; omega
  go_wp2_with fail
  refine (natural_any ((p ++ dm) ++ a) ((p ++ dn) ++ b) (by omega) (by omega) _).mono ?_
  rintro e w5 ⟨rfl, hbl⟩
  have HB5 := Lib.hid (HB4.out.trans (hbl.mono HB4.out.size))
  have hf := HF.out
  generalize natC ((p ++ dm) ++ a).data.toList ((p ++ dn) ++ b).data.toList = v at *
  clear hbl HB4 z1 z2 z3 z4
  go_wp2
  go_ret
  exact ⟨rfl, HB5.out⟩

set_option maxHeartbeats 2000000 in
set_option maxRecDepth 100000 in
theorem numbers_enn (p a b : ByteArray) (m n : Nat) (hp : p.size ≤ 200) (ha : a.size ≤ 200) (hb : b.size ≤ 200) (hm : m ≤ 1000000000) (hn : n ≤ 1000000000) (hne : m ≠ n) (x0 : p.size = 0) (y1 : 0 < a.size) (x1 : inB 48 57 (a[0]'(by omega)) = false) (y2 : 0 < b.size) (x2 : inB 48 57 (b[0]'(by omega)) = false) (w : World) :
    Calls Tryd.prog 8 #[.string p, .int .i64 (m : Int), .int .i64 (n : Int), .string a, .string b] w fun e w' => e = .returned (.bool true) ∧ Below w.heap.size w w' := by
  have k0 : decide ((p.size : Int) > 200) = false := decide_eq_false (by omega)
  have k1 : decide ((a.size : Int) > 200) = false := decide_eq_false (by omega)
  have k2 : decide ((b.size : Int) > 200) = false := decide_eq_false (by omega)
  have k3 : decide ((m : Int) < 0) = false := decide_eq_false (by omega)
  have k4 : decide ((n : Int) < 0) = false := decide_eq_false (by omega)
  have k5 : decide ((m : Int) > 1000000000) = false := decide_eq_false (by omega)
  have k6 : decide ((n : Int) > 1000000000) = false := decide_eq_false (by omega)
  have k7 : ((m : Int) == (n : Int)) = false := beq_eq_false_iff_ne.2 (by omega)
  have g0 : decide ((p.size : Int) > 0) = false := decide_eq_false (by omega)
  have f0 : decide (0 < p.size) = false := decide_eq_false (by omega)
  have g1 : decide ((a.size : Int) > 0) = true := decide_eq_true (by omega)
  have f1 : decide (0 < a.size) = true := decide_eq_true (by omega)
  have l1 : 0 < a.size := by omega
  have D1 := Lib.hid x1
  have g2 : decide ((b.size : Int) > 0) = true := decide_eq_true (by omega)
  have f2 : decide (0 < b.size) = true := decide_eq_true (by omega)
  have l2 : 0 < b.size := by omega
  have D2 := Lib.hid x2
  have HF := Lib.hid (numbers_fact (end_nodig (Or.inl x0)) (nodig (Or.inr ⟨l1, x1⟩)) (nodig (Or.inr ⟨l2, x2⟩)) hm hn hne)
  clear x0 x1 x2
  go_enter Tryd.func8, Tryd.ntmps8
  go_wp2_with fail
  refine (awake_any _).mono ?_
  rintro e w1 ⟨rfl, hbl⟩
  have HB := Lib.hid hbl
  clear hbl
  go_wp2_with fail
  refine (rdigit_is _ _ false D1.out).mono ?_
  rintro e w2 ⟨rfl, rfl⟩
  go_wp2_with fail
  refine (rdigit_is _ _ false D2.out).mono ?_
  rintro e w2 ⟨rfl, rfl⟩
  go_wp2_with fail
  refine (digits_any 9 (by omega) m _ (by omega) hm).mono ?_
  rintro e w3 ⟨rfl, hbl⟩
  have HB3 := Lib.hid (HB.out.trans (hbl.mono HB.out.size))
  clear hbl HB
  obtain ⟨dm, hdm⟩ : ∃ dm, bs (decF 9 m) = dm := ⟨_, rfl⟩
  have zm : dm.size ≤ 10 := by rw [← hdm, bs_size]; exact decF_len 9 m
  rw [hdm] at HF ⊢
  clear hdm
  go_wp2_with fail
  refine (digits_any 9 (by omega) n _ (by omega) hn).mono ?_
  rintro e w4 ⟨rfl, hbl⟩
  have HB4 := Lib.hid (HB3.out.trans (hbl.mono HB3.out.size))
  clear hbl HB3
  obtain ⟨dn, hdn⟩ : ∃ dn, bs (decF 9 n) = dn := ⟨_, rfl⟩
  have zn : dn.size ≤ 10 := by rw [← hdn, bs_size]; exact decF_len 9 n
  rw [hdn] at HF ⊢
  clear hdn
  have z1 : (p ++ dm).size ≤ 300 := by rw [cat_size]; omega
  have z2 : (p ++ dn).size ≤ 300 := by rw [cat_size]; omega
  have z3 : ((p ++ dm) ++ a).size ≤ 600 := by rw [cat_size]; omega
  have z4 : ((p ++ dn) ++ b).size ≤ 600 := by rw [cat_size]; omega
  go_wp2_with fail
  refine (natural_any ((p ++ dm) ++ a) ((p ++ dn) ++ b) (by omega) (by omega) _).mono ?_
  rintro e w5 ⟨rfl, hbl⟩
  have HB5 := Lib.hid (HB4.out.trans (hbl.mono HB4.out.size))
  have hf := HF.out
  generalize natC ((p ++ dm) ++ a).data.toList ((p ++ dn) ++ b).data.toList = v at *
  clear hbl HB4 z1 z2 z3 z4
  go_wp2
  go_ret
  exact ⟨rfl, HB5.out⟩

set_option maxHeartbeats 2000000 in
set_option maxRecDepth 100000 in
theorem numbers_end (p a b : ByteArray) (m n : Nat) (hp : p.size ≤ 200) (ha : a.size ≤ 200) (hb : b.size ≤ 200) (hm : m ≤ 1000000000) (hn : n ≤ 1000000000) (hne : m ≠ n) (x0 : p.size = 0) (y1 : 0 < a.size) (x1 : inB 48 57 (a[0]'(by omega)) = false) (y2 : 0 < b.size) (x2 : inB 48 57 (b[0]'(by omega)) = true) (w : World) :
    Calls Tryd.prog 8 #[.string p, .int .i64 (m : Int), .int .i64 (n : Int), .string a, .string b] w fun e w' => e = .returned (.bool true) ∧ Below w.heap.size w w' := by
  have k0 : decide ((p.size : Int) > 200) = false := decide_eq_false (by omega)
  have k1 : decide ((a.size : Int) > 200) = false := decide_eq_false (by omega)
  have k2 : decide ((b.size : Int) > 200) = false := decide_eq_false (by omega)
  have k3 : decide ((m : Int) < 0) = false := decide_eq_false (by omega)
  have k4 : decide ((n : Int) < 0) = false := decide_eq_false (by omega)
  have k5 : decide ((m : Int) > 1000000000) = false := decide_eq_false (by omega)
  have k6 : decide ((n : Int) > 1000000000) = false := decide_eq_false (by omega)
  have k7 : ((m : Int) == (n : Int)) = false := beq_eq_false_iff_ne.2 (by omega)
  have g0 : decide ((p.size : Int) > 0) = false := decide_eq_false (by omega)
  have f0 : decide (0 < p.size) = false := decide_eq_false (by omega)
  have g1 : decide ((a.size : Int) > 0) = true := decide_eq_true (by omega)
  have f1 : decide (0 < a.size) = true := decide_eq_true (by omega)
  have l1 : 0 < a.size := by omega
  have D1 := Lib.hid x1
  have g2 : decide ((b.size : Int) > 0) = true := decide_eq_true (by omega)
  have f2 : decide (0 < b.size) = true := decide_eq_true (by omega)
  have l2 : 0 < b.size := by omega
  have D2 := Lib.hid x2
  clear x0 x1 x2
  go_enter Tryd.func8, Tryd.ntmps8
  go_wp2_with fail
  refine (awake_any _).mono ?_
  rintro e w1 ⟨rfl, hbl⟩
  have HB := Lib.hid hbl
  clear hbl
  go_wp2_with fail
  refine (rdigit_is _ _ false D1.out).mono ?_
  rintro e w2 ⟨rfl, rfl⟩
  go_wp2_with fail
  refine (rdigit_is _ _ true D2.out).mono ?_
  rintro e w2 ⟨rfl, rfl⟩
  go_wp2
  go_ret
  exact ⟨rfl, HB.out⟩

set_option maxHeartbeats 2000000 in
set_option maxRecDepth 100000 in
theorem numbers_ede (p a b : ByteArray) (m n : Nat) (hp : p.size ≤ 200) (ha : a.size ≤ 200) (hb : b.size ≤ 200) (hm : m ≤ 1000000000) (hn : n ≤ 1000000000) (hne : m ≠ n) (x0 : p.size = 0) (y1 : 0 < a.size) (x1 : inB 48 57 (a[0]'(by omega)) = true) (w : World) :
    Calls Tryd.prog 8 #[.string p, .int .i64 (m : Int), .int .i64 (n : Int), .string a, .string b] w fun e w' => e = .returned (.bool true) ∧ Below w.heap.size w w' := by
  have k0 : decide ((p.size : Int) > 200) = false := decide_eq_false (by omega)
  have k1 : decide ((a.size : Int) > 200) = false := decide_eq_false (by omega)
  have k2 : decide ((b.size : Int) > 200) = false := decide_eq_false (by omega)
  have k3 : decide ((m : Int) < 0) = false := decide_eq_false (by omega)
  have k4 : decide ((n : Int) < 0) = false := decide_eq_false (by omega)
  have k5 : decide ((m : Int) > 1000000000) = false := decide_eq_false (by omega)
  have k6 : decide ((n : Int) > 1000000000) = false := decide_eq_false (by omega)
  have k7 : ((m : Int) == (n : Int)) = false := beq_eq_false_iff_ne.2 (by omega)
  have g0 : decide ((p.size : Int) > 0) = false := decide_eq_false (by omega)
  have f0 : decide (0 < p.size) = false := decide_eq_false (by omega)
  have g1 : decide ((a.size : Int) > 0) = true := decide_eq_true (by omega)
  have f1 : decide (0 < a.size) = true := decide_eq_true (by omega)
  have l1 : 0 < a.size := by omega
  have D1 := Lib.hid x1
  clear x0 x1
  go_enter Tryd.func8, Tryd.ntmps8
  go_wp2_with fail
  refine (awake_any _).mono ?_
  rintro e w1 ⟨rfl, hbl⟩
  have HB := Lib.hid hbl
  clear hbl
  go_wp2_with fail
  refine (rdigit_is _ _ true D1.out).mono ?_
  rintro e w2 ⟨rfl, rfl⟩
  go_wp2
  go_ret
  exact ⟨rfl, HB.out⟩

set_option maxHeartbeats 2000000 in
set_option maxRecDepth 100000 in
theorem numbers_nee (p a b : ByteArray) (m n : Nat) (hp : p.size ≤ 200) (ha : a.size ≤ 200) (hb : b.size ≤ 200) (hm : m ≤ 1000000000) (hn : n ≤ 1000000000) (hne : m ≠ n) (y0 : 0 < p.size) (x0 : inB 48 57 (p[p.size - 1]'(by omega)) = false) (x1 : a.size = 0) (x2 : b.size = 0) (w : World) :
    Calls Tryd.prog 8 #[.string p, .int .i64 (m : Int), .int .i64 (n : Int), .string a, .string b] w fun e w' => e = .returned (.bool true) ∧ Below w.heap.size w w' := by
  have k0 : decide ((p.size : Int) > 200) = false := decide_eq_false (by omega)
  have k1 : decide ((a.size : Int) > 200) = false := decide_eq_false (by omega)
  have k2 : decide ((b.size : Int) > 200) = false := decide_eq_false (by omega)
  have k3 : decide ((m : Int) < 0) = false := decide_eq_false (by omega)
  have k4 : decide ((n : Int) < 0) = false := decide_eq_false (by omega)
  have k5 : decide ((m : Int) > 1000000000) = false := decide_eq_false (by omega)
  have k6 : decide ((n : Int) > 1000000000) = false := decide_eq_false (by omega)
  have k7 : ((m : Int) == (n : Int)) = false := beq_eq_false_iff_ne.2 (by omega)
  have g0 : decide ((p.size : Int) > 0) = true := decide_eq_true (by omega)
  have f0 : decide (0 < p.size) = true := decide_eq_true (by omega)
  have l0 : p.size - 1 < p.size := by omega
  have D0 := Lib.hid x0
  have g1 : decide ((a.size : Int) > 0) = false := decide_eq_false (by omega)
  have f1 : decide (0 < a.size) = false := decide_eq_false (by omega)
  have g2 : decide ((b.size : Int) > 0) = false := decide_eq_false (by omega)
  have f2 : decide (0 < b.size) = false := decide_eq_false (by omega)
  have HF := Lib.hid (numbers_fact (end_nodig (Or.inr ⟨l0, x0⟩)) (nodig (Or.inl x1)) (nodig (Or.inl x2)) hm hn hne)
  clear x0 x1 x2
  go_enter Tryd.func8, Tryd.ntmps8
  go_wp2_with fail
  refine (awake_any _).mono ?_
  rintro e w1 ⟨rfl, hbl⟩
  have HB := Lib.hid hbl
  clear hbl
  go_wp2_with fail
  refine (rdigit_is _ _ false D0.out).mono ?_
  rintro e w2 ⟨rfl, rfl⟩
  go_wp2_with fail
  refine (digits_any 9 (by omega) m _ (by omega) hm).mono ?_
  rintro e w3 ⟨rfl, hbl⟩
  have HB3 := Lib.hid (HB.out.trans (hbl.mono HB.out.size))
  clear hbl HB
  obtain ⟨dm, hdm⟩ : ∃ dm, bs (decF 9 m) = dm := ⟨_, rfl⟩
  have zm : dm.size ≤ 10 := by rw [← hdm, bs_size]; exact decF_len 9 m
  rw [hdm] at HF ⊢
  clear hdm
  go_wp2_with fail
  refine (digits_any 9 (by omega) n _ (by omega) hn).mono ?_
  rintro e w4 ⟨rfl, hbl⟩
  have HB4 := Lib.hid (HB3.out.trans (hbl.mono HB3.out.size))
  clear hbl HB3
  obtain ⟨dn, hdn⟩ : ∃ dn, bs (decF 9 n) = dn := ⟨_, rfl⟩
  have zn : dn.size ≤ 10 := by rw [← hdn, bs_size]; exact decF_len 9 n
  rw [hdn] at HF ⊢
  clear hdn
  have z1 : (p ++ dm).size ≤ 300 := by rw [cat_size]; omega
  have z2 : (p ++ dn).size ≤ 300 := by rw [cat_size]; omega
  have z3 : ((p ++ dm) ++ a).size ≤ 600 := by rw [cat_size]; omega
  have z4 : ((p ++ dn) ++ b).size ≤ 600 := by rw [cat_size]; omega
  go_wp2_with fail
  refine (natural_any ((p ++ dm) ++ a) ((p ++ dn) ++ b) (by omega) (by omega) _).mono ?_
  rintro e w5 ⟨rfl, hbl⟩
  have HB5 := Lib.hid (HB4.out.trans (hbl.mono HB4.out.size))
  have hf := HF.out
  generalize natC ((p ++ dm) ++ a).data.toList ((p ++ dn) ++ b).data.toList = v at *
  clear hbl HB4 z1 z2 z3 z4
  go_wp2
  go_ret
  exact ⟨rfl, HB5.out⟩

set_option maxHeartbeats 2000000 in
set_option maxRecDepth 100000 in
theorem numbers_nen (p a b : ByteArray) (m n : Nat) (hp : p.size ≤ 200) (ha : a.size ≤ 200) (hb : b.size ≤ 200) (hm : m ≤ 1000000000) (hn : n ≤ 1000000000) (hne : m ≠ n) (y0 : 0 < p.size) (x0 : inB 48 57 (p[p.size - 1]'(by omega)) = false) (x1 : a.size = 0) (y2 : 0 < b.size) (x2 : inB 48 57 (b[0]'(by omega)) = false) (w : World) :
    Calls Tryd.prog 8 #[.string p, .int .i64 (m : Int), .int .i64 (n : Int), .string a, .string b] w fun e w' => e = .returned (.bool true) ∧ Below w.heap.size w w' := by
  have k0 : decide ((p.size : Int) > 200) = false := decide_eq_false (by omega)
  have k1 : decide ((a.size : Int) > 200) = false := decide_eq_false (by omega)
  have k2 : decide ((b.size : Int) > 200) = false := decide_eq_false (by omega)
  have k3 : decide ((m : Int) < 0) = false := decide_eq_false (by omega)
  have k4 : decide ((n : Int) < 0) = false := decide_eq_false (by omega)
  have k5 : decide ((m : Int) > 1000000000) = false := decide_eq_false (by omega)
  have k6 : decide ((n : Int) > 1000000000) = false := decide_eq_false (by omega)
  have k7 : ((m : Int) == (n : Int)) = false := beq_eq_false_iff_ne.2 (by omega)
  have g0 : decide ((p.size : Int) > 0) = true := decide_eq_true (by omega)
  have f0 : decide (0 < p.size) = true := decide_eq_true (by omega)
  have l0 : p.size - 1 < p.size := by omega
  have D0 := Lib.hid x0
  have g1 : decide ((a.size : Int) > 0) = false := decide_eq_false (by omega)
  have f1 : decide (0 < a.size) = false := decide_eq_false (by omega)
  have g2 : decide ((b.size : Int) > 0) = true := decide_eq_true (by omega)
  have f2 : decide (0 < b.size) = true := decide_eq_true (by omega)
  have l2 : 0 < b.size := by omega
  have D2 := Lib.hid x2
  have HF := Lib.hid (numbers_fact (end_nodig (Or.inr ⟨l0, x0⟩)) (nodig (Or.inl x1)) (nodig (Or.inr ⟨l2, x2⟩)) hm hn hne)
  clear x0 x1 x2
  go_enter Tryd.func8, Tryd.ntmps8
  go_wp2_with fail
  refine (awake_any _).mono ?_
  rintro e w1 ⟨rfl, hbl⟩
  have HB := Lib.hid hbl
  clear hbl
  go_wp2_with fail
  refine (rdigit_is _ _ false D0.out).mono ?_
  rintro e w2 ⟨rfl, rfl⟩
  go_wp2_with fail
  refine (rdigit_is _ _ false D2.out).mono ?_
  rintro e w2 ⟨rfl, rfl⟩
  go_wp2_with fail
  refine (digits_any 9 (by omega) m _ (by omega) hm).mono ?_
  rintro e w3 ⟨rfl, hbl⟩
  have HB3 := Lib.hid (HB.out.trans (hbl.mono HB.out.size))
  clear hbl HB
  obtain ⟨dm, hdm⟩ : ∃ dm, bs (decF 9 m) = dm := ⟨_, rfl⟩
  have zm : dm.size ≤ 10 := by rw [← hdm, bs_size]; exact decF_len 9 m
  rw [hdm] at HF ⊢
  clear hdm
  go_wp2_with fail
  refine (digits_any 9 (by omega) n _ (by omega) hn).mono ?_
  rintro e w4 ⟨rfl, hbl⟩
  have HB4 := Lib.hid (HB3.out.trans (hbl.mono HB3.out.size))
  clear hbl HB3
  obtain ⟨dn, hdn⟩ : ∃ dn, bs (decF 9 n) = dn := ⟨_, rfl⟩
  have zn : dn.size ≤ 10 := by rw [← hdn, bs_size]; exact decF_len 9 n
  rw [hdn] at HF ⊢
  clear hdn
  have z1 : (p ++ dm).size ≤ 300 := by rw [cat_size]; omega
  have z2 : (p ++ dn).size ≤ 300 := by rw [cat_size]; omega
  have z3 : ((p ++ dm) ++ a).size ≤ 600 := by rw [cat_size]; omega
  have z4 : ((p ++ dn) ++ b).size ≤ 600 := by rw [cat_size]; omega
  go_wp2_with fail
  refine (natural_any ((p ++ dm) ++ a) ((p ++ dn) ++ b) (by omega) (by omega) _).mono ?_
  rintro e w5 ⟨rfl, hbl⟩
  have HB5 := Lib.hid (HB4.out.trans (hbl.mono HB4.out.size))
  have hf := HF.out
  generalize natC ((p ++ dm) ++ a).data.toList ((p ++ dn) ++ b).data.toList = v at *
  clear hbl HB4 z1 z2 z3 z4
  go_wp2
  go_ret
  exact ⟨rfl, HB5.out⟩

set_option maxHeartbeats 2000000 in
set_option maxRecDepth 100000 in
theorem numbers_ned (p a b : ByteArray) (m n : Nat) (hp : p.size ≤ 200) (ha : a.size ≤ 200) (hb : b.size ≤ 200) (hm : m ≤ 1000000000) (hn : n ≤ 1000000000) (hne : m ≠ n) (y0 : 0 < p.size) (x0 : inB 48 57 (p[p.size - 1]'(by omega)) = false) (x1 : a.size = 0) (y2 : 0 < b.size) (x2 : inB 48 57 (b[0]'(by omega)) = true) (w : World) :
    Calls Tryd.prog 8 #[.string p, .int .i64 (m : Int), .int .i64 (n : Int), .string a, .string b] w fun e w' => e = .returned (.bool true) ∧ Below w.heap.size w w' := by
  have k0 : decide ((p.size : Int) > 200) = false := decide_eq_false (by omega)
  have k1 : decide ((a.size : Int) > 200) = false := decide_eq_false (by omega)
  have k2 : decide ((b.size : Int) > 200) = false := decide_eq_false (by omega)
  have k3 : decide ((m : Int) < 0) = false := decide_eq_false (by omega)
  have k4 : decide ((n : Int) < 0) = false := decide_eq_false (by omega)
  have k5 : decide ((m : Int) > 1000000000) = false := decide_eq_false (by omega)
  have k6 : decide ((n : Int) > 1000000000) = false := decide_eq_false (by omega)
  have k7 : ((m : Int) == (n : Int)) = false := beq_eq_false_iff_ne.2 (by omega)
  have g0 : decide ((p.size : Int) > 0) = true := decide_eq_true (by omega)
  have f0 : decide (0 < p.size) = true := decide_eq_true (by omega)
  have l0 : p.size - 1 < p.size := by omega
  have D0 := Lib.hid x0
  have g1 : decide ((a.size : Int) > 0) = false := decide_eq_false (by omega)
  have f1 : decide (0 < a.size) = false := decide_eq_false (by omega)
  have g2 : decide ((b.size : Int) > 0) = true := decide_eq_true (by omega)
  have f2 : decide (0 < b.size) = true := decide_eq_true (by omega)
  have l2 : 0 < b.size := by omega
  have D2 := Lib.hid x2
  clear x0 x1 x2
  go_enter Tryd.func8, Tryd.ntmps8
  go_wp2_with fail
  refine (awake_any _).mono ?_
  rintro e w1 ⟨rfl, hbl⟩
  have HB := Lib.hid hbl
  clear hbl
  go_wp2_with fail
  refine (rdigit_is _ _ false D0.out).mono ?_
  rintro e w2 ⟨rfl, rfl⟩
  go_wp2_with fail
  refine (rdigit_is _ _ true D2.out).mono ?_
  rintro e w2 ⟨rfl, rfl⟩
  go_wp2
  go_ret
  exact ⟨rfl, HB.out⟩

set_option maxHeartbeats 2000000 in
set_option maxRecDepth 100000 in
theorem numbers_nne (p a b : ByteArray) (m n : Nat) (hp : p.size ≤ 200) (ha : a.size ≤ 200) (hb : b.size ≤ 200) (hm : m ≤ 1000000000) (hn : n ≤ 1000000000) (hne : m ≠ n) (y0 : 0 < p.size) (x0 : inB 48 57 (p[p.size - 1]'(by omega)) = false) (y1 : 0 < a.size) (x1 : inB 48 57 (a[0]'(by omega)) = false) (x2 : b.size = 0) (w : World) :
    Calls Tryd.prog 8 #[.string p, .int .i64 (m : Int), .int .i64 (n : Int), .string a, .string b] w fun e w' => e = .returned (.bool true) ∧ Below w.heap.size w w' := by
  have k0 : decide ((p.size : Int) > 200) = false := decide_eq_false (by omega)
  have k1 : decide ((a.size : Int) > 200) = false := decide_eq_false (by omega)
  have k2 : decide ((b.size : Int) > 200) = false := decide_eq_false (by omega)
  have k3 : decide ((m : Int) < 0) = false := decide_eq_false (by omega)
  have k4 : decide ((n : Int) < 0) = false := decide_eq_false (by omega)
  have k5 : decide ((m : Int) > 1000000000) = false := decide_eq_false (by omega)
  have k6 : decide ((n : Int) > 1000000000) = false := decide_eq_false (by omega)
  have k7 : ((m : Int) == (n : Int)) = false := beq_eq_false_iff_ne.2 (by omega)
  have g0 : decide ((p.size : Int) > 0) = true := decide_eq_true (by omega)
  have f0 : decide (0 < p.size) = true := decide_eq_true (by omega)
  have l0 : p.size - 1 < p.size := by omega
  have D0 := Lib.hid x0
  have g1 : decide ((a.size : Int) > 0) = true := decide_eq_true (by omega)
  have f1 : decide (0 < a.size) = true := decide_eq_true (by omega)
  have l1 : 0 < a.size := by omega
  have D1 := Lib.hid x1
  have g2 : decide ((b.size : Int) > 0) = false := decide_eq_false (by omega)
  have f2 : decide (0 < b.size) = false := decide_eq_false (by omega)
  have HF := Lib.hid (numbers_fact (end_nodig (Or.inr ⟨l0, x0⟩)) (nodig (Or.inr ⟨l1, x1⟩)) (nodig (Or.inl x2)) hm hn hne)
  clear x0 x1 x2
  go_enter Tryd.func8, Tryd.ntmps8
  go_wp2_with fail
  refine (awake_any _).mono ?_
  rintro e w1 ⟨rfl, hbl⟩
  have HB := Lib.hid hbl
  clear hbl
  go_wp2_with fail
  refine (rdigit_is _ _ false D0.out).mono ?_
  rintro e w2 ⟨rfl, rfl⟩
  go_wp2_with fail
  refine (rdigit_is _ _ false D1.out).mono ?_
  rintro e w2 ⟨rfl, rfl⟩
  go_wp2_with fail
  refine (digits_any 9 (by omega) m _ (by omega) hm).mono ?_
  rintro e w3 ⟨rfl, hbl⟩
  have HB3 := Lib.hid (HB.out.trans (hbl.mono HB.out.size))
  clear hbl HB
  obtain ⟨dm, hdm⟩ : ∃ dm, bs (decF 9 m) = dm := ⟨_, rfl⟩
  have zm : dm.size ≤ 10 := by rw [← hdm, bs_size]; exact decF_len 9 m
  rw [hdm] at HF ⊢
  clear hdm
  go_wp2_with fail
  refine (digits_any 9 (by omega) n _ (by omega) hn).mono ?_
  rintro e w4 ⟨rfl, hbl⟩
  have HB4 := Lib.hid (HB3.out.trans (hbl.mono HB3.out.size))
  clear hbl HB3
  obtain ⟨dn, hdn⟩ : ∃ dn, bs (decF 9 n) = dn := ⟨_, rfl⟩
  have zn : dn.size ≤ 10 := by rw [← hdn, bs_size]; exact decF_len 9 n
  rw [hdn] at HF ⊢
  clear hdn
  have z1 : (p ++ dm).size ≤ 300 := by rw [cat_size]; omega
  have z2 : (p ++ dn).size ≤ 300 := by rw [cat_size]; omega
  have z3 : ((p ++ dm) ++ a).size ≤ 600 := by rw [cat_size]; omega
  have z4 : ((p ++ dn) ++ b).size ≤ 600 := by rw [cat_size]; omega
  go_wp2_with fail
  refine (natural_any ((p ++ dm) ++ a) ((p ++ dn) ++ b) (by omega) (by omega) _).mono ?_
  rintro e w5 ⟨rfl, hbl⟩
  have HB5 := Lib.hid (HB4.out.trans (hbl.mono HB4.out.size))
  have hf := HF.out
  generalize natC ((p ++ dm) ++ a).data.toList ((p ++ dn) ++ b).data.toList = v at *
  clear hbl HB4 z1 z2 z3 z4
  go_wp2
  go_ret
  exact ⟨rfl, HB5.out⟩

set_option maxHeartbeats 2000000 in
set_option maxRecDepth 100000 in
theorem numbers_nnn (p a b : ByteArray) (m n : Nat) (hp : p.size ≤ 200) (ha : a.size ≤ 200) (hb : b.size ≤ 200) (hm : m ≤ 1000000000) (hn : n ≤ 1000000000) (hne : m ≠ n) (y0 : 0 < p.size) (x0 : inB 48 57 (p[p.size - 1]'(by omega)) = false) (y1 : 0 < a.size) (x1 : inB 48 57 (a[0]'(by omega)) = false) (y2 : 0 < b.size) (x2 : inB 48 57 (b[0]'(by omega)) = false) (w : World) :
    Calls Tryd.prog 8 #[.string p, .int .i64 (m : Int), .int .i64 (n : Int), .string a, .string b] w fun e w' => e = .returned (.bool true) ∧ Below w.heap.size w w' := by
  have k0 : decide ((p.size : Int) > 200) = false := decide_eq_false (by omega)
  have k1 : decide ((a.size : Int) > 200) = false := decide_eq_false (by omega)
  have k2 : decide ((b.size : Int) > 200) = false := decide_eq_false (by omega)
  have k3 : decide ((m : Int) < 0) = false := decide_eq_false (by omega)
  have k4 : decide ((n : Int) < 0) = false := decide_eq_false (by omega)
  have k5 : decide ((m : Int) > 1000000000) = false := decide_eq_false (by omega)
  have k6 : decide ((n : Int) > 1000000000) = false := decide_eq_false (by omega)
  have k7 : ((m : Int) == (n : Int)) = false := beq_eq_false_iff_ne.2 (by omega)
  have g0 : decide ((p.size : Int) > 0) = true := decide_eq_true (by omega)
  have f0 : decide (0 < p.size) = true := decide_eq_true (by omega)
  have l0 : p.size - 1 < p.size := by omega
  have D0 := Lib.hid x0
  have g1 : decide ((a.size : Int) > 0) = true := decide_eq_true (by omega)
  have f1 : decide (0 < a.size) = true := decide_eq_true (by omega)
  have l1 : 0 < a.size := by omega
  have D1 := Lib.hid x1
  have g2 : decide ((b.size : Int) > 0) = true := decide_eq_true (by omega)
  have f2 : decide (0 < b.size) = true := decide_eq_true (by omega)
  have l2 : 0 < b.size := by omega
  have D2 := Lib.hid x2
  have HF := Lib.hid (numbers_fact (end_nodig (Or.inr ⟨l0, x0⟩)) (nodig (Or.inr ⟨l1, x1⟩)) (nodig (Or.inr ⟨l2, x2⟩)) hm hn hne)
  clear x0 x1 x2
  go_enter Tryd.func8, Tryd.ntmps8
  go_wp2_with fail
  refine (awake_any _).mono ?_
  rintro e w1 ⟨rfl, hbl⟩
  have HB := Lib.hid hbl
  clear hbl
  go_wp2_with fail
  refine (rdigit_is _ _ false D0.out).mono ?_
  rintro e w2 ⟨rfl, rfl⟩
  go_wp2_with fail
  refine (rdigit_is _ _ false D1.out).mono ?_
  rintro e w2 ⟨rfl, rfl⟩
  go_wp2_with fail
  refine (rdigit_is _ _ false D2.out).mono ?_
  rintro e w2 ⟨rfl, rfl⟩
  go_wp2_with fail
  refine (digits_any 9 (by omega) m _ (by omega) hm).mono ?_
  rintro e w3 ⟨rfl, hbl⟩
  have HB3 := Lib.hid (HB.out.trans (hbl.mono HB.out.size))
  clear hbl HB
  obtain ⟨dm, hdm⟩ : ∃ dm, bs (decF 9 m) = dm := ⟨_, rfl⟩
  have zm : dm.size ≤ 10 := by rw [← hdm, bs_size]; exact decF_len 9 m
  rw [hdm] at HF ⊢
  clear hdm
  go_wp2_with fail
  refine (digits_any 9 (by omega) n _ (by omega) hn).mono ?_
  rintro e w4 ⟨rfl, hbl⟩
  have HB4 := Lib.hid (HB3.out.trans (hbl.mono HB3.out.size))
  clear hbl HB3
  obtain ⟨dn, hdn⟩ : ∃ dn, bs (decF 9 n) = dn := ⟨_, rfl⟩
  have zn : dn.size ≤ 10 := by rw [← hdn, bs_size]; exact decF_len 9 n
  rw [hdn] at HF ⊢
  clear hdn
  have z1 : (p ++ dm).size ≤ 300 := by rw [cat_size]; omega
  have z2 : (p ++ dn).size ≤ 300 := by rw [cat_size]; omega
  have z3 : ((p ++ dm) ++ a).size ≤ 600 := by rw [cat_size]; omega
  have z4 : ((p ++ dn) ++ b).size ≤ 600 := by rw [cat_size]; omega
  go_wp2_with fail
  refine (natural_any ((p ++ dm) ++ a) ((p ++ dn) ++ b) (by omega) (by omega) _).mono ?_
  rintro e w5 ⟨rfl, hbl⟩
  have HB5 := Lib.hid (HB4.out.trans (hbl.mono HB4.out.size))
  have hf := HF.out
  generalize natC ((p ++ dm) ++ a).data.toList ((p ++ dn) ++ b).data.toList = v at *
  clear hbl HB4 z1 z2 z3 z4
  go_wp2
  go_ret
  exact ⟨rfl, HB5.out⟩

set_option maxHeartbeats 2000000 in
set_option maxRecDepth 100000 in
theorem numbers_nnd (p a b : ByteArray) (m n : Nat) (hp : p.size ≤ 200) (ha : a.size ≤ 200) (hb : b.size ≤ 200) (hm : m ≤ 1000000000) (hn : n ≤ 1000000000) (hne : m ≠ n) (y0 : 0 < p.size) (x0 : inB 48 57 (p[p.size - 1]'(by omega)) = false) (y1 : 0 < a.size) (x1 : inB 48 57 (a[0]'(by omega)) = false) (y2 : 0 < b.size) (x2 : inB 48 57 (b[0]'(by omega)) = true) (w : World) :
    Calls Tryd.prog 8 #[.string p, .int .i64 (m : Int), .int .i64 (n : Int), .string a, .string b] w fun e w' => e = .returned (.bool true) ∧ Below w.heap.size w w' := by
  have k0 : decide ((p.size : Int) > 200) = false := decide_eq_false (by omega)
  have k1 : decide ((a.size : Int) > 200) = false := decide_eq_false (by omega)
  have k2 : decide ((b.size : Int) > 200) = false := decide_eq_false (by omega)
  have k3 : decide ((m : Int) < 0) = false := decide_eq_false (by omega)
  have k4 : decide ((n : Int) < 0) = false := decide_eq_false (by omega)
  have k5 : decide ((m : Int) > 1000000000) = false := decide_eq_false (by omega)
  have k6 : decide ((n : Int) > 1000000000) = false := decide_eq_false (by omega)
  have k7 : ((m : Int) == (n : Int)) = false := beq_eq_false_iff_ne.2 (by omega)
  have g0 : decide ((p.size : Int) > 0) = true := decide_eq_true (by omega)
  have f0 : decide (0 < p.size) = true := decide_eq_true (by omega)
  have l0 : p.size - 1 < p.size := by omega
  have D0 := Lib.hid x0
  have g1 : decide ((a.size : Int) > 0) = true := decide_eq_true (by omega)
  have f1 : decide (0 < a.size) = true := decide_eq_true (by omega)
  have l1 : 0 < a.size := by omega
  have D1 := Lib.hid x1
  have g2 : decide ((b.size : Int) > 0) = true := decide_eq_true (by omega)
  have f2 : decide (0 < b.size) = true := decide_eq_true (by omega)
  have l2 : 0 < b.size := by omega
  have D2 := Lib.hid x2
  clear x0 x1 x2
  go_enter Tryd.func8, Tryd.ntmps8
  go_wp2_with fail
  refine (awake_any _).mono ?_
  rintro e w1 ⟨rfl, hbl⟩
  have HB := Lib.hid hbl
  clear hbl
  go_wp2_with fail
  refine (rdigit_is _ _ false D0.out).mono ?_
  rintro e w2 ⟨rfl, rfl⟩
  go_wp2_with fail
  refine (rdigit_is _ _ false D1.out).mono ?_
  rintro e w2 ⟨rfl, rfl⟩
  go_wp2_with fail
  refine (rdigit_is _ _ true D2.out).mono ?_
  rintro e w2 ⟨rfl, rfl⟩
  go_wp2
  go_ret
  exact ⟨rfl, HB.out⟩

set_option maxHeartbeats 2000000 in
set_option maxRecDepth 100000 in
theorem numbers_nde (p a b : ByteArray) (m n : Nat) (hp : p.size ≤ 200) (ha : a.size ≤ 200) (hb : b.size ≤ 200) (hm : m ≤ 1000000000) (hn : n ≤ 1000000000) (hne : m ≠ n) (y0 : 0 < p.size) (x0 : inB 48 57 (p[p.size - 1]'(by omega)) = false) (y1 : 0 < a.size) (x1 : inB 48 57 (a[0]'(by omega)) = true) (w : World) :
    Calls Tryd.prog 8 #[.string p, .int .i64 (m : Int), .int .i64 (n : Int), .string a, .string b] w fun e w' => e = .returned (.bool true) ∧ Below w.heap.size w w' := by
  have k0 : decide ((p.size : Int) > 200) = false := decide_eq_false (by omega)
  have k1 : decide ((a.size : Int) > 200) = false := decide_eq_false (by omega)
  have k2 : decide ((b.size : Int) > 200) = false := decide_eq_false (by omega)
  have k3 : decide ((m : Int) < 0) = false := decide_eq_false (by omega)
  have k4 : decide ((n : Int) < 0) = false := decide_eq_false (by omega)
  have k5 : decide ((m : Int) > 1000000000) = false := decide_eq_false (by omega)
  have k6 : decide ((n : Int) > 1000000000) = false := decide_eq_false (by omega)
  have k7 : ((m : Int) == (n : Int)) = false := beq_eq_false_iff_ne.2 (by omega)
  have g0 : decide ((p.size : Int) > 0) = true := decide_eq_true (by omega)
  have f0 : decide (0 < p.size) = true := decide_eq_true (by omega)
  have l0 : p.size - 1 < p.size := by omega
  have D0 := Lib.hid x0
  have g1 : decide ((a.size : Int) > 0) = true := decide_eq_true (by omega)
  have f1 : decide (0 < a.size) = true := decide_eq_true (by omega)
  have l1 : 0 < a.size := by omega
  have D1 := Lib.hid x1
  clear x0 x1
  go_enter Tryd.func8, Tryd.ntmps8
  go_wp2_with fail
  refine (awake_any _).mono ?_
  rintro e w1 ⟨rfl, hbl⟩
  have HB := Lib.hid hbl
  clear hbl
  go_wp2_with fail
  refine (rdigit_is _ _ false D0.out).mono ?_
  rintro e w2 ⟨rfl, rfl⟩
  go_wp2_with fail
  refine (rdigit_is _ _ true D1.out).mono ?_
  rintro e w2 ⟨rfl, rfl⟩
  go_wp2
  go_ret
  exact ⟨rfl, HB.out⟩

set_option maxHeartbeats 2000000 in
set_option maxRecDepth 100000 in
theorem numbers_dee (p a b : ByteArray) (m n : Nat) (hp : p.size ≤ 200) (ha : a.size ≤ 200) (hb : b.size ≤ 200) (hm : m ≤ 1000000000) (hn : n ≤ 1000000000) (hne : m ≠ n) (y0 : 0 < p.size) (x0 : inB 48 57 (p[p.size - 1]'(by omega)) = true) (w : World) :
    Calls Tryd.prog 8 #[.string p, .int .i64 (m : Int), .int .i64 (n : Int), .string a, .string b] w fun e w' => e = .returned (.bool true) ∧ Below w.heap.size w w' := by
  have k0 : decide ((p.size : Int) > 200) = false := decide_eq_false (by omega)
  have k1 : decide ((a.size : Int) > 200) = false := decide_eq_false (by omega)
  have k2 : decide ((b.size : Int) > 200) = false := decide_eq_false (by omega)
  have k3 : decide ((m : Int) < 0) = false := decide_eq_false (by omega)
  have k4 : decide ((n : Int) < 0) = false := decide_eq_false (by omega)
  have k5 : decide ((m : Int) > 1000000000) = false := decide_eq_false (by omega)
  have k6 : decide ((n : Int) > 1000000000) = false := decide_eq_false (by omega)
  have k7 : ((m : Int) == (n : Int)) = false := beq_eq_false_iff_ne.2 (by omega)
  have g0 : decide ((p.size : Int) > 0) = true := decide_eq_true (by omega)
  have f0 : decide (0 < p.size) = true := decide_eq_true (by omega)
  have l0 : p.size - 1 < p.size := by omega
  have D0 := Lib.hid x0
  clear x0
  go_enter Tryd.func8, Tryd.ntmps8
  go_wp2_with fail
  refine (awake_any _).mono ?_
  rintro e w1 ⟨rfl, hbl⟩
  have HB := Lib.hid hbl
  clear hbl
  go_wp2_with fail
  refine (rdigit_is _ _ true D0.out).mono ?_
  rintro e w2 ⟨rfl, rfl⟩
  go_wp2
  go_ret
  exact ⟨rfl, HB.out⟩

theorem numbers_walk (p : ByteArray) (m n : Int) (a b : ByteArray) (hp : p.size ≤ 9223372036854775807) (ha : a.size ≤ 9223372036854775807) (hb : b.size ≤ 9223372036854775807) (lm : -9223372036854775808 ≤ m) (um : m ≤ 9223372036854775807) (ln : -9223372036854775808 ≤ n) (un : n ≤ 9223372036854775807) (w : World) :
    Calls Tryd.prog 8 #[.string p, .int .i64 m, .int .i64 n, .string a, .string b] w fun e w' => e = .returned (.bool true) ∧ Below w.heap.size w w' := by
  by_cases h : p.size > 200 ∨ a.size > 200 ∨ b.size > 200 ∨ m < 0 ∨ n < 0 ∨ m > 1000000000 ∨ n > 1000000000 ∨ m = n
  · exact numbers_out p a b m n hp ha hb lm um ln un h w
  · obtain ⟨M, rfl⟩ := Int.eq_ofNat_of_zero_le (show 0 ≤ m by omega)
    obtain ⟨N, rfl⟩ := Int.eq_ofNat_of_zero_le (show 0 ≤ n by omega)
    have q1 : p.size ≤ 200 := by omega
    have q2 : a.size ≤ 200 := by omega
    have q3 : b.size ≤ 200 := by omega
    have q4 : M ≤ 1000000000 := by omega
    have q5 : N ≤ 1000000000 := by omega
    have q6 : M ≠ N := by omega
    by_cases x0 : p.size = 0
    · by_cases x1 : a.size = 0
      · by_cases x2 : b.size = 0
        · exact numbers_eee p a b M N q1 q2 q3 q4 q5 q6 x0 x1 x2 w
        · have y2 : 0 < b.size := by omega
          cases x2 : inB 48 57 (b[0]'(by omega)) with
          | true =>
            exact numbers_eed p a b M N q1 q2 q3 q4 q5 q6 x0 x1 y2 x2 w
          | false =>
            exact numbers_een p a b M N q1 q2 q3 q4 q5 q6 x0 x1 y2 x2 w
      · have y1 : 0 < a.size := by omega
        cases x1 : inB 48 57 (a[0]'(by omega)) with
        | true =>
          exact numbers_ede p a b M N q1 q2 q3 q4 q5 q6 x0 y1 x1 w
        | false =>
          by_cases x2 : b.size = 0
          · exact numbers_ene p a b M N q1 q2 q3 q4 q5 q6 x0 y1 x1 x2 w
          · have y2 : 0 < b.size := by omega
            cases x2 : inB 48 57 (b[0]'(by omega)) with
            | true =>
              exact numbers_end p a b M N q1 q2 q3 q4 q5 q6 x0 y1 x1 y2 x2 w
            | false =>
              exact numbers_enn p a b M N q1 q2 q3 q4 q5 q6 x0 y1 x1 y2 x2 w
    · have y0 : 0 < p.size := by omega
      cases x0 : inB 48 57 (p[p.size - 1]'(by omega)) with
      | true =>
        exact numbers_dee p a b M N q1 q2 q3 q4 q5 q6 y0 x0 w
      | false =>
        by_cases x1 : a.size = 0
        · by_cases x2 : b.size = 0
          · exact numbers_nee p a b M N q1 q2 q3 q4 q5 q6 y0 x0 x1 x2 w
          · have y2 : 0 < b.size := by omega
            cases x2 : inB 48 57 (b[0]'(by omega)) with
            | true =>
              exact numbers_ned p a b M N q1 q2 q3 q4 q5 q6 y0 x0 x1 y2 x2 w
            | false =>
              exact numbers_nen p a b M N q1 q2 q3 q4 q5 q6 y0 x0 x1 y2 x2 w
        · have y1 : 0 < a.size := by omega
          cases x1 : inB 48 57 (a[0]'(by omega)) with
          | true =>
            exact numbers_nde p a b M N q1 q2 q3 q4 q5 q6 y0 x0 y1 x1 w
          | false =>
            by_cases x2 : b.size = 0
            · exact numbers_nne p a b M N q1 q2 q3 q4 q5 q6 y0 x0 y1 x1 x2 w
            · have y2 : 0 < b.size := by omega
              cases x2 : inB 48 57 (b[0]'(by omega)) with
              | true =>
                exact numbers_nnd p a b M N q1 q2 q3 q4 q5 q6 y0 x0 y1 x1 y2 x2 w
              | false =>
                exact numbers_nnn p a b M N q1 q2 q3 q4 q5 q6 y0 x0 y1 x1 y2 x2 w
end Go.Proofs.YtpndapbflinhlaaDoor
