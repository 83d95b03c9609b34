/- Contract of layer 9: Valid. -/
import Derived.Test.YtohalocbghhenaaGreatDoorVal
import Derived.Test.YtohalocbghhenaaGreatDoorLexJ
import Derived.Sort.Grow
import Derived.Test.YtohalocbghhenaaGreatDoorAtom
import Derived.Test.YtohalocbghhenaaGreatDoorCount
import Derived.Test.YtohalocbghhenaaGreatDoorDepth
import Derived.Test.YtohalocbghhenaaGreatDoorEnts
import Derived.Laws.EntriesVeiled
set_option linter.unusedSimpArgs false
set_option linter.unusedVariables false
namespace Go.Proofs.YtohalocbghhenaaGreatDoor
open Go.RowKit

theorem validT_two (s : ByteArray) (n a : Int) : validT ⟨2, s, n, a⟩ = ((s.data.toList.isEmpty && decide (0 ≤ n)) && decide (n ≤ 1000000000)) := rfl
theorem validT_no {k : Int} (h : k ≠ 2) (s : ByteArray) (n a : Int) : validT ⟨k, s, n, a⟩ = ((n == 0) && vText k s.data.toList) := by
  unfold validT; simp only; rw [if_neg h]
theorem empty_no {s : ByteArray} (h : 0 < s.size) : s.data.toList.isEmpty = false := by
  cases hh : s.data.toList with
  | nil => have := list_size s; rw [hh] at this; simp at this; omega
  | cons c t => rfl
set_option maxHeartbeats 2000000 in
set_option maxRecDepth 100000 in
theorem valid_any (t : Tk) (hs : t.t.size ≤ 1000000000) (w : World) (hT : Tabs w) : Calls Tryz.prog 64 #[t.val] w fun e w' => e = .returned (.bool (validT t)) ∧ Below w.heap.size w w' := by
  obtain ⟨k, s, n, a⟩ := t
  unfold Tk.val
  simp only at hs ⊢
  have HT := Lib.hid hT
  clear hT
  by_cases e2 : k = 2
  · subst e2
    have HR := Lib.hid (validT_two s n a)
    generalize validT ⟨2, s, n, a⟩ = r at *
    by_cases h0 : s.size = 0
    · obtain ⟨k1, k2⟩ := str_empty h0
      rw [size0 h0] at HR
      by_cases h1 : 0 ≤ n
      · by_cases h2 : n ≤ 1000000000
        · have HZ := Lib.hid (show r = true by rw [HR.out]; simp [h1, h2])
          have d1 : decide (n ≥ 0) = true := decide_eq_true h1
          clear HR h0
          go_enter Tryz.func64, Tryz.ntmps64
          go_wp2_with fail
          go_ret
          exact ⟨ret_bool (by simp [HZ.out, h2]), (by repeat (first | with_reducible exact Below.refl _ _ | (with_reducible refine Below.setCell ?_ (by first | exact Nat.le_refl _ | omega | (simp; done) | (simp; omega)) _) | (with_reducible refine Below.alloc ?_ (by first | exact Nat.le_refl _ | omega | (simp; done) | (simp; omega)) _) | with_reducible refine Below.drew ?_ | with_reducible refine bel_drewN ?_ _ | (with_reducible refine bel_by (by with_reducible assumption) (by first | exact Nat.le_refl _ | omega | (simp; done) | (simp; omega)) ?_)))⟩
        · have HZ := Lib.hid (show r = false by rw [HR.out]; simp [h2])
          have d1 : decide (n ≥ 0) = true := decide_eq_true h1
          clear HR h0
          go_enter Tryz.func64, Tryz.ntmps64
          go_wp2_with fail
          go_ret
          exact ⟨ret_bool (by first | (simp [HZ.out]; done) | (simp [HZ.out]; omega)), (by repeat (first | with_reducible exact Below.refl _ _ | (with_reducible refine Below.setCell ?_ (by first | exact Nat.le_refl _ | omega | (simp; done) | (simp; omega)) _) | (with_reducible refine Below.alloc ?_ (by first | exact Nat.le_refl _ | omega | (simp; done) | (simp; omega)) _) | with_reducible refine Below.drew ?_ | with_reducible refine bel_drewN ?_ _ | (with_reducible refine bel_by (by with_reducible assumption) (by first | exact Nat.le_refl _ | omega | (simp; done) | (simp; omega)) ?_)))⟩
      · have HZ := Lib.hid (show r = false by rw [HR.out]; simp [h1])
        have d1 : decide (n ≥ 0) = false := decide_eq_false h1
        clear HR h0
        go_enter Tryz.func64, Tryz.ntmps64
        go_wp2_with fail
        go_ret
        exact ⟨ret_bool (by simp [HZ.out]), (by repeat (first | with_reducible exact Below.refl _ _ | (with_reducible refine Below.setCell ?_ (by first | exact Nat.le_refl _ | omega | (simp; done) | (simp; omega)) _) | (with_reducible refine Below.alloc ?_ (by first | exact Nat.le_refl _ | omega | (simp; done) | (simp; omega)) _) | with_reducible refine Below.drew ?_ | with_reducible refine bel_drewN ?_ _ | (with_reducible refine bel_by (by with_reducible assumption) (by first | exact Nat.le_refl _ | omega | (simp; done) | (simp; omega)) ?_)))⟩
    · obtain ⟨k1, k2⟩ := str_full (show 0 < s.size by omega)
      have HZ := Lib.hid (show r = false by rw [HR.out, empty_no (by omega)]; rfl)
      clear HR h0
      go_enter Tryz.func64, Tryz.ntmps64
      go_wp2_with fail
      go_ret
      exact ⟨ret_bool (by simp [HZ.out]), (by repeat (first | with_reducible exact Below.refl _ _ | (with_reducible refine Below.setCell ?_ (by first | exact Nat.le_refl _ | omega | (simp; done) | (simp; omega)) _) | (with_reducible refine Below.alloc ?_ (by first | exact Nat.le_refl _ | omega | (simp; done) | (simp; omega)) _) | with_reducible refine Below.drew ?_ | with_reducible refine bel_drewN ?_ _ | (with_reducible refine bel_by (by with_reducible assumption) (by first | exact Nat.le_refl _ | omega | (simp; done) | (simp; omega)) ?_)))⟩
  · have HR := Lib.hid (validT_no e2 s n a)
    have q2 : (k == 2) = false := by simpa using e2
    generalize validT ⟨k, s, n, a⟩ = r at *
    clear e2
    by_cases h0 : n = 0
    · subst h0
      have HV := Lib.hid (fun W hW => validText_any k s hs W hW)
      have HZ := Lib.hid (show r = vText k s.data.toList by rw [HR.out]; rfl)
      generalize vText k s.data.toList = q at *
      clear HR
      go_enter Tryz.func64, Tryz.ntmps64
      go_wp2_with fail
      refine (HV.out _ (HT.out.below (by repeat (first | with_reducible exact Below.refl _ _ | (with_reducible refine Below.setCell ?_ (by first | exact Nat.le_refl _ | omega | (simp; done) | (simp; omega)) _) | (with_reducible refine Below.alloc ?_ (by first | exact Nat.le_refl _ | omega | (simp; done) | (simp; omega)) _) | with_reducible refine Below.drew ?_ | with_reducible refine bel_drewN ?_ _ | (with_reducible refine bel_by (by with_reducible assumption) (by first | exact Nat.le_refl _ | omega | (simp; done) | (simp; omega)) ?_))))).mono ?_
      rintro e w1 ⟨rfl, hb1⟩
      have hz1 := bsize hb1
      simp at hz1
      have HB := Lib.hid (show Below w.heap.size w w1 from (by repeat (first | with_reducible exact Below.refl _ _ | (with_reducible refine Below.setCell ?_ (by first | exact Nat.le_refl _ | omega | (simp; done) | (simp; omega)) _) | (with_reducible refine Below.alloc ?_ (by first | exact Nat.le_refl _ | omega | (simp; done) | (simp; omega)) _) | with_reducible refine Below.drew ?_ | with_reducible refine bel_drewN ?_ _ | (with_reducible refine bel_by (by with_reducible assumption) (by first | exact Nat.le_refl _ | omega | (simp; done) | (simp; omega)) ?_))))
      clear hb1
      go_wp2_with fail
      go_ret
      exact ⟨ret_bool HZ.out.symm, HB.out⟩
    · have q0 : (n == 0) = false := by simpa using h0
      have HZ := Lib.hid (show r = false by rw [HR.out, q0]; rfl)
      clear HR h0
      go_enter Tryz.func64, Tryz.ntmps64
      go_wp2_with fail
      go_ret
      exact ⟨ret_bool HZ.out.symm, (by repeat (first | with_reducible exact Below.refl _ _ | (with_reducible refine Below.setCell ?_ (by first | exact Nat.le_refl _ | omega | (simp; done) | (simp; omega)) _) | (with_reducible refine Below.alloc ?_ (by first | exact Nat.le_refl _ | omega | (simp; done) | (simp; omega)) _) | with_reducible refine Below.drew ?_ | with_reducible refine bel_drewN ?_ _ | (with_reducible refine bel_by (by with_reducible assumption) (by first | exact Nat.le_refl _ | omega | (simp; done) | (simp; omega)) ?_)))⟩
end Go.Proofs.YtohalocbghhenaaGreatDoor
/- Contracts of layer 10: what wellFormed asks of atoms. -/
namespace Go.Proofs.YtohalocbghhenaaGreatDoor
open Go.RowKit

def strB (t : Tk) : Bool := !validT t || !atmB t
set_option maxHeartbeats 4000000 in
set_option maxRecDepth 100000 in
theorem strange_any (t : Tk) (hs : t.t.size ≤ 1000000000) (w : World) (hT : Tabs w) : Calls Tryz.prog 63 #[t.val] w fun e w' => e = .returned (.bool (strB t)) ∧ Below w.heap.size w w' := by
  have HV := Lib.hid (fun W hW => valid_any t hs W hW)
  have HA := Lib.hid (fun W => isAtom_any t W)
  have HT := Lib.hid hT
  unfold strB
  obtain ⟨k, s, n, a⟩ := t
  simp only [Tk.val] at HV HA ⊢
  clear hT hs
  go_enter Tryz.func63, Tryz.ntmps63
  go_wp2_with fail
  have HK := Lib.hid (tk_new w ⟨k, s, n, a⟩ 51)
  have HB := Lib.hid (show Below w.heap.size w (w.alloc (.cells #[.int .i64 k, .string s, .int .i64 n, .int .i64 a] 51)) from (by repeat (first | with_reducible exact Below.refl _ _ | (with_reducible refine Below.setCell ?_ (by first | exact Nat.le_refl _ | omega | (simp; done) | (simp; omega)) _) | (with_reducible refine Below.alloc ?_ (by first | exact Nat.le_refl _ | omega | (simp; done) | (simp; omega)) _) | with_reducible refine Below.drew ?_ | with_reducible refine bel_drewN ?_ _ | (with_reducible refine bel_by (by with_reducible assumption) (by first | exact Nat.le_refl _ | omega | (simp; done) | (simp; omega)) ?_))))
  obtain ⟨c0, c1, c2, c3, cf, cl⟩ := HK.out
  simp only at c0 c1 c2 c3
  go_wp2_with fail
  refine (HV.out _ (HT.out.below HB.out)).mono ?_
  rintro e w1 ⟨rfl, hb1⟩
  have HB1 := Lib.hid (HB.out.trans (Below.mono hb1 HB.out.size))
  have HK1 := Lib.hid (HK.out.keep hb1)
  clear c0 c1 c2 c3 cf cl hb1 HK HB
  cases hv : validT ⟨k, s, n, a⟩ with
  | false =>
    go_wp2_with fail
    go_ret
    exact ⟨by rw [hv]; rfl, HB1.out⟩
  | true =>
    obtain ⟨c0, c1, c2, c3, cf, cl⟩ := HK1.out
    simp only at c0 c1 c2 c3
    go_wp2_with fail
    refine (HA.out _).mono ?_
    rintro e w2 ⟨rfl, hb2⟩
    have HB2 := Lib.hid (HB1.out.trans (Below.mono hb2 HB1.out.size))
    clear c0 c1 c2 c3 cf cl hb2 HK1 HB1
    cases ha : atmB ⟨k, s, n, a⟩ <;>
      (go_wp2_with fail
       go_ret
       exact ⟨by rw [hv, ha]; rfl, HB2.out⟩)
set_option maxHeartbeats 4000000 in
set_option maxRecDepth 100000 in
theorem idxT_any {a : Option Addr} {b off len cap : Nat} {L : List Tk} {w : World} (h : SlT w a b off len cap L) (hs : ∀ t ∈ L, t.t.size ≤ 1000000000) (hT : Tabs w) :
    Calls Tryz.prog 89 #[.slice a len cap, .func (.func 63) #[] #[]] w fun e w' => (∃ z : Int, e = .returned (.int .i64 z) ∧ decide (0 ≤ z) = L.any strB) ∧ Below w.heap.size w w' := by
  have HG := Lib.hid (fun k t n a (h : (⟨k, t, n, a⟩ : Tk) ∈ L) W hW => strange_any ⟨k, t, n, a⟩ (hs _ h) W hW)
  simp only [Tk.val] at HG
  have HS := Lib.hid h
  have HT := Lib.hid hT
  have hm := h.hmax
  have hcp := h.hcap
  have hl := h.hl
  unfold maxLen at hm
  clear h hs hT
  go_enter Tryz.func89, Tryz.ntmps89
  go_wp2_with fail
  go_loopw [5, 8] (fun _ s8 wr => ∃ k : Nat, k ≤ len ∧ s8 = .int .i64 (k : Int) ∧ Hid (Below w.heap.size w wr) ∧ Hid ((L.take k).any strB = false)) (fun _ s8 _ => (len - (intOf s8)).toNat)
  case atStart => exact ⟨0, Nat.zero_le _, rfl, Lib.hid (Below.refl _ _), Lib.hid rfl⟩
  case round =>
    obtain ⟨k, hk, rfl, HB, HK⟩ := hrel
    by_cases hlt : k < len
    · have hlz : (k : Int) < (len : Int) := by omega
      have hkL : k < L.length := by omega
      have HSr := Lib.hid (HS.out.keep HB.out)
      obtain rfl := HSr.out.ha (by omega)
      have bb := HSr.out.hb (by omega)
      have c0 := HSr.out.c0 k hkL
      have c1 := HSr.out.c1 k hkL
      have c2 := HSr.out.c2 k hkL
      have c3 := HSr.out.c3 k hkL
      have HTK := Lib.hid (show (L.take (k + 1)).any strB = strB (L[k]'hkL) by
        rw [List.take_succ_eq_append_getElem hkL, List.any_append, HK.out]; simp)
      have HMM := Lib.hid (List.getElem_mem hkL)
      have HAL := Lib.hid (fun h => List.any_eq_true.2 ⟨L[k]'hkL, List.getElem_mem hkL, h⟩ : strB (L[k]'hkL) = true → L.any strB = true)
      generalize L[k]'hkL = x at *
      obtain ⟨xk, xt, xn, xa⟩ := x
      simp only at c0 c1 c2 c3
      have HC := Lib.hid (HG.out xk xt xn xa HMM.out wr (HT.out.below HB.out))
      go_wp2_with fail
      refine HC.out.mono ?_
      rintro e w1 ⟨rfl, hb1⟩
      have hbs := HB.out.size
      have HB1 := Lib.hid (bel_by hb1 hbs HB.out)
      clear c0 c1 c2 c3 hb1 HC HSr
      cases hq : strB ⟨xk, xt, xn, xa⟩ with
      | true =>
        go_wp2_with fail
        go_ret
        exact ⟨⟨_, rfl, by rw [HAL.out hq]; simp⟩, HB1.out⟩
      | false =>
        have HQ := Lib.hid hq
        go_wp2_with fail
        go_roundw
        case rel => exact ⟨k + 1, by omega, by go_num, HB1, Lib.hid (by rw [HTK.out, HQ.out])⟩
        case measure => simp [intOf]; omega
    · have hlz : ¬ (k : Int) < (len : Int) := by omega
      obtain rfl : k = len := by omega
      have HL := Lib.hid (show L.any strB = false by
        have := HK.out
        rwa [List.take_of_length_le (by omega)] at this)
      go_wp2_with fail
      go_ret
      exact ⟨⟨_, rfl, by rw [HL.out]; rfl⟩, HB.out⟩
set_option maxHeartbeats 4000000 in
set_option maxRecDepth 100000 in
theorem contT_any {a : Option Addr} {b off len cap : Nat} {L : List Tk} {w : World} (h : SlT w a b off len cap L) (hs : ∀ t ∈ L, t.t.size ≤ 1000000000) (hT : Tabs w) :
    Calls Tryz.prog 68 #[.slice a len cap, .func (.func 63) #[] #[]] w fun e w' => e = .returned (.bool (L.any strB)) ∧ Below w.heap.size w w' := by
  have HI := Lib.hid (idxT_any h hs hT)
  clear h hs hT
  generalize L.any strB = r at *
  go_enter Tryz.func68, Tryz.ntmps68
  go_wp2_with fail
  refine HI.out.mono ?_
  rintro e w1 ⟨⟨z, rfl, hz⟩, hb1⟩
  have hz2 : decide (z ≥ 0) = r := hz
  go_wp2_with fail
  go_ret
  exact ⟨ret_bool (by first | exact hz2 | (simp [← hz2]; done)), hb1⟩
end Go.Proofs.YtohalocbghhenaaGreatDoor
/- Contracts of layer 10: wellFormed, Check. -/
namespace Go.Proofs.YtohalocbghhenaaGreatDoor
open Go.RowKit

/-- is an entry not formed -/
def strC (wd : ByteArray) (xs : List Tk) (bl : Bool) (k : Cls) : Bool := !validT ⟨1, wd, 0, 0⟩ || xs.any strB || (if bl then !formed k else decide (0 < k.len))
theorem any_str (xs : List Tk) : xs.any strB = !xs.all (fun t => validT t && atmB t) := by
  rw [List.not_all_eq_any_not]
  congr 1
  funext t
  unfold strB
  cases validT t <;> cases atmB t <;> rfl
theorem formed_cons (wd : ByteArray) (xs : List Tk) (bl : Bool) (k : Cls) (a : Int) (r : Cls) : formed (.cons wd xs bl k a r) = (!strC wd xs bl k && formed r) := by
  unfold strC
  rw [any_str]
  simp only [formed]
  cases validT ⟨1, wd, 0, 0⟩ <;> cases xs.all (fun t => validT t && atmB t) <;> cases bl <;> simp
  cases k with
  | nil => simp [Cls.len, formed]
  | cons _ _ _ _ _ _ => simp [Cls.len]
theorem formed_next : ∀ (c : Cls) (i : Nat) {wd : ByteArray} {xs : List Tk} {bl : Bool} {k : Cls} {a : Int} {r : Cls}, c.drop i = .cons wd xs bl k a r → formed (c.take (i + 1)) = (formed (c.take i) && !strC wd xs bl k)
  | .nil, 0, _, _, _, _, _, _, h => by simp [Cls.drop] at h
  | .nil, _ + 1, _, _, _, _, _, _, h => by simp [Cls.drop] at h
  | .cons _ _ _ _ _ _, 0, _, _, _, _, _, _, h => by
    simp only [Cls.drop, Cls.cons.injEq] at h
    obtain ⟨rfl, rfl, rfl, rfl, rfl, rfl⟩ := h
    simp only [Cls.take, formed_cons]
    simp [formed]
  | .cons w' xs' b' k' a' r', i + 1, _, _, _, _, _, _, h => by
    have := formed_next r' i h
    simp only [Cls.take, formed_cons, this, Bool.and_assoc]
theorem formed_hit : ∀ (c : Cls) (i : Nat) {wd : ByteArray} {xs : List Tk} {bl : Bool} {k : Cls} {a : Int} {r : Cls}, c.drop i = .cons wd xs bl k a r → strC wd xs bl k = true → formed c = false
  | .nil, 0, _, _, _, _, _, _, h, _ => by simp [Cls.drop] at h
  | .nil, _ + 1, _, _, _, _, _, _, h, _ => by simp [Cls.drop] at h
  | .cons _ _ _ _ _ _, 0, _, _, _, _, _, _, h, hs => by
    simp only [Cls.drop, Cls.cons.injEq] at h
    obtain ⟨rfl, rfl, rfl, rfl, rfl, rfl⟩ := h
    rw [formed_cons, hs]; rfl
  | .cons w' xs' b' k' a' r', i + 1, _, _, _, _, _, _, h, hs => by
    rw [formed_cons, formed_hit r' i h hs]; simp
theorem take_all : ∀ (c : Cls), c.take c.len = c
  | .nil => rfl
  | .cons _ _ _ _ _ r => by rw [Cls.len, Cls.take, take_all r]
/-- no text is longer than any machine holds -/
def small : Cls → Prop
  | .nil => True
  | .cons wd xs _ k _ r => wd.size ≤ 1000000000 ∧ (∀ t ∈ xs, t.t.size ≤ 1000000000) ∧ small k ∧ small r
theorem small_drop : ∀ (c : Cls) (i : Nat) {wd : ByteArray} {xs : List Tk} {bl : Bool} {k : Cls} {a : Int} {r : Cls}, small c → c.drop i = .cons wd xs bl k a r → wd.size ≤ 1000000000 ∧ (∀ t ∈ xs, t.t.size ≤ 1000000000) ∧ small k
  | .nil, 0, _, _, _, _, _, _, _, h => by simp [Cls.drop] at h
  | .nil, _ + 1, _, _, _, _, _, _, _, h => by simp [Cls.drop] at h
  | .cons _ _ _ _ _ _, 0, _, _, _, _, _, _, hs, h => by
    simp only [Cls.drop, Cls.cons.injEq] at h
    obtain ⟨rfl, rfl, rfl, rfl, rfl, rfl⟩ := h
    exact ⟨hs.1, hs.2.1, hs.2.2.1⟩
  | .cons w' xs' b' k' a' r', i + 1, _, _, _, _, _, _, hs, h => small_drop r' i hs.2.2.2 h
def WfC (n : Nat) : Prop := ∀ (c : Cls), c.count < n → small c → ∀ (w : World) (F : Nat → Prop) (a : Option Addr) (b o cap : Nat), SlC w F a b o c.len cap c → Tabs w →
    Calls Tryz.prog 41 #[.slice a c.len cap] w fun e w' => e = .returned (.bool (formed c)) ∧ Below w.heap.size w w'
set_option maxHeartbeats 4000000 in
set_option maxRecDepth 100000 in
theorem wf2_any (n : Nat) (hn : n ≤ 4611686018427387904) (IH : Hid (WfC n)) (wd : ByteArray) (xs : List Tk) (bl : Bool) (k : Cls) (av : Int) (hk : k.count < n) (h1 : wd.size ≤ 1000000000) (h2 : ∀ t ∈ xs, t.t.size ≤ 1000000000) (h3 : small k)
    (w : World) (F : Nat → Prop) (aa ak : Option Addr) (ba oa la ca bk ok ck cb : Nat) (hx : SlT w aa ba oa la ca xs) (hc : SlC w F ak bk ok k.len ck k) (hf : w.cell? ⟨cb, 0, none⟩ = some (.func (.func 63) #[] #[])) (hcl : cb < w.heap.size) (hT : Tabs w) :
    Calls Tryz.prog 67 #[.agg #[.string wd, .slice aa la ca, .bool bl, .slice ak k.len ck, .int .i64 av], .pointer (some ⟨cb, 0, none⟩)] w fun e w' => e = .returned (.bool (strC wd xs bl k)) ∧ Below w.heap.size w w' := by
  have HV := Lib.hid (fun W hW => valid_any ⟨1, wd, 0, 0⟩ h1 W hW)
  have HC := Lib.hid (fun W (h : SlT W aa ba oa la ca xs) hW => contT_any h h2 hW)
  have HW := Lib.hid (fun W (h : SlC W (fun x => F x ∧ x < w.heap.size) ak bk ok k.len ck k) hW => IH.out k hk h3 W _ _ _ _ _ h hW)
  have HX := Lib.hid hx
  have HK := Lib.hid hc.here
  have HT := Lib.hid hT
  have HF := Lib.hid hf
  have hkl : k.len ≤ 4611686018427387904 := by have := kidsN_le k 0; omega
  obtain ⟨r, hr⟩ : ∃ r, strC wd xs bl k = r := ⟨_, rfl⟩
  rw [hr]
  unfold strC at hr
  have HR := Lib.hid hr
  clear hx hc hT hf h1 h2 h3 IH hr
  simp only [Tk.val] at HV
  generalize formed k = fk at *
  go_enter Tryz.func67, Tryz.ntmps67
  go_wp2_with fail
  have HCL := Lib.hid (cl_new w wd (.slice aa la ca) (.slice ak k.len ck) bl av 25)
  have HB := Lib.hid (show Below w.heap.size w (w.alloc (.cells #[.string wd, .slice aa la ca, .bool bl, .slice ak k.len ck, .int .i64 av] 25)) from (by repeat (first | with_reducible exact Below.refl _ _ | (with_reducible refine Below.setCell ?_ (by first | exact Nat.le_refl _ | omega | (simp; done) | (simp; omega)) _) | (with_reducible refine Below.alloc ?_ (by first | exact Nat.le_refl _ | omega | (simp; done) | (simp; omega)) _) | with_reducible refine Below.drew ?_ | with_reducible refine bel_drewN ?_ _ | (with_reducible refine bel_by (by with_reducible assumption) (by first | exact Nat.le_refl _ | omega | (simp; done) | (simp; omega)) ?_))))
  obtain ⟨c0, c1, c2, c3, c4, cf, cl⟩ := HCL.out
  go_wp2_with fail
  refine (HV.out _ (HT.out.below HB.out)).mono ?_
  rintro e w1 ⟨rfl, hb1⟩
  have HB1 := Lib.hid (HB.out.trans (Below.mono hb1 HB.out.size))
  have HCL1 := Lib.hid (HCL.out.keep hb1)
  clear c0 c1 c2 c3 c4 cf cl hb1 HCL HB
  cases hv : validT ⟨1, wd, 0, 0⟩ with
  | false =>
    go_wp2_with fail
    go_ret
    exact ⟨ret_bool (by rw [← HR.out, hv]; rfl), HB1.out⟩
  | true =>
    obtain ⟨c0, c1, c2, c3, c4, cf, cl⟩ := HCL1.out
    have f0 := (HB1.out.cell (p := ⟨cb, 0, none⟩) hcl).trans HF.out
    have hlt1 := HB1.out.size
    go_wp2_with fail
    refine (HC.out _ (HX.out.keep HB1.out) (HT.out.below HB1.out)).mono ?_
    rintro e w2 ⟨rfl, hb2⟩
    have HB2 := Lib.hid (HB1.out.trans (Below.mono hb2 HB1.out.size))
    have HCL2 := Lib.hid (HCL1.out.keep hb2)
    clear c0 c1 c2 c3 c4 cf cl f0 hb2 HCL1 HB1
    cases hs : xs.any strB with
    | true =>
      go_wp2_with fail
      go_ret
      exact ⟨ret_bool (by rw [← HR.out, hv, hs]; rfl), HB2.out⟩
    | false =>
      obtain ⟨c0, c1, c2, c3, c4, cf, cl⟩ := HCL2.out
      cases bl with
      | false =>
        go_wp2_with fail
        go_ret
        exact ⟨ret_bool (by rw [← HR.out, hv, hs]; simp), HB2.out⟩
      | true =>
        go_wp2_with fail
        refine (HW.out _ (HK.out.low (fun x hx => hx.2) HB2.out) (HT.out.below HB2.out)).mono ?_
        rintro e w3 ⟨rfl, hb3⟩
        have HB3 := Lib.hid (HB2.out.trans (Below.mono hb3 HB2.out.size))
        clear hb3
        go_wp2_with fail
        go_ret
        exact ⟨ret_bool (by rw [← HR.out, hv, hs]; simp), HB3.out⟩
set_option maxHeartbeats 4000000 in
set_option maxRecDepth 100000 in
theorem idxC_any (n : Nat) (hn : n ≤ 4611686018427387904) (IH : Hid (WfC n)) (c : Cls) (hc : c.count < n + 1) (hsm : small c) (w : World) (F : Nat → Prop) (a : Option Addr) (b o cap cb : Nat) (hA : SlC w F a b o c.len cap c) (hf : w.cell? ⟨cb, 0, none⟩ = some (.func (.func 63) #[] #[])) (hcl : cb < w.heap.size) (hT : Tabs w) :
    Calls Tryz.prog 88 #[.slice a c.len cap, .func (.func 67) #[] #[.pointer (some ⟨cb, 0, none⟩)]] w fun e w' => (∃ z : Int, e = .returned (.int .i64 z) ∧ decide (0 ≤ z) = !formed c) ∧ Below w.heap.size w w' := by
  have HA := Lib.hid hA.here
  have HG := Lib.hid (fun wd xs bl k av hk h1 h2 h3 W aa ak ba oa la ca bk ok ck hx hc hf hcl hT => wf2_any n hn IH wd xs bl k av hk h1 h2 h3 W (fun x => F x ∧ x < w.heap.size) aa ak ba oa la ca bk ok ck cb hx hc hf hcl hT)
  have HN := Lib.hid (fun i wd xs bl k a r => @formed_next c i wd xs bl k a r)
  have HH := Lib.hid (fun i wd xs bl k a r => @formed_hit c i wd xs bl k a r)
  have HM := Lib.hid (fun i wd xs bl k a r => @drop_count c i wd xs bl k a r)
  have HD := Lib.hid (fun i wd xs bl k a r => @small_drop c i wd xs bl k a r hsm)
  have HE := Lib.hid (take_all c)
  have HT := Lib.hid hT
  have HF := Lib.hid hf
  have hlc : c.len ≤ 4611686018427387904 := by have := kidsN_le c 0; omega
  obtain ⟨N, hN⟩ : ∃ N, c.count = N := ⟨_, rfl⟩
  obtain ⟨l, hl⟩ : ∃ l, c.len = l := ⟨_, rfl⟩
  rw [hN] at HM hc
  rw [hl] at HA HE hlc ⊢
  have HLN := Lib.hid hl
  clear hA hN hl hf hT hsm IH
  go_enter Tryz.func88, Tryz.ntmps88
  go_wp2_with fail
  go_loopw [5, 8] (fun _ s8 wr => ∃ k : Nat, k ≤ l ∧ s8 = .int .i64 (k : Int) ∧ Hid (Below w.heap.size w wr) ∧ Hid (formed (c.take k) = true)) (fun _ s8 _ => (l - (intOf s8)).toNat)
  case atStart => exact ⟨0, Nat.zero_le _, rfl, Lib.hid (Below.refl _ _), Lib.hid (by cases c <;> rfl)⟩
  case round =>
    obtain ⟨k, hk, rfl, HB, HK⟩ := hrel
    by_cases hlt : k < l
    · have hlz : (k : Int) < (l : Int) := by omega
      have SA := HA.out.low (fun x hx => hx.2) HB.out
      obtain ⟨rfl, ba, _⟩ := SA.2.2.2.1 (by omega)
      obtain ⟨wd, xs, bl, kd, av, rest, aa, ba', oa, la, ca, ak, bk, ok, ck, hd, c0, c1, c2, c3, c4, SX, _, SK⟩ := AtC.get k (by rw [HLN.out]; exact hlt) SA.2.2.2.2
      obtain ⟨m1, m2, m3⟩ := HD.out _ _ _ _ _ _ _ hd
      have hkc := HM.out _ _ _ _ _ _ _ hd
      have hbs := HB.out.size
      have HC := Lib.hid (HG.out wd xs bl kd av (by omega) m1 m2 m3 wr aa ak ba' oa la ca bk ok ck SX SK ((HB.out.cell (p := ⟨cb, 0, none⟩) hcl).trans HF.out) (by omega) (HT.out.below HB.out))
      have HNX := Lib.hid (HN.out _ _ _ _ _ _ _ hd)
      have HHX := Lib.hid (HH.out _ _ _ _ _ _ _ hd)
      generalize strC wd xs bl kd = q at *
      generalize kd.len = y at *
      clear SA SK SX hd m1 m2 m3
      go_wp2_with fail
      refine HC.out.mono ?_
      rintro e w1 ⟨rfl, hb1⟩
      have HB1 := Lib.hid (bel_by hb1 hbs HB.out)
      clear c0 c1 c2 c3 c4 hb1 HC
      cases q with
      | true =>
        have hh := HHX.out rfl
        go_wp2_with fail
        go_ret
        exact ⟨⟨_, rfl, by rw [hh]; simp⟩, HB1.out⟩
      | false =>
        go_wp2_with fail
        go_roundw
        case rel => exact ⟨k + 1, by omega, by go_num, HB1, Lib.hid (by rw [HNX.out, HK.out]; rfl)⟩
        case measure => simp [intOf]; omega
    · have hlz : ¬ (k : Int) < (l : Int) := by omega
      obtain rfl : k = l := by omega
      have HL := Lib.hid (show formed c = true by
        have := HK.out
        rwa [HE.out] at this)
      go_wp2_with fail
      go_ret
      exact ⟨⟨_, rfl, by rw [HL.out]; rfl⟩, HB.out⟩
set_option maxHeartbeats 4000000 in
set_option maxRecDepth 100000 in
theorem wf_any : ∀ n : Nat, n ≤ 4611686018427387904 → WfC n
  | 0, _ => fun _ h => absurd h (Nat.not_lt_zero _)
  | n + 1, hn => fun c hc hsm w F a b o cap hA hT => by
    have HI := Lib.hid (fun W (h : SlC W (fun x => F x ∧ x < w.heap.size) a b o c.len cap c) cb hf hcl hW => idxC_any n (by omega) (Lib.hid (wf_any n (by omega))) c hc hsm W _ a b o cap cb h hf hcl hW)
    have HA := Lib.hid hA.here
    have HT := Lib.hid hT
    clear hA hT
    generalize formed c = r at *
    have HCT := Lib.hid (fun W (h : SlC W (fun x => F x ∧ x < w.heap.size) a b o c.len cap c) cb hf hcl hW => show Calls Tryz.prog 66 #[.slice a c.len cap, .func (.func 67) #[] #[.pointer (some ⟨cb, 0, none⟩)]] W (fun e w' => e = .returned (.bool (!r)) ∧ Below W.heap.size W w') from by
      have HQ := Lib.hid (HI.out W h cb hf hcl hW)
      go_enter Tryz.func66, Tryz.ntmps66
      go_wp2_with fail
      refine HQ.out.mono ?_
      rintro e w1 ⟨⟨z, rfl, hz⟩, hb1⟩
      have hz2 : decide (z ≥ 0) = !r := hz
      go_wp2_with fail
      go_ret
      exact ⟨ret_bool (by first | exact hz2 | (simp [← hz2]; done)), hb1⟩)
    clear HI
    go_enter Tryz.func41, Tryz.ntmps41
    go_wp2_with fail
    have HB := Lib.hid (show Below w.heap.size w (w.alloc (.cells #[.func (.func 63) #[] #[]] 84)) from (by repeat (first | with_reducible exact Below.refl _ _ | (with_reducible refine Below.setCell ?_ (by first | exact Nat.le_refl _ | omega | (simp; done) | (simp; omega)) _) | (with_reducible refine Below.alloc ?_ (by first | exact Nat.le_refl _ | omega | (simp; done) | (simp; omega)) _) | with_reducible refine Below.drew ?_ | with_reducible refine bel_drewN ?_ _ | (with_reducible refine bel_by (by with_reducible assumption) (by first | exact Nat.le_refl _ | omega | (simp; done) | (simp; omega)) ?_))))
    refine (HCT.out _ (HA.out.low (fun x hx => hx.2) HB.out) w.heap.size (by simp [go_sem]) (by simp) (HT.out.below HB.out)).mono ?_
    rintro e w1 ⟨rfl, hb1⟩
    have HB1 := Lib.hid (HB.out.trans (Below.mono hb1 HB.out.size))
    clear hb1
    cases r <;>
      (go_wp2_with fail
       go_ret
       exact ⟨rfl, HB1.out⟩)
set_option maxHeartbeats 4000000 in
set_option maxRecDepth 100000 in
theorem check_any (c : Cls) (hc : c.count < 4611686018427387904) (hsm : small c) (w : World) (F : Nat → Prop) (a : Option Addr) (b o cap : Nat) (hA : SlC w F a b o c.len cap c) (hT : Tabs w) :
    Calls Tryz.prog 21 #[.slice a c.len cap] w fun e w' => e = .returned (.int .i64 (checkS c)) ∧ Below w.heap.size w w' := by
  have HW := Lib.hid (fun W (h : SlC W (fun x => F x ∧ x < w.heap.size) a b o c.len cap c) hW => wf_any (c.count + 1) (by omega) c (Nat.lt_succ_self _) hsm W _ a b o cap h hW)
  have HD := Lib.hid (fun W (h : SlC W (fun x => F x ∧ x < w.heap.size) a b o c.len cap c) => depth_any (c.count + 1) (by omega) c (Nat.lt_succ_self _) W _ a b o cap h)
  have HA := Lib.hid hA.here
  have HT := Lib.hid hT
  have hdc := depth_count c
  have HR := Lib.hid (show checkS c = if formed c then (if 8 < c.depth then 6 else 0) else 2 from rfl)
  clear hA hT hsm
  generalize checkS c = r at *
  generalize formed c = f at *
  generalize c.depth = d at *
  go_enter Tryz.func21, Tryz.ntmps21
  go_wp2_with fail
  refine (HW.out _ HA.out HT.out).mono ?_
  rintro e w1 ⟨rfl, hb1⟩
  have HB1 := Lib.hid hb1
  clear hb1
  cases f with
  | false =>
    go_wp2_with fail
    go_ret
    exact ⟨ret_int (by rw [HR.out]; rfl), HB1.out⟩
  | true =>
    go_wp2_with fail
    refine (HD.out _ (HA.out.low (fun x hx => hx.2) HB1.out)).mono ?_
    rintro e w2 ⟨rfl, hb2⟩
    have HB2 := Lib.hid (HB1.out.trans (Below.mono hb2 HB1.out.size))
    clear hb2
    by_cases h8 : 8 < d
    · have e8 : decide ((d : Int) > 8) = true := decide_eq_true (by omega)
      go_wp2_with fail
      go_ret
      exact ⟨ret_int (by rw [HR.out]; simp [h8]), HB2.out⟩
    · have e8 : decide ((d : Int) > 8) = false := decide_eq_false (by omega)
      go_wp2_with fail
      go_ret
      exact ⟨ret_int (by rw [HR.out]; simp [h8]), HB2.out⟩
end Go.Proofs.YtohalocbghhenaaGreatDoor
