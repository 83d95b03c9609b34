/- Plain facts: tokens that are written with something between them are read again; entries that are written token by token. -/
import Derived.Test.YtiofekoadjgjdaaGreatDoorParZ
import Derived.Test.YtiofekoadjgjdaaGreatDoorSpl
import Derived.Test.YtiofekoadjgjdaaGreatDoorTks
import Derived.Test.YtiofekoadjgjdaaGreatDoorTok
import Derived.Test.YtiofekoadjgjdaaGreatDoorSmc
import Derived.Test.YtiofekoadjgjdaaGreatDoorAwk
import Derived.Test.YtiofekoadjgjdaaGreatDoorPrl
import Derived.Test.YtiofekoadjgjdaaGreatDoorEqs
import Derived.Deep.RegionHeld3
set_option linter.unusedSimpArgs false
set_option linter.unusedVariables false
namespace Go.Proofs.YtiofekoadjgjdaaGreatDoor
open Go.RowKit

def sepT (sep : List UInt8) : List Tk → List UInt8
  | [] => []
  | t :: r => spellT t ++ (sep ++ sepT sep r)
/-- what may stand between tokens: it ends each, and it is passed over -/
structure GoodSep (sep : List UInt8) : Prop where
  st : ∀ l, Stops (sep ++ l)
  sk : ∀ l, skN false (sep ++ l) = sep.length + skN false l
theorem good_blank : GoodSep [32] := ⟨fun l c hc => by
  have : c = 32 := by simpa using hc.symm
  rw [this]; decide, fun l => by simp only [List.cons_append, List.nil_append, List.length_cons, List.length_nil]; rw [skN, if_neg (by decide), if_pos (by decide)]; omega⟩
theorem good_line : GoodSep [10] := ⟨fun l c hc => by
  have : c = 10 := by simpa using hc.symm
  rw [this]; decide, fun l => by simp only [List.cons_append, List.nil_append, List.length_cons, List.length_nil]; rw [skN, if_neg (by decide), if_pos (by decide)]; omega⟩
theorem good_two : GoodSep [32, 32] := ⟨fun l c hc => by
  have : c = 32 := by simpa using hc.symm
  rw [this]; decide, fun l => by
    simp only [List.cons_append, List.nil_append, List.length_cons, List.length_nil]
    rw [skN, if_neg (by decide), if_pos (by decide), skN, if_neg (by decide), if_pos (by decide)]; omega⟩
def comB : List UInt8 := [9, 32, 35, 32, 97, 32, 59, 32, 99, 111, 109, 109, 101, 110, 116, 32, 123, 10]
theorem good_comment : GoodSep comB := ⟨fun l c hc => by
  have : c = 9 := by simpa [comB] using hc.symm
  rw [this]; decide, fun l => by
    simp only [comB, List.cons_append, List.nil_append, List.length_cons, List.length_nil]
    rw [skN, if_neg (by decide), if_pos (by decide), skN, if_neg (by decide), if_pos (by decide), skN, if_pos (by decide)]
    simp only [skN, show ((32 : UInt8) != 10) = true by decide, show ((97 : UInt8) != 10) = true by decide, show ((59 : UInt8) != 10) = true by decide, show ((99 : UInt8) != 10) = true by decide, show ((111 : UInt8) != 10) = true by decide,
      show ((109 : UInt8) != 10) = true by decide, show ((101 : UInt8) != 10) = true by decide, show ((110 : UInt8) != 10) = true by decide, show ((116 : UInt8) != 10) = true by decide, show ((123 : UInt8) != 10) = true by decide, show ((10 : UInt8) != 10) = false by decide]
    omega⟩
theorem lexR_sep {sep : List UInt8} (hg : GoodSep sep) : ∀ (ts : List Tk) (f p : Nat), (∀ t ∈ ts, validT t = true ∧ t.k ≠ 5) → (sepT sep ts).length < f → (lexR f (sepT sep ts) p).2 = (0, 0) ∧ (lexR f (sepT sep ts) p).1.map zeroA = ts.map zeroA ++ [endT]
  | _, 0, _, _, h => by omega
  | [], f + 1, p, _, _ => by
    have e : firstL [] p = (⟨5, bs [], 0, (p : Int)⟩, p, 0, 0) := rfl
    show (lexR (f + 1) [] p).2 = (0, 0) ∧ (lexR (f + 1) [] p).1.map zeroA = _
    unfold lexR
    rw [e]
    exact ⟨rfl, rfl⟩
  | t :: r, f + 1, p, hv, h => by
    obtain ⟨h1, h2⟩ := hv t (by simp)
    have hst : Stops (sep ++ sepT sep r) := hg.st _
    have hf := first_spell t h1 h2 _ hst p
    obtain ⟨_, c, l, hc, _⟩ := readL_spell t h1 h2 _ hst
    have hl1 : 1 ≤ (spellT t).length := by rw [hc]; simp
    simp only [sepT, List.length_append] at h
    show (lexR (f + 1) (spellT t ++ (sep ++ sepT sep r)) p).2 = (0, 0) ∧ (lexR (f + 1) (spellT t ++ (sep ++ sepT sep r)) p).1.map zeroA = _
    unfold lexR
    rw [hf]
    simp only [if_true]
    rw [if_neg h2, Nat.add_sub_cancel_left, List.drop_left]
    have hs := lexR_skip f (sep ++ sepT sep r) (p + (spellT t).length) sep.length (by rw [hg.sk, List.drop_left])
    rw [List.drop_left] at hs
    rw [hs]
    have hr := lexR_sep hg r f (p + (spellT t).length + sep.length) (fun u hu => hv u (by simp [hu])) (by omega)
    refine ⟨hr.1, ?_⟩
    simp only [List.map_cons, hr.2, List.cons_append]
    rfl
theorem toks_valid : ∀ (c : Cls), formed c = true → ∀ t ∈ toksC c, validT t = true ∧ t.k ≠ 5
  | .nil, _, t, ht => by simp [toksC] at ht
  | .cons w xs b k a r, h, t, ht => by
    simp only [formed, Bool.and_eq_true] at h
    obtain ⟨⟨⟨⟨f1, f2⟩, f3⟩, f4⟩, f5⟩ := h
    simp only [toksC, List.mem_cons, List.mem_append] at ht
    rcases ht with rfl | ht | ht | ht
    · exact ⟨f1, by simp⟩
    · have := List.all_eq_true.1 f2 t ht
      rw [Bool.and_eq_true] at this
      refine ⟨this.1, fun e => ?_⟩
      have h2 := this.2
      simp [atmB, e] at h2
    · cases b with
      | false =>
        simp only [Bool.false_eq_true, if_false, List.mem_singleton] at ht
        subst ht
        exact ⟨by decide, by decide⟩
      | true =>
        simp only [if_true, List.mem_cons, List.mem_append, List.not_mem_nil, or_false] at ht
        rcases ht with rfl | ht | rfl
        · exact ⟨by decide, by decide⟩
        · exact toks_valid k f4 t ht
        · exact ⟨by decide, by decide⟩
    · exact toks_valid r f5 t ht
/-- ENTRIES WRITTEN TOKEN BY TOKEN ARE READ AGAIN -/
theorem parS_spelled {sep : List UInt8} (hg : GoodSep sep) {c : Cls} (hf : formed c = true) (hd : c.depth ≤ 8) (hl : (sepT sep (toksC c)).length ≤ 65536) :
    ∃ c', parS (bs (sepT sep (toksC c))) = (c', 0, 0) ∧ c'.zero = c.zero := by
  have hsz : (bs (sepT sep (toksC c))).size = (sepT sep (toksC c)).length := by simp [bs, ByteArray.size]
  have hx := lexR_sep hg (toksC c) ((sepT sep (toksC c)).length + 1) 0 (toks_valid c hf) (Nat.lt_succ_self _)
  have hL : lexS (bs (sepT sep (toksC c))) = lexR ((sepT sep (toksC c)).length + 1) (sepT sep (toksC c)) 0 := by
    unfold lexS
    rw [if_neg (by rw [hsz]; omega), hsz, bs_data, if_pos (by rw [hx.1])]
  generalize lexR ((sepT sep (toksC c)).length + 1) (sepT sep (toksC c)) 0 = R at *
  obtain ⟨L, q⟩ := R
  obtain ⟨h1, h2⟩ := hx
  simp only at h1 h2
  subst h1
  obtain ⟨As, E, rfl, hA, hE⟩ := List.map_eq_append_iff.1 h2
  obtain ⟨x, E2, rfl, hx, hE2⟩ := List.map_eq_cons_iff.1 hE
  obtain rfl : E2 = [] := by simpa using hE2
  have hx5 : x.k = 5 := by have := (zeroA_k (x := x) (y := endT) (by rw [hx]; rfl)).1; exact this
  obtain ⟨c', p1, p2⟩ := parL_spelled c 0 hf (by omega) As x [] ((As ++ [x]).length + 1) hA (by unfold endsB; rw [if_pos rfl, hx5]; rfl) (Nat.lt_succ_self _)
  refine ⟨c', ?_, p2⟩
  unfold parS
  rw [hL, if_pos rfl]
  simp only
  rw [p1]
end Go.Proofs.YtiofekoadjgjdaaGreatDoor
/- Contract of layer 10: spelled, of tokens that have a spelling. -/
namespace Go.Proofs.YtiofekoadjgjdaaGreatDoor
open Go.RowKit

theorem sepT_snoc (sep : List UInt8) : ∀ (L : List Tk) (t : Tk), sepT sep (L ++ [t]) = sepT sep L ++ (spellT t ++ sep)
  | [], t => by simp [sepT]
  | u :: r, t => by simp [sepT, sepT_snoc sep r t]
theorem sepT_take (sep : List UInt8) {L : List Tk} {k : Nat} (h : k < L.length) : sepT sep (L.take (k + 1)) = sepT sep (L.take k) ++ (spellT (L[k]'h) ++ sep) := by
  rw [List.take_succ_eq_append_getElem h, sepT_snoc]
theorem sepT_len (sep : List UInt8) (hs : sep.length ≤ 58) : ∀ (L : List Tk), (∀ t ∈ L, validT t = true) → (sepT sep L).length ≤ L.length * 100
  | [], _ => by simp [sepT]
  | t :: r, h => by
    have ih := sepT_len sep hs r (fun u hu => h u (by simp [hu]))
    have := spell_len t (h t (by simp))
    simp only [sepT, List.length_append, List.length_cons]
    omega
set_option maxHeartbeats 4000000 in
set_option maxRecDepth 100000 in
theorem spelled_any {w : World} {a : Option Addr} {b o n c : Nat} {L : List Tk} {sp : ByteArray} (hA : SlT w a b o n c L) (hn : n ≤ 1000) (hv : ∀ t ∈ L, validT t = true) (hsp : sp.size ≤ 58) (hT : Tabs w) :
    Calls Tryz.prog 11 #[.slice a n c, .string sp] w fun e w' => e = .returned (.tuple #[.string (bs (sepT sp.data.toList L)), .bool true]) ∧ Below w.heap.size w w' := by
  have HL := Lib.hid hA.hl
  have HA := Lib.hid hA
  have HT := Lib.hid hT
  have hsl : sp.data.toList.length ≤ 58 := by rw [list_size]; exact hsp
  have HSP := Lib.hid (fun (t : Tk) (ht : t ∈ L) (W : World) hW => show Calls Tryz.prog 24 #[t.val] W fun e w' => e = .returned (.tuple #[.string (bs (spellT t)), .int .i64 0]) ∧ Below W.heap.size W w' from by
    have h1 := hv t ht
    have h2 := valid_short t h1
    have h3 := spell_any t (by omega) W hW
    unfold spellS at h3
    rw [if_pos h1] at h3
    exact h3)
  have HTK := Lib.hid (fun (k : Nat) (h : k < L.length) => show bs (sepT sp.data.toList (L.take k)) ++ (bs (spellT (L[k]'h)) ++ sp) = bs (sepT sp.data.toList (L.take (k + 1))) by
    apply bs_inj
    rw [sepT_take _ h, bs_data]
    unfold bs
    simp)
  have HLE := Lib.hid (fun (k : Nat) (h : k ≤ n) => show (bs (sepT sp.data.toList (L.take k))).size ≤ 100000 by
    rw [bs_size]
    have := sepT_len sp.data.toList hsl (L.take k) (fun t ht => hv t (List.mem_of_mem_take ht))
    rw [List.length_take] at this
    omega)
  have HSL := Lib.hid (fun (t : Tk) (ht : t ∈ L) => show (bs (spellT t)).size ≤ 42 by
    rw [bs_size]; exact spell_len t (hv t ht))
  have HEND := Lib.hid (show bs (sepT sp.data.toList (L.take n)) = bs (sepT sp.data.toList L) by rw [List.take_of_length_le (by rw [hA.hl]; exact Nat.le_refl _)])
  have HST := Lib.hid (show bs (sepT sp.data.toList (L.take 0)) = ⟨#[]⟩ from rfl)
  have hcp := hA.hcap
  have hmx := hA.hmax
  unfold maxLen at hmx
  generalize bs (sepT sp.data.toList L) = R at *
  generalize hG : (fun k => bs (sepT sp.data.toList (L.take k))) = G
  have HTK2 := Lib.hid (fun (k : Nat) (h : k < L.length) => show G k ++ (bs (spellT (L[k]'h)) ++ sp) = G (k + 1) by rw [← hG]; exact HTK.out k h)
  have HLE2 := Lib.hid (fun (k : Nat) (h : k ≤ n) => show (G k).size ≤ 100000 by rw [← hG]; exact HLE.out k h)
  have HEND2 := Lib.hid (show G n = R by rw [← hG]; exact HEND.out)
  have HST2 := Lib.hid (show G 0 = ⟨#[]⟩ by rw [← hG]; exact HST.out)
  clear hA hT hv hG HTK HLE HEND HST hsl
  go_enter Tryz.func11, Tryz.ntmps11
  go_wp2_with fail
  go_loopw [6, 7] (fun s6 s7 wr => ∃ (k : Nat), k ≤ n ∧ s7 = .int .i64 (k : Int) ∧ s6 = .string (G k) ∧ Hid (Below w.heap.size w wr)) (fun _ s7 _ => (n - (intOf s7)).toNat)
  case atStart => exact ⟨0, Nat.zero_le _, rfl, by rw [HST2.out], Lib.hid (Below.refl _ _)⟩
  case round =>
    obtain ⟨k, hk, rfl, rfl, HB⟩ := hrel
    by_cases hlt : k < n
    · have hl : (k : Int) < (n : Int) := by omega
      have hkL : k < L.length := by rw [HL.out]; exact hlt
      have SA := HA.out.keep HB.out
      obtain rfl := SA.ha (by omega)
      have ba := SA.hb (by omega)
      have ca0 := SA.c0 k hkL
      have ca1 := SA.c1 k hkL
      have ca2 := SA.c2 k hkL
      have ca3 := SA.c3 k hkL
      have hg1 := HLE2.out k (by omega)
      have hg2 := HSL.out (L[k]'hkL) (List.getElem_mem hkL)
      have HNX := Lib.hid (HTK2.out k hkL)
      have HCK := Lib.hid (HSP.out (L[k]'hkL) (List.getElem_mem hkL))
      clear SA HSP HSL HLE2 HTK2
      generalize L[k]'hkL = x at *
      generalize bs (spellT x) = X at *
      generalize hGk : G k = Gk at *
      obtain ⟨xk, xt, xn, xa⟩ := x
      simp only [Tk.val] at ca0 ca1 ca2 ca3 HCK
      go_wp2_with fail
      refine (HCK.out _ (HT.out.below HB.out)).mono ?_
      rintro e w1 ⟨rfl, hb1⟩
      have HB1 := Lib.hid (bel_by hb1 HB.out.size HB.out)
      clear hb1 ca0 ca1 ca2 ca3 HCK
      go_wp2_with fail
      go_roundw
      case rel => exact ⟨k + 1, by omega, by go_num, by rw [← HNX.out], HB1⟩
      case measure => simp [intOf]; omega
    · have hl : ¬ (k : Int) < (n : Int) := by omega
      obtain rfl : k = n := by omega
      have he := HEND2.out
      generalize G k = Gk at *
      subst he
      clear HSP HSL HLE2 HTK2
      go_wp2_with fail
      go_ret2
      exact ⟨rfl, HB.out⟩
end Go.Proofs.YtiofekoadjgjdaaGreatDoor
/- Contracts of layer 10's reference: room, Small. -/
namespace Go.Proofs.YtiofekoadjgjdaaGreatDoor
open Go.RowKit

/-- no block is barred -/
def AllB : Nat → Prop := fun _ => True
/-- what is left of so much room behind entries -/
def roomS : Cls → Int → Int
  | .nil, m => m
  | .cons w xs _ k _ r, m => if m < 0 then m else if m - 1 < (xs.length : Int) then -1 else if 200 < w.size then -1 else if xs.all (fun t => decide (t.t.size ≤ 200)) = false then -1 else roomS r (roomS k (m - (1 + (xs.length : Int))))
theorem roomS_neg {c : Cls} {m : Int} (h : m < 0) : roomS c m = m := by
  cases c with
  | nil => rfl
  | cons w xs b k a r => rw [roomS, if_pos h]
theorem roomS_le : ∀ (c : Cls) (m : Int), -1 ≤ m → -1 ≤ roomS c m ∧ roomS c m ≤ m
  | .nil, m, h => ⟨h, Int.le_refl _⟩
  | .cons w xs b k a r, m, h => by
    rw [roomS]
    split
    · exact ⟨h, Int.le_refl _⟩
    · split
      · exact ⟨by omega, by omega⟩
      · split
        · exact ⟨by omega, by omega⟩
        · split
          · exact ⟨by omega, by omega⟩
          · obtain ⟨h1, h2⟩ := roomS_le k (m - (1 + (xs.length : Int))) (by omega)
            obtain ⟨h3, h4⟩ := roomS_le r _ h1
            exact ⟨h3, by omega⟩
theorem roomS_ok : ∀ (c : Cls) (m : Int), 0 ≤ roomS c m → ((toksC c).length : Int) + 3 * roomS c m ≤ 3 * m ∧ (c.count : Int) + roomS c m ≤ m ∧ small c
  | .nil, m, h => ⟨by simp [toksC, roomS], by simp [Cls.count, roomS], trivial⟩
  | .cons w xs b k a r, m, h => by
    rw [roomS] at h ⊢
    split at h
    · omega
    · rename_i h0
      split at h
      · omega
      · rename_i h1
        split at h
        · omega
        · rename_i h2
          split at h
          · omega
          · rename_i h3
            rw [if_neg h0, if_neg h1, if_neg h2, if_neg h3]
            obtain ⟨r1, r2, r3⟩ := roomS_ok r _ h
            have hk0 : 0 ≤ roomS k (m - (1 + (xs.length : Int))) := by
              by_cases hh : 0 ≤ roomS k (m - (1 + (xs.length : Int)))
              · exact hh
              · rw [roomS_neg (by omega)] at h
                omega
            obtain ⟨k1, k2, k3⟩ := roomS_ok k _ hk0
            have hxs : ∀ t ∈ xs, t.t.size ≤ 1000000000 := by
              intro t ht
              have h4 : xs.all (fun t => decide (t.t.size ≤ 200)) = true := by simpa using h3
              have := List.all_eq_true.1 h4 t ht
              simp at this
              omega
            refine ⟨?_, ?_, by omega, hxs, k3, r3⟩
            · simp only [toksC, List.length_cons, List.length_append]
              have : (((if b = true then (⟨4, bs [123], 0, 0⟩ : Tk) :: (toksC k ++ [⟨4, bs [125], 0, 0⟩]) else [⟨4, bs [59], 0, 0⟩]).length : Nat) : Int) ≤ (toksC k).length + 2 := by
                split
                · simp; omega
                · simp; omega
              omega
            · simp only [Cls.count]
              omega
def RoomC (n : Nat) : Prop := ∀ (c : Cls), c.count < n → ∀ (m : Int), -1 ≤ m → m ≤ 1000000 → ∀ (w : World) (F : Nat → Prop) (a : Option Addr) (b o cap : Nat), SlC w F a b o c.len cap c →
    Calls Tryz.prog 22 #[.slice a c.len cap, .int .i64 m] w fun e w' => e = .returned (.int .i64 (roomS c m)) ∧ w = w'
set_option maxHeartbeats 8000000 in
set_option maxRecDepth 100000 in
theorem room_any : ∀ n : Nat, RoomC n
  | 0 => fun _ h => absurd h (Nat.not_lt_zero _)
  | n + 1 => fun c hc m hm1 hm2 w F a b o cap hA => by
    have IH := Lib.hid (room_any n)
    have HA := Lib.hid hA
    have HM := Lib.hid (fun i wd xs bl k a r => @drop_count c i wd xs bl k a r)
    have HN := Lib.hid (fun i wd xs bl k a r => @drop_next c i wd xs bl k a r)
    have HE := Lib.hid (drop_all c)
    have HR0 := Lib.hid (show roomS c m = roomS (c.drop 0) m by cases c <;> rfl)
    have hcp := hA.2.1
    have hmx := hA.2.2.1
    unfold maxLen at hmx
    obtain ⟨l, hl⟩ : ∃ l, c.len = l := ⟨_, rfl⟩
    obtain ⟨R, hR⟩ : ∃ R, roomS c m = R := ⟨_, rfl⟩
    rw [hl] at HA HE hcp ⊢
    rw [hR] at HR0 ⊢
    have HLN := Lib.hid hl
    clear hA hl hR
    go_enter Tryz.func22, Tryz.ntmps22
    go_wp2_with fail
    go_loopw [1, 5] (fun s1 s5 wr => ∃ (i : Nat) (q : Int), i ≤ l ∧ s5 = .int .i64 (i : Int) ∧ s1 = .int .i64 q ∧ -1 ≤ q ∧ q ≤ 1000000 ∧ Hid (R = roomS (c.drop i) q) ∧ w = wr) (fun _ s5 _ => (l - (intOf s5)).toNat)
    case atStart => exact ⟨0, m, Nat.zero_le _, rfl, rfl, hm1, hm2, HR0, rfl⟩
    case round =>
      obtain ⟨i, q, hi', rfl, rfl, hq1, hq2, HR, rfl⟩ := hrel
      clear HR0
      by_cases hlt : i < l
      · have hlz : (i : Int) < (l : Int) := by omega
        obtain ⟨rfl, bb, _⟩ := HA.out.2.2.2.1 (by omega)
        by_cases hq0 : q < 0
        · have j1 : ¬ (0 : Int) ≤ q := by omega
          have j2 : ¬ (q ≥ 0) := by omega
          have j3 : decide (q ≥ 0) = false := decide_eq_false j2
          have hr := HR.out
          rw [roomS_neg hq0] at hr
          subst hr
          go_wp2_with fail
          go_ret
          exact ⟨rfl, rfl⟩
        · have j1 : (0 : Int) ≤ q := by omega
          have j2 : q ≥ 0 := by omega
          have j3 : decide (q ≥ 0) = true := decide_eq_true j2
          obtain ⟨wd, xs, bl, kd, av, r, aa, xb, oa, la, ca, ak, bk, ok, ck, hd, e0, e1, e2, e3, e4, SX, _, SK⟩ := AtC.get i (by rw [HLN.out]; exact hlt) HA.out.2.2.2.2
          have hkc := HM.out _ _ _ _ _ _ _ hd
          have HNX := Lib.hid (HN.out _ _ _ _ _ _ _ hd)
          have hr := HR.out
          rw [hd, roomS, if_neg hq0] at hr
          have hxl := SX.hl
          subst hxl
          have HSX := Lib.hid SX
          have HSK := Lib.hid SK
          have hxm := SX.hcap
          have hxx := SX.hmax
          unfold maxLen at hxx
          clear SX SK hd HR e2 e4
          by_cases h1 : q - 1 < (xs.length : Int)
          · rw [if_pos h1] at hr
            subst hr
            have j4 : decide ((xs.length : Int) > q - 1) = true := decide_eq_true h1
            go_wp2_with fail
            go_ret
            exact ⟨rfl, rfl⟩
          · rw [if_neg h1] at hr
            have j4 : decide ((xs.length : Int) > q - 1) = false := decide_eq_false h1
            have j5 : ¬ ((xs.length : Int) > q - 1) := h1
            by_cases h2 : 200 < wd.size
            · rw [if_pos h2] at hr
              subst hr
              have j6 : decide ((wd.size : Int) > 200) = true := decide_eq_true (by omega)
              have j7 : decide (200 < wd.size) = true := decide_eq_true h2
              go_wp2_with fail
              go_ret
              exact ⟨rfl, rfl⟩
            · rw [if_neg h2] at hr
              have HRR := Lib.hid hr
              have j6 : decide ((wd.size : Int) > 200) = false := decide_eq_false (by omega)
              have j7 : decide (200 < wd.size) = false := decide_eq_false h2
              have HBAD := Lib.hid (fun (j : Nat) (h : j < xs.length) (hh : 200 < (xs[j]'h).t.size) => show xs.all (fun t => decide (t.t.size ≤ 200)) = false by
                rw [← Bool.not_eq_true, List.all_eq_true]
                intro hall
                have := hall _ (List.getElem_mem h)
                simp at this
                omega)
              clear hr
              go_wp2_with fail
              clear e0
              go_loopw [6] (fun s6 wi => ∃ j : Nat, j ≤ xs.length ∧ s6 = .int .i64 (j : Int) ∧ Hid (∀ (k : Nat) (h : k < xs.length), k < j → (xs[k]'h).t.size ≤ 200) ∧ w = wi) (fun s6 _ => (xs.length - (intOf s6)).toNat)
              case atStart => exact ⟨0, Nat.zero_le _, rfl, Lib.hid (fun k h hk => absurd hk (Nat.not_lt_zero _)), rfl⟩
              case round =>
                obtain ⟨j, hj, rfl, HJ, rfl⟩ := hrel
                by_cases hlj : j < xs.length
                · have hljz : (j : Int) < (xs.length : Int) := by omega
                  obtain rfl := HSX.out.ha (by omega)
                  have bbx := HSX.out.hb (by omega)
                  have q1 := HSX.out.c1 j hlj
                  by_cases h3 : 200 < (xs[j]'hlj).t.size
                  · have hb3 := HBAD.out j hlj h3
                    have hr := HRR.out
                    rw [if_pos hb3] at hr
                    subst hr
                    have j8 : decide (((xs[j]'hlj).t.size : Int) > 200) = true := decide_eq_true (by omega)
                    generalize (xs[j]'hlj).t = tx at *
                    clear HBAD HJ hb3
                    go_wp2_with fail
                    go_ret
                    exact ⟨rfl, rfl⟩
                  · have j8 : decide (((xs[j]'hlj).t.size : Int) > 200) = false := decide_eq_false (by omega)
                    have j9 : ¬ (((xs[j]'hlj).t.size : Int) > 200) := by omega
                    have HJ2 := Lib.hid (show ∀ (k : Nat) (h : k < xs.length), k < j + 1 → (xs[k]'h).t.size ≤ 200 from fun k h hk => by
                      by_cases hkj : k = j
                      · subst hkj; omega
                      · exact HJ.out k h (by omega))
                    generalize (xs[j]'hlj).t = tx at *
                    clear HBAD HJ
                    go_wp2_with fail
                    go_roundw
                    case rel => exact ⟨j + 1, by omega, by go_num, HJ2, trivial⟩
                    case measure => simp [intOf]; omega
                · have hljz : ¬ (j : Int) < (xs.length : Int) := by omega
                  obtain rfl : j = xs.length := by omega
                  have hr := HRR.out
                  rw [if_neg (show ¬ xs.all (fun t => decide (t.t.size ≤ 200)) = false by
                    rw [Bool.not_eq_false, List.all_eq_true]
                    intro t ht
                    obtain ⟨k, hk, rfl⟩ := List.getElem_of_mem ht
                    simpa using HJ.out k hk hk)] at hr
                  obtain ⟨p1, p2⟩ := roomS_le kd (q - (1 + (xs.length : Int))) (by omega)
                  have HC := Lib.hid (IH.out kd (by omega) (q - (1 + (xs.length : Int))) (by omega) (by omega) w F ak bk ok ck HSK.out)
                  generalize roomS kd (q - (1 + (xs.length : Int))) = z at *
                  have HZ := Lib.hid hr
                  generalize kd.len = y at *
                  clear hr HBAD HJ HRR IH HSX HSK HM HN
                  go_wp2_with fail
                  refine HC.out.mono ?_
                  rintro e w2 ⟨rfl, rfl⟩
                  go_wp2_with fail
                  go_roundw
                  case rel => exact ⟨i + 1, z, by omega, by go_num, rfl, by omega, by omega, Lib.hid (by rw [HNX.out]; exact HZ.out), trivial⟩
                  case measure => simp [intOf]; omega
      · have hlz : ¬ (i : Int) < (l : Int) := by omega
        obtain rfl : i = l := by omega
        have hr := HR.out
        rw [HE.out] at hr
        have hr2 : R = q := hr
        subst hr2
        clear HA HN HE HR hr
        go_wp2_with fail
        go_ret
        exact ⟨rfl, rfl⟩
theorem small_any {c : Cls} {m : Int} (hm1 : 0 ≤ m) (hm2 : m ≤ 1000000) {w : World} {F : Nat → Prop} {a : Option Addr} {b o cap : Nat} (hA : SlC w F a b o c.len cap c) :
    Calls Tryz.prog 9 #[.slice a c.len cap, .int .i64 m] w fun e w' => e = .returned (.bool (decide (0 ≤ roomS c m))) ∧ w = w' := by
  have HC := Lib.hid (room_any (c.count + 1) c (Nat.lt_succ_self _) m (by omega) hm2 w F a b o cap hA)
  generalize roomS c m = z at *
  generalize c.len = y at *
  clear hA
  go_enter Tryz.func9, Tryz.ntmps9
  go_wp2_with fail
  refine HC.out.mono ?_
  rintro e w2 ⟨rfl, rfl⟩
  go_wp2_with fail
  go_ret
  exact ⟨rfl, rfl⟩
end Go.Proofs.YtiofekoadjgjdaaGreatDoor
/- The law of entries that are written token by token: for every slice of entries and every number of what stands between. -/
namespace Go.Proofs.YtiofekoadjgjdaaGreatDoor
open Go.RowKit

/-- what stands between tokens, by its number -/
def betw : Nat → ByteArray
  | 0 => ⟨#[32]⟩
  | 1 => ⟨#[10]⟩
  | 2 => ⟨#[9, 32, 35, 32, 97, 32, 59, 32, 99, 111, 109, 109, 101, 110, 116, 32, 123, 10]⟩
  | _ => ⟨#[32, 32]⟩
theorem betw_good (k : Nat) : GoodSep (betw k).data.toList ∧ (betw k).size ≤ 58 := by
  unfold betw
  split
  · exact ⟨good_blank, by decide⟩
  · exact ⟨good_line, by decide⟩
  · exact ⟨good_comment, by decide⟩
  · exact ⟨good_two, by decide⟩
theorem betw_cell (w : World) (T : TypeId) (k : Nat) (hk : k < 4) : (w.alloc (.cells #[.string ⟨#[32]⟩, .string ⟨#[10]⟩, .string ⟨#[9, 32, 35, 32, 97, 32, 59, 32, 99, 111, 109, 109, 101, 110, 116, 32, 123, 10]⟩, .string ⟨#[32, 32]⟩] T)).cell? ⟨w.heap.size, k, none⟩ = some (.string (betw k)) := by
  match k, hk with
  | 0, _ => simp [go_sem, betw]
  | 1, _ => simp [go_sem, betw]
  | 2, _ => simp [go_sem, betw]
  | 3, _ => simp [go_sem, betw]
set_option maxHeartbeats 8000000 in
set_option maxRecDepth 100000 in
theorem spelled_walk {c : Cls} {a : Option Addr} {b o cap : Nat} {u : Int} (hu0 : 0 ≤ u) (hu1 : u ≤ 255) {w : World} (hA : SlC w AllB a b o c.len cap c) (hT : Tabs w) :
    Calls Tryz.prog 4 #[.slice a c.len cap, .int .u8 u] w fun e w' => e = .returned (.bool true) ∧ Below w.heap.size w w' := by
  have HW := Lib.hid (awake_any w hT)
  have HA := Lib.hid hA.here
  have HT := Lib.hid hT
  have HSL := Lib.hid (fun W (hB : Below w.heap.size w W) => SlC.low (w' := W) hA.here (fun x hx => hx.2) hB)
  have HSM := Lib.hid (fun W (hB : Below w.heap.size w W) => small_any (c := c) (m := 100) (by omega) (by omega) (HSL.out W hB))
  cases hr : decide (0 ≤ roomS c 100) with
  | false =>
    rw [hr] at HSM
    generalize c.len = y at *
    clear hA hT HA HSL hr
    go_enter Tryz.func4, Tryz.ntmps4
    go_wp2_with fail
    refine HW.out.mono ?_
    rintro e w1 ⟨rfl, hb1⟩
    have HB1 := Lib.hid hb1
    clear hb1 HW
    go_wp2_with fail
    refine (HSM.out _ HB1.out).mono ?_
    rintro e w2 ⟨rfl, rfl⟩
    go_wp2_with fail
    go_ret
    exact ⟨rfl, HB1.out⟩
  | true =>
    obtain ⟨r1, r2, r3⟩ := roomS_ok c 100 (of_decide_eq_true hr)
    have r0 : 0 ≤ roomS c 100 := of_decide_eq_true hr
    have htl : (toksC c).length ≤ 300 := by omega
    have hcn : c.count ≤ 100 := by omega
    rw [hr] at HSM
    have HCK := Lib.hid (fun W (hB : Below w.heap.size w W) hW => check_any c (by omega) r3 W _ a b o cap (HSL.out W hB) hW)
    by_cases hck : checkS c = 0
    · have hfd : formed c = true ∧ c.depth ≤ 8 := by
        unfold checkS at hck
        split at hck
        · rename_i h1
          split at hck
          · exact absurd hck (by decide)
          · exact ⟨h1, by omega⟩
        · exact absurd hck (by decide)
      rw [hck] at HCK
      have hkm : u.tmod 4 = ((u.toNat % 4 : Nat) : Int) := by rw [Int.tmod_eq_emod_of_nonneg hu0]; omega
      obtain ⟨k, hk⟩ : ∃ k, u.toNat % 4 = k := ⟨_, rfl⟩
      have hk4 : k < 4 := by omega
      rw [hk] at hkm
      have hku : IntKind.u8.wrap (u.tmod 4) = (k : Int) := by
        rw [hkm]
        have h4 : k = 0 ∨ k = 1 ∨ k = 2 ∨ k = 3 := by omega
        rcases h4 with rfl | rfl | rfl | rfl <;> rfl
      have hku2 : IntKind.u8.wrap (k : Int) = (k : Int) := by
        have h4 : k = 0 ∨ k = 1 ∨ k = 2 ∨ k = 3 := by omega
        rcases h4 with rfl | rfl | rfl | rfl <;> rfl
      obtain ⟨hgs, hgl⟩ := betw_good k
      have HTO := Lib.hid (fun W (hB : Below w.heap.size w W) => tok_any (c.count + 1) (by omega) c (Nat.lt_succ_self _) (by omega) W _ a b o cap (HSL.out W hB))
      have HSP := Lib.hid (fun W v B (ho : W.ownsRow B 51 4 v (toksC c).length (flatT (toksC c))) hW => show Calls Tryz.prog 11 #[v, .string (betw k)] W (fun e w' => e = .returned (.tuple #[.string (bs (sepT (betw k).data.toList (toksC c))), .bool true]) ∧ Below W.heap.size W w') from by
        obtain ⟨a4, b4, c4, rfl, sl4⟩ := slt_own ho
        exact spelled_any sl4 (by omega) (fun t ht => (toks_valid c hfd.1 t ht).1) hgl hW)
      have HPS := Lib.hid (fun (h : (bs (sepT (betw k).data.toList (toksC c))).size ≤ 65536) => parS_spelled hgs hfd.1 hfd.2 (by rw [bs_size] at h; exact h))
      have HPA := Lib.hid (fun W hW => parl_any (bs (sepT (betw k).data.toList (toksC c))) W hW)
      have HSZ := Lib.hid (show (bs (sepT (betw k).data.toList (toksC c))).size ≤ 30000 by
        rw [bs_size]
        have := sepT_len (betw k).data.toList (by rw [list_size]; exact hgl) (toksC c) (fun t ht => (toks_valid c hfd.1 t ht).1)
        omega)
      have HSA := Lib.hid (fun d W (hB : Below w.heap.size w W) F a' b' o' cap' (h : SlC W F a' b' o' d.len cap' d) (hz : d.zero = c.zero) (hcd : d.count < 4611686018427387904) => show Calls Tryz.prog 13 #[.slice a' d.len cap', .slice a c.len cap] W (fun e w' => e = .returned (.bool true) ∧ Below W.heap.size W w') from by
        have h1 := same_any (d.count + 1) (by omega) d c (Nat.lt_succ_self _) (by have := kidsN_le c 0; omega) W _ _ a' a b' o' cap' b o cap h (HSL.out W hB)
        rw [hz, decide_eq_true rfl] at h1
        exact h1)
      have HCZ := Lib.hid (fun (d : Cls) (hz : d.zero = c.zero) => show d.count < 4611686018427387904 by
        have := Cls.count_zero d
        have h2 := Cls.count_zero c
        rw [hz] at this
        omega)
      generalize bs (sepT (betw k).data.toList (toksC c)) = S at *
      have hSz := HSZ.out
      have g1 : ¬ ((S.size : Int) > 65536) := by omega
      have g2 : decide ((S.size : Int) > 65536) = false := decide_eq_false g1
      have HBC := Lib.hid (fun W T => betw_cell W T k hk4)
      generalize betw k = sp at *
      generalize toksC c = TK at *
      obtain ⟨y, hy⟩ : ∃ y, c.len = y := ⟨_, rfl⟩
      simp only [hy] at HSM HCK HTO HSA ⊢
      clear hA hT HA HSL hr hck hfd r0 r1 r2 r3 hgs hcn htl HSZ hk hy
      go_enter Tryz.func4, Tryz.ntmps4
      go_wp2_with fail
      refine HW.out.mono ?_
      rintro e w1 ⟨rfl, hb1⟩
      have HB1 := Lib.hid hb1
      clear hb1 HW
      go_wp2_with fail
      refine (HSM.out _ HB1.out).mono ?_
      rintro e w2 ⟨rfl, rfl⟩
      go_wp2_with fail
      refine (HCK.out _ HB1.out (HT.out.below HB1.out)).mono ?_
      rintro e w2 ⟨rfl, hb2⟩
      have HB2 := Lib.hid (HB1.out.trans (Below.mono hb2 HB1.out.size))
      clear hb2 HB1 HSM HCK
      have hbs2 := HB2.out.size
      have HB3 := Lib.hid (HB2.out.alloc hbs2 (.cells #[.string ⟨#[32]⟩, .string ⟨#[10]⟩, .string ⟨#[9, 32, 35, 32, 97, 32, 59, 32, 99, 111, 109, 109, 101, 110, 116, 32, 123, 10]⟩, .string ⟨#[32, 32]⟩] 9))
      have c0 := HBC.out w2 9
      have hsz3 : (w2.alloc (.cells #[.string ⟨#[32]⟩, .string ⟨#[10]⟩, .string ⟨#[9, 32, 35, 32, 97, 32, 59, 32, 99, 111, 109, 109, 101, 110, 116, 32, 123, 10]⟩, .string ⟨#[32, 32]⟩] 9)).heap.size = w2.heap.size + 1 := by simp
      go_wp2_with fail
      obtain ⟨sb, hsb⟩ : ∃ sb, w2.heap.size = sb := ⟨_, rfl⟩
      rw [hsb] at c0 hsz3 ⊢
      generalize w2.alloc (.cells #[.string ⟨#[32]⟩, .string ⟨#[10]⟩, .string ⟨#[9, 32, 35, 32, 97, 32, 59, 32, 99, 111, 109, 109, 101, 110, 116, 32, 123, 10]⟩, .string ⟨#[32, 32]⟩] 9) = w3 at *
      have hs3 : w.heap.size ≤ w3.heap.size := HB3.out.size
      have hk4i : (k : Int) < 4 := by omega
      clear HBC HB2 hbs2
      go_wp2_with fail
      go_cut [6, 7] (fun s6 s7 wx => s6 = .string S ∧ s7 = .bool true ∧ Hid (Below w3.heap.size w3 wx))
      case first =>
        have hBB : Below w3.heap.size w3 w3 := Below.refl _ _
        go_region_held3 (fun w' => w'.cell? ⟨sb, k, none⟩ = some (.string sp))
          ((first | (simp [go_sem, c0]; done)))
          (first
            | (go_at_call 12; (refine (HTO.out _ ?tab).mono ?_); (case tab => exact HB3.out.trans (Below.mono (B := w3.heap.size) (by repeat (first | with_reducible exact Below.refl _ _ | (with_reducible refine Below.setCell ?_ (by first | exact Nat.le_refl _ | omega | (simp; done) | (simp; omega)) _) | (with_reducible refine Below.alloc ?_ (by first | exact Nat.le_refl _ | omega | (simp; done) | (simp; omega)) _) | with_reducible refine Below.drew ?_ | with_reducible refine bel_drewN ?_ _ | (with_reducible refine bel_by (by with_reducible assumption) (by first | exact Nat.le_refl _ | omega | (simp; done) | (simp; omega)) ?_))) hs3)); rintro e v1 ⟨tv, rfl, ho, hb⟩; (repeat (with_reducible replace hb := undrew hb)); have c0 := (hb.cell (p := ⟨sb, k, none⟩) (by show sb < _; have := hBB.size; omega)).trans c0; have hBB := hBB.trans (Below.mono (B' := w3.heap.size) hb (by first | exact Nat.le_refl _ | exact hBB.size)); clear hb)
            | (go_at_call 11; (refine (HSP.out v1 tv _ ho (HT.out.below (HB3.out.trans (Below.mono hBB hs3)))).mono ?_); rintro e v2 ⟨rfl, hb⟩; (repeat (with_reducible replace hb := undrew hb)); have c0 := (hb.cell (p := ⟨sb, k, none⟩) (by show sb < _; have := hBB.size; omega)).trans c0; have hBB := hBB.trans (Below.mono (B' := w3.heap.size) hb (by first | exact Nat.le_refl _ | exact hBB.size)); clear hb))
        all_goals
          go_wp2_with fail
          go_meet
          exact ⟨rfl, rfl, Lib.hid (by repeat (first | with_reducible exact Below.refl _ _ | (with_reducible refine Below.setCell ?_ (by first | exact Nat.le_refl _ | omega | (simp; done) | (simp; omega)) _) | (with_reducible refine Below.alloc ?_ (by first | exact Nat.le_refl _ | omega | (simp; done) | (simp; omega)) _) | with_reducible refine Below.drew ?_ | with_reducible refine bel_drewN ?_ _ | (with_reducible refine bel_by (by with_reducible assumption) (by first | exact Nat.le_refl _ | omega | (simp; done) | (simp; omega)) ?_)))⟩
      obtain ⟨rfl, rfl, HBX⟩ := hcut
      generalize wc = w4 at *
      have HB4 := Lib.hid (HB3.out.trans (Below.mono HBX.out hs3))
      clear HB3 HBX c0 HTO HSP hsz3
      obtain ⟨d, hd, hdz⟩ := HPS.out (by omega)
      have HQ := Lib.hid (HPA.out w4 (HT.out.below HB4.out))
      rw [hd] at HQ
      unfold PrlPost fV at HQ
      simp only at HQ
      have HCD := Lib.hid (HCZ.out d hdz)
      have HDZ := Lib.hid hdz
      clear hd hdz HPS HPA HCZ
      go_wp2_with fail
      refine HQ.out.mono ?_
      rintro e w5 ⟨a5, b5, cap5, rfl, sl5, hb5, _⟩
      have HB5 := Lib.hid (HB4.out.trans (Below.mono hb5 HB4.out.size))
      have HL := Lib.hid (SlC.mono (G := fun y => y < w5.heap.size) (fun y hy => hy.2) sl5)
      have hs5 := HB5.out.size
      clear sl5 hb5 HB4 HQ
      have HB6 := Lib.hid (HB5.out.alloc hs5 (.cells #[.int .i64 0, .int .i64 0] 26))
      have HL6 := Lib.hid (HL.out.low (fun x hx => hx) ((Below.refl w5.heap.size w5).alloc (Nat.le_refl _) (.cells #[.int .i64 0, .int .i64 0] 26)))
      have HF6 := Lib.hid (ft_new w5 0 0 26)
      obtain ⟨f0, f1, ff, fl⟩ := HF6.out
      clear HB5 HL
      generalize hdl : d.len = z at *
      go_wp2_with fail
      have HSS := Lib.hid (HSA.out d _ HB6.out _ _ _ _ _ (by rw [hdl]; exact HL6.out) HDZ.out HCD.out)
      rw [hdl] at HSS
      clear f0 f1 ff fl HSA HF6 HL6
      refine HSS.out.mono ?_
      rintro e w7 ⟨rfl, hb7⟩
      have HB7 := Lib.hid (HB6.out.trans (Below.mono hb7 HB6.out.size))
      clear hb7 HB6 HSS
      go_wp2_with fail
      go_ret
      exact ⟨rfl, HB7.out⟩
    · have hc2 : (checkS c != 0) = true := by simpa using hck
      generalize checkS c = z at *
      generalize c.len = y at *
      clear hA hT HA HSL hr
      go_enter Tryz.func4, Tryz.ntmps4
      go_wp2_with fail
      refine HW.out.mono ?_
      rintro e w1 ⟨rfl, hb1⟩
      have HB1 := Lib.hid hb1
      clear hb1 HW
      go_wp2_with fail
      refine (HSM.out _ HB1.out).mono ?_
      rintro e w2 ⟨rfl, rfl⟩
      go_wp2_with fail
      refine (HCK.out _ HB1.out (HT.out.below HB1.out)).mono ?_
      rintro e w2 ⟨rfl, hb2⟩
      have HB2 := Lib.hid (HB1.out.trans (Below.mono hb2 HB1.out.size))
      clear hb2 HB1 HSM HCK
      go_wp2_with fail
      go_ret
      exact ⟨rfl, HB2.out⟩
end Go.Proofs.YtiofekoadjgjdaaGreatDoor
