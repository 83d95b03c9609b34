/- Contract of layer 11: yieldLines, the iterator over the lines of entries. -/
import Derived.Test.YtohalocbghhenaaGreatDoorPln
import Derived.Test.YtohalocbghhenaaGreatDoorNxt
import Derived.Test.YtohalocbghhenaaGreatDoorDepth
import Derived.RangeFuncNested
import Derived.RangeFuncBound
import Derived.RangeFuncCalls
import Derived.RangeFuncLeaves
import Derived.Shelf.Abstract
import Derived.Shelf.RegionOpen
import Derived.OwnWalkIn
import Derived.TacticsInMore
import Derived.LoopNIn
import Derived.LoopIn
set_option linter.unusedSimpArgs false
set_option linter.unusedVariables false
namespace Go.Proofs.YtohalocbghhenaaGreatDoor
open Go.RowKit Go.Shelf

attribute [local go_sem] Oper.semAt_some

theorem undef_no {b : Bool} (h : some undef = some (Value.bool b)) : False := by
  have h2 : undef = Value.bool b := Option.some.inj h
  cases h2
/-- the lines of the first entries -/
def linesK : Cls → Nat → Nat → List (Nat × List UInt8)
  | _, 0, _ => []
  | .nil, _ + 1, _ => []
  | .cons w xs b k _ r, i + 1, d => (d, headS w xs b) :: ((if b then linesC k (d + 1) ++ [(d, [125])] else []) ++ linesK r i d)
theorem linesK_zero (c : Cls) (d : Nat) : linesK c 0 d = [] := by cases c <;> rfl
theorem linesK_next : ∀ (c : Cls) (i d : Nat) {wd : ByteArray} {xs : List Tk} {bl : Bool} {k : Cls} {a : Int} {r : Cls}, c.drop i = .cons wd xs bl k a r → linesK c (i + 1) d = linesK c i d ++ ((d, headS wd xs bl) :: (if bl then linesC k (d + 1) ++ [(d, [125])] else []))
  | .nil, 0, _, _, _, _, _, _, _, h => by simp [Cls.drop] at h
  | .nil, _ + 1, _, _, _, _, _, _, _, h => by simp [Cls.drop] at h
  | .cons w' xs' b' k' a' r', 0, d, _, _, _, _, _, _, h => by
    simp only [Cls.drop, Cls.cons.injEq] at h
    obtain ⟨rfl, rfl, rfl, rfl, _, rfl⟩ := h
    simp [linesK, linesK_zero]
  | .cons w' xs' b' k' a' r', i + 1, d, _, _, _, _, _, _, h => by
    have := linesK_next r' i d h
    show (d, headS w' xs' b') :: ((if b' then linesC k' (d + 1) ++ [(d, [125])] else []) ++ linesK r' (i + 1) d) = _
    rw [this]
    simp [linesK, List.append_assoc]
theorem linesK_all : ∀ (c : Cls) (d : Nat), linesK c c.len d = linesC c d
  | .nil, _ => rfl
  | .cons _ _ _ _ _ r, d => by simp only [Cls.len, linesK, linesC, linesK_all r d]
theorem linesK_pre : ∀ (c : Cls) (i d : Nat), linesK c i d <+: linesC c d
  | c, 0, d => by rw [linesK_zero]; exact List.nil_prefix
  | .nil, _ + 1, _ => List.nil_prefix
  | .cons _ _ b k _ r, i + 1, d => by
    obtain ⟨t, ht⟩ := linesK_pre r i d
    exact ⟨t, by simp only [linesK, linesC, ← ht, List.cons_append, List.append_assoc]⟩
/-- what a round keeps: what lay below n₀, and all blocks of cells but b and rows of bytes -/
def KpC (n₀ b : Nat) (W W' : World) : Prop := Below n₀ W W' ∧ ∀ k cs T fz, W.heap[k]? = some (.cells cs T fz) → k ≠ b → T ≠ 5 → W'.heap[k]? = some (.cells cs T fz)
theorem KpC.refl (n₀ b : Nat) (W : World) : KpC n₀ b W W := ⟨Below.refl _ _, fun _ _ _ _ h _ _ => h⟩
theorem KpC.trans {n₀ b : Nat} {A B C : World} (h : KpC n₀ b A B) (k : KpC n₀ b B C) : KpC n₀ b A C := ⟨h.1.trans k.1, fun i cs T fz hi hb hT => k.2 i cs T fz (h.2 i cs T fz hi hb hT) hb hT⟩
theorem KpC.of {n₀ b : Nat} {A B : World} (h : Below A.heap.size A B) (hn : n₀ ≤ A.heap.size) : KpC n₀ b A B := ⟨h.mono hn, fun k cs T fz hk _ _ => (h.block k (Array.getElem?_eq_some_iff.1 hk).1).trans hk⟩
theorem abides_below {β : Type} {B : Nat} {J : β → World → Prop} (hJ : AbidesFrom B J) {s : β} {W W' : World} (h : J s W) (hb : Below W.heap.size W W') : J s W' :=
  hJ s W W' none h (grb_below hb) (by intro r e; cases e)
/-- a line as it is handed on; what is longer than lines are is cut off, so that a round knows bounds -/
def encL (x : Nat × List UInt8) : Array Value := #[.int .i64 ((min x.1 1000000000 : Nat) : Int), .string (bs (x.2.take 50000000))]
theorem encL_of {d : Nat} {l : List UInt8} (h1 : d ≤ 1000000000) (h2 : l.length ≤ 50000000) : encL (d, l) = #[.int .i64 (d : Int), .string (bs l)] := by
  simp only [encL, Nat.min_eq_left h1, List.take_of_length_le h2]
theorem head_len {wd : ByteArray} {xs : List Tk} {bl : Bool} (h1 : wd.size ≤ 1000000) (h2 : ∀ t ∈ xs, validT t = true) (h3 : xs.length ≤ 1000000) : (headS wd xs bl).length ≤ 50000000 := by
  have h4 := at0L_bound h2
  unfold headS
  rw [List.length_append, List.length_append, list_size]
  cases bl <;> simp <;> omega
theorem cl_of {k : Nat} {w : World} {wd : ByteArray} {va vk : Value} {bl : Bool} {a : Int} {T : TypeId} (h : w.heap[k]? = some (.cells #[.string wd, va, .bool bl, vk, .int .i64 a] T (0, 0))) : ClAt w k wd va bl vk a := by
  refine ⟨?_, ?_, ?_, ?_, ?_, fun j => ?_, (Array.getElem?_eq_some_iff.1 h).1⟩
  all_goals first | (simp [World.cell?, h]; done) | (simp [World.frozen?, h]; done)
/-- what firstLine asks of entries -/
def lok : Cls → Prop
  | .nil => True
  | .cons wd xs _ k _ r => wd.size ≤ 1000000 ∧ (∀ t ∈ xs, validT t = true) ∧ (∀ t ∈ xs, t.t.size ≤ 1000000000) ∧ xs.length ≤ 1000000 ∧ lok k ∧ lok r
theorem lok_drop : ∀ (c : Cls) (i : Nat) {wd : ByteArray} {xs : List Tk} {bl : Bool} {k : Cls} {a : Int} {r : Cls}, lok c → c.drop i = .cons wd xs bl k a r → wd.size ≤ 1000000 ∧ (∀ t ∈ xs, validT t = true) ∧ (∀ t ∈ xs, t.t.size ≤ 1000000000) ∧ xs.length ≤ 1000000 ∧ lok k
  | .nil, 0, _, _, _, _, _, _, _, h => by simp [Cls.drop] at h
  | .nil, _ + 1, _, _, _, _, _, _, _, h => by simp [Cls.drop] at h
  | .cons _ _ _ _ _ _, 0, _, _, _, _, _, _, hs, h => by
    simp only [Cls.drop, Cls.cons.injEq] at h
    obtain ⟨rfl, rfl, rfl, rfl, rfl, rfl⟩ := h
    exact ⟨hs.1, hs.2.1, hs.2.2.1, hs.2.2.2.1, hs.2.2.2.2.1⟩
  | .cons w' xs' b' k' a' r', i + 1, _, _, _, _, _, _, hs, h => lok_drop r' i hs.2.2.2.2.2 h
def FlC (F : Fence) : Prop := ∀ (m : Nat) (wd : ByteArray) (xs : List Tk) (bl : Bool) (av : Int) (aa ak : Option Addr) (ba oa la ca kl ck : Nat) (w : World), (∀ t ∈ xs, validT t = true) → (∀ t ∈ xs, t.t.size ≤ 1000000000) → xs.length ≤ 1000000 → wd.size ≤ 1000000 → SlT w aa ba oa la ca xs → Tabs w →
    CallsIn F m Tryz.prog 29 #[.agg #[.string wd, .slice aa la ca, .bool bl, .slice ak kl ck, .int .i64 av]] w fun e w' => e = .returned (.string (bs (headS wd xs bl))) ∧ Below w.heap.size w w'
def YlC (F : Fence) (w0 : World) (l b N : Nat) (J Jx : List (Nat × List UInt8) → World → Prop) (n : Nat) : Prop :=
  ∀ (c : Cls) (d m : Nat) (pre : List (Nat × List UInt8)) (W : World) (a : Option Addr) (bb o cap : Nat), c.count < n → d + c.count ≤ 1000000000 → lok c → SlC W (fun x => x < w0.heap.size) a bb o c.len cap c → Below w0.heap.size w0 W → b < W.heap.size → J pre W → pre.length + (linesC c d).length ≤ N →
    CallsIn F m Tryz.prog 58 #[.slice a c.len cap, .int .i64 (d : Int), .func (.yield l) #[] #[]] W fun e W' =>
      (e = .returned (.bool true) ∧ J (pre ++ linesC c d) W' ∧ KpC w0.heap.size b W W') ∨ (e = .returned (.bool false) ∧ ∃ q, q <+: linesC c d ∧ Jx (pre ++ q) W')
set_option maxHeartbeats 4000000 in
set_option maxRecDepth 100000 in
theorem yl_any (F : Fence) (hd : F.depth = none) (hf : F.fn 58) (hf2 : F.fn 29) (hro : F.round = none) (HFL : Hid (FlC F)) (w0 : World) (hT : Hid (Tabs w0)) (l b N : Nat) (J Jx : List (Nat × List UInt8) → World → Prop) (B : Nat) (hJ : Hid (AbidesFrom B J)) (hJx : Hid (AbidesFrom B Jx))
    (HY : Hid (∀ m pre x W, J pre W → pre.length < N → YieldAt F m Tryz.prog l (encL x) W fun e W' => (e = .returned (.bool true) ∧ J (pre ++ [x]) W' ∧ KpC w0.heap.size b W W') ∨ (e = .returned (.bool false) ∧ Jx (pre ++ [x]) W'))) :
    ∀ n, n ≤ 1000000000 → YlC F w0 l b N J Jx n
  | 0, _ => fun _ _ _ _ _ _ _ _ _ h _ _ _ _ _ _ _ => absurd h (Nat.not_lt_zero _)
  | n + 1, hn => fun c d m pre W a bb o cap hc hdc hlk hA hW0 hbW h0 hN => by
    have IH := Lib.hid (yl_any F hd hf hf2 hro HFL w0 hT l b N J Jx B hJ hJx HY n (by omega))
    have hdd : ∀ k : Nat, (F.depth.isSome = true → 1 ≤ k) := fun k h => by rw [hd] at h; cases h
    have HA := Lib.hid hA
    have HW0 := Lib.hid hW0
    have HNX := Lib.hid (fun i wd xs bl k a r => @linesK_next c i d wd xs bl k a r)
    have HDR := Lib.hid (fun i wd xs bl k a r => @drop_count c i wd xs bl k a r)
    have HLK := Lib.hid (fun i wd xs bl k a r => @lok_drop c i wd xs bl k a r hlk)
    have HPR := Lib.hid (fun i => linesK_pre c i d)
    have HAL := Lib.hid (linesK_all c d)
    have hcl : c.len ≤ 1000000000 := by have := kidsN_le c 0; omega
    clear hA hlk hW0
    refine callsIn_of_wp Tryz.func58 rfl hf ?_ hro
    simp only [Tryz.ntmps58, List.size_toArray, List.length_cons, List.length_nil, Nat.reduceAdd, Nat.reduceSub, Array.replicate_succ, Array.replicate_zero, List.push_toArray, List.append_toArray, List.nil_append, List.cons_append]
    gi_wp2
    gi_loopw [11] (fun s11 wr => ∃ (k : Nat), k ≤ c.len ∧ s11 = .int .i64 (k : Int) ∧ Hid (J (pre ++ linesK c k d) wr) ∧ Hid (KpC w0.heap.size b W wr) ∧ W.heap.size ≤ wr.heap.size) (fun s11 _ => (c.len - (intOf s11)).toNat)
    case atStart => exact ⟨0, Nat.zero_le _, rfl, Lib.hid (by rw [linesK_zero, List.append_nil]; exact h0), Lib.hid (KpC.refl _ _ _), Nat.le_refl _⟩
    case round =>
      obtain ⟨k, hk, rfl, HJr, HKr, hzr⟩ := hrel
      by_cases hlt : k < c.len
      · have hl : (k : Int) < (c.len : Int) := by omega
        have SA := HA.out.low (fun x hx => hx) HKr.out.1
        obtain ⟨rfl, ba, _⟩ := SA.2.2.2.1 (by omega)
        obtain ⟨wd, xs, bl, kd, av, rest, aa, ba', oa, la, ca, ak, bk, ok, ck, hdr, c0, c1, c2, c3, c4, SX, hXn, SK⟩ := AtC.get k hlt SA.2.2.2.2
        have HNK := Lib.hid (HNX.out _ _ _ _ _ _ _ hdr)
        have hkc := HDR.out _ _ _ _ _ _ _ hdr
        obtain ⟨e1, e2, e3, e4, e5⟩ := HLK.out _ _ _ _ _ _ _ hdr
        have HPK := Lib.hid (HPR.out (k + 1))
        rw [HNK.out] at HPK
        have HSK := Lib.hid SK
        have HSX := Lib.hid SX
        clear SA SX SK hdr HPR
        have HW1 := Lib.hid (heap_alloc_new wr (.cells #[.string wd, .slice aa la ca, .bool bl, .slice ak kd.len ck, .int .i64 av] 25))
        have HB1 := Lib.hid (show Below wr.heap.size wr (wr.alloc (.cells #[.string wd, .slice aa la ca, .bool bl, .slice ak kd.len ck, .int .i64 av] 25)) from (Below.refl _ _).alloc (Nat.le_refl _) _)
        have HTW := Lib.hid (hT.out.below (HW0.out.trans (HKr.out.1.trans (HB1.out.mono (by have := HW0.out.size; omega)))))
        have hlen : (pre ++ linesK c k d).length < N := by
          have h := List.IsPrefix.length_le HPK.out
          simp only [List.length_append, List.length_cons] at h ⊢
          omega
        have HH := Lib.hid (fun (W2 : World) (h : J (pre ++ linesK c k d) W2) => HY.out (m - 1) _ (d, headS wd xs bl) W2 h hlen)
        gi_wp2
        refine (HFL.out (m - 1) wd xs bl av _ ak _ _ _ _ _ ck _ e2 e3 e4 e1 (HSX.out.keep HB1.out) HTW.out).mono ?_
        rintro e w2 ⟨rfl, hb2⟩
        have HJ2 := Lib.hid (abides_below hJ.out (abides_below hJ.out HJr.out HB1.out) hb2)
        have HB2 := Lib.hid (HB1.out.trans (hb2.mono HB1.out.size))
        have HW2 := Lib.hid ((hb2.block _ (Array.getElem?_eq_some_iff.1 HW1.out).1).trans HW1.out)
        clear hb2 HB1 HW1 HJr
        obtain ⟨fn, tmps, assign, body, hy, hR⟩ := HH.out w2 HJ2.out
        rw [encL_of (by omega) (head_len e1 e2 e4)] at hy
        have hwd : IntKind.i64.wrap ((d : Int) + 1) = (d : Int) + 1 := IntWalk.i64_in _ (by omega)
        gi_wp2
        refine hR.mono ?_
        rintro e w3 (⟨rfl, hJ3, hk3⟩ | ⟨rfl, hx3⟩)
        · have HJ3 := Lib.hid hJ3
          have HW3 := Lib.hid (hk3.2 _ _ _ _ HW2.out (by omega) (by decide))
          have hn0 : w0.heap.size ≤ wr.heap.size := by have := HW0.out.size; omega
          have HK23 := Lib.hid ((KpC.of (b := b) HB2.out hn0).trans hk3)
          have HK3 := Lib.hid (HKr.out.trans HK23.out)
          have hz3 : W.heap.size ≤ w3.heap.size := by have := HK23.out.1.size; omega
          obtain ⟨f0, f1, f2, f3, f4, ff, fl⟩ := cl_of HW3.out
          have HSK3 := Lib.hid (HSK.out.low (B := w0.heap.size) (fun x hx => hx) HK23.out.1)
          clear hJ3 hk3 hR hy HW2 HB2 HJ2 HTW HH HSX HSK HK23 c0 c1 c2 c3 c4 ba
          cases bl with
          | false =>
            gi_wp2
            all_goals try (exfalso; apply undef_no; assumption)
            refine ⟨fun _ h => (by cases h), ?_⟩
            gi_wp2
            all_goals try (exfalso; apply undef_no; assumption)
            go_roundw
            case rel => exact ⟨k + 1, by omega, by go_num, Lib.hid (by rw [HNK.out]; simpa [List.append_assoc] using HJ3.out), HK3, hz3⟩
            case measure => simp [intOf]; omega
          | true =>
            have hlk : (linesK c k d).length + (1 + ((linesC kd (d + 1)).length + 1)) ≤ (linesC c d).length := by
              have h := List.IsPrefix.length_le HPK.out
              simp at h
              omega
            have IHk := IH.out kd (d + 1) (m - 1) (pre ++ linesK c k d ++ [(d, headS wd xs true)]) w3 _ _ _ _ (by omega) (by omega) e5 HSK3.out (HW0.out.trans HK3.out.1) (by omega) HJ3.out (by simp; omega)
            rw [show ((d + 1 : Nat) : Int) = (d : Int) + 1 from rfl] at IHk
            have HIK := Lib.hid IHk
            have HY2 := Lib.hid (fun (W2 : World) (h : J (pre ++ linesK c k d ++ [(d, headS wd xs true)] ++ linesC kd (d + 1)) W2) => HY.out (m - 1) _ (d, [125]) W2 h (by simp; omega))
            clear IHk IH HY HNX HDR HLK
            gi_wp2
            refine HIK.out.mono ?_
            rintro e w4 (⟨rfl, hJ4, hk4⟩ | ⟨rfl, q, hq, hx4⟩)
            · have HJ4 := Lib.hid hJ4
              have HK4 := Lib.hid (HK3.out.trans hk4)
              have hz4 : W.heap.size ≤ w4.heap.size := by have := hk4.1.size; omega
              obtain ⟨fn, tmps, assign, body, hy, hR⟩ := HY2.out w4 hJ4
              rw [encL_of (by omega) (by simp)] at hy
              rw [show bs [125] = (⟨#[125]⟩ : ByteArray) from rfl] at hy
              clear hJ4 HIK HY2 f0 f1 f2 f3 f4 ff fl
              gi_wp2
              refine hR.mono ?_
              rintro e w5 (⟨rfl, hJ5, hk5⟩ | ⟨rfl, hx5⟩)
              · have HJ5 := Lib.hid hJ5
                have HK5 := Lib.hid (HK4.out.trans hk5)
                have hz5 : W.heap.size ≤ w5.heap.size := by have := hk5.1.size; omega
                clear hJ5 hk5 hk4 hR hy
                gi_wp2
                go_roundw
                case rel => exact ⟨k + 1, by omega, by go_num, Lib.hid (by rw [HNK.out]; simpa [List.append_assoc] using HJ5.out), HK5, hz5⟩
                case measure => simp [intOf]; omega
              · have HX5 := Lib.hid hx5
                clear hx5 hR hy hk4
                gi_wp2
                go_ret
                refine .inr ⟨rfl, _, HPK.out, ?_⟩
                have h := HX5.out
                simpa [List.append_assoc] using h
            · have HX4 := Lib.hid hx4
              have HQ := Lib.hid hq
              clear hx4 hq
              gi_wp2
              refine ⟨fun _ h => (by cases h), ?_⟩
              gi_wp2
              go_ret
              refine .inr ⟨rfl, linesK c k d ++ ((d, headS wd xs true) :: q), ?_, by have h := HX4.out; simpa [List.append_assoc] using h⟩
              obtain ⟨t, ht⟩ := HQ.out
              exact List.IsPrefix.trans ⟨t ++ [(d, [125])], by simp [← ht, List.append_assoc]⟩ HPK.out
        · have HX3 := Lib.hid hx3
          clear hx3 hR hy HH
          gi_wp2
          go_ret
          refine .inr ⟨rfl, linesK c k d ++ [(d, headS wd xs bl)], ?_, by have h := HX3.out; simpa [List.append_assoc] using h⟩
          exact List.IsPrefix.trans ⟨(if bl then linesC kd (d + 1) ++ [(d, [125])] else []), by simp⟩ HPK.out
      · obtain rfl : k = c.len := by omega
        have hl : ¬ ((c.len : Int) < (c.len : Int)) := by omega
        gi_wp2
        go_ret
        exact .inl ⟨rfl, by have h := HJr.out; rwa [HAL.out] at h, HKr.out⟩
end Go.Proofs.YtohalocbghhenaaGreatDoor
