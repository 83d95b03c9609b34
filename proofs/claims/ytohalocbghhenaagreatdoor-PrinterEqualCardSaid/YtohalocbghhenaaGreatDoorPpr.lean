/- Contracts of layer 11: lines, and the function value that it returns. -/
import Derived.Test.YtohalocbghhenaaGreatDoorPyl
import Derived.Test.YtohalocbghhenaaGreatDoorWf
import Derived.RangeFuncFrom
set_option linter.unusedSimpArgs false
set_option linter.unusedVariables false
namespace Go.Proofs.YtohalocbghhenaaGreatDoor
open Go.RowKit Go.Shelf

attribute [local go_sem] Oper.semAt_some

theorem bldAt_grown {T e : TypeId} {B b : Nat} {p : Value} {xs : List Value} {w w' : World} {row : Option Nat} (h : Lib.BuilderAtF T e B b p xs w) (hg : w.grownBy w' row) (hr : ∀ r, row = some r → ∃ o : Obj, w.heap[r]? = some o ∧ o.isCells = false) : Lib.BuilderAtF T e B b p xs w' := by
  obtain ⟨h1, v, hb, hown, hne⟩ := h
  have hno : ∀ (k : Nat) cs T fz, w.heap[k]? = some (.cells cs T fz) → some k ≠ row := by
    intro k cs T fz hk e
    obtain ⟨o, ho, hc⟩ := hr k e.symm
    rw [hk] at ho
    cases ho
    cases hc
  refine ⟨h1, v, by rw [hg.block b (Array.getElem?_eq_some_iff.1 hb).1 (hno _ _ _ _ hb)]; exact hb, hown.kept hg ?_, hne⟩
  rcases hown.2 with ⟨rfl, _⟩ | ⟨g, cap, cur, fz, rfl, _, hg2, _⟩
  · exact Or.inl rfl
  · exact Or.inr (hno _ _ _ _ hg2)
theorem Bld.grown {B b : Nat} {l : List UInt8} {w w' : World} {row : Option Nat} (h : Bld B b l w) (hg : w.grownBy w' row) (hr : ∀ r, row = some r → ∃ o : Obj, w.heap[r]? = some o ∧ o.isCells = false) : Bld B b l w' :=
  h.elim (fun h => Or.inl (bldAt_grown h hg hr)) (fun h => Or.inr (bldAt_grown h hg hr))
theorem yield_deep {F : Fence} (hd : F.depth = none) {m m' : Nat} {P : Program} {l : Nat} {args : Array Value} {W : World} {R : Ending → World → Prop} (h : YieldAt F m P l args W R) : YieldAt F m' P l args W R := by
  obtain ⟨fn, tmps, assign, body, hy, h1, h2⟩ := h
  exact ⟨fn, tmps, assign, body, hy, h1, fun c cs _ => h2 c cs (fun d he => by rw [hd] at he; cases he)⟩
set_option maxHeartbeats 2000000 in
set_option maxRecDepth 100000 in
theorem lines_in (F : Fence) (n : Nat) (hf : F.fn 34) (hro : F.round = none) (a : Option Addr) (len cap : Nat) (w : World) :
    CallsIn F n Tryz.prog 34 #[.slice a len cap] w fun e w' => e = .returned (.func (.func 57) #[] #[.pointer (some ⟨w.heap.size, 0, none⟩)]) ∧ w' = w.alloc (.cells #[.slice a len cap] 23) := by
  refine callsIn_of_wp Tryz.func34 rfl hf ?_ hro
  simp only [Tryz.ntmps34, List.size_toArray, List.length_cons, List.length_nil, Nat.reduceAdd, Nat.reduceSub, Array.replicate_succ, Array.replicate_zero, List.push_toArray, List.append_toArray, List.nil_append, List.cons_append]
  gi_wp2
  go_ret
  exact ⟨rfl, rfl⟩
set_option maxHeartbeats 2000000 in
set_option maxRecDepth 100000 in
theorem lines_stops (F : Fence) (hd : F.depth = none) (n : Nat) (hf : F.fn 58) (hf1 : F.fn 57) (hf2 : F.fn 29) (hro : F.round = none) (HFL : Hid (FlC F)) (w0 : World) (hT : Hid (Tabs w0))
    (Bt b : Nat) (c : Cls) (a : Option Addr) (bb o cap : Nat) (w : World) (hc : c.count < 1000000000) (hlk : lok c) (hA : SlC w0 (fun x => x < w0.heap.size) a bb o c.len cap c) (hw : Below w0.heap.size w0 w) (hBt : Bt < w.heap.size) (hb : b < w.heap.size) (hcB : w.cell? ⟨Bt, 0, none⟩ = some (.slice a c.len cap)) :
    SeqStopsK F n Tryz.prog 57 #[.pointer (some ⟨Bt, 0, none⟩)] encL (KpC w0.heap.size b) (fun ys => ys = linesC c 0) (fun pre => pre <+: linesC c 0) (linesC c 0).length w := fun l J Jx W hW hJ hJx hY h0 => by
  have hdd : ∀ k : Nat, (F.depth.isSome = true → 1 ≤ k) := fun k h => by rw [hd] at h; cases h
  have hWW := hw.trans (hW.mono hw.size)
  have hp := yl_any F hd hf hf2 hro HFL w0 hT l b (linesC c 0).length J Jx W.heap.size (Lib.hid hJ) (Lib.hid hJx) (Lib.hid fun m pre x W1 hj hl => yield_deep hd (hY pre x W1 hj hl)) 1000000000 (Nat.le_refl _) c 0 (n - 1) [] W a bb o cap hc (by omega) hlk (hA.low (fun x hx => hx) hWW) hWW (Nat.lt_of_lt_of_le hb hW.size) h0 (by simp)
  have hcell := (hW.cell (p := ⟨Bt, 0, none⟩) hBt).trans hcB
  rw [show ((0 : Nat) : Int) = 0 from rfl] at hp
  have HP := Lib.hid hp
  clear hp
  refine callsIn_of_wp Tryz.func57 rfl hf1 ?_ hro
  simp only [Tryz.ntmps57, List.size_toArray, List.length_cons, List.length_nil, Nat.reduceAdd, Nat.reduceSub, Array.replicate_succ, Array.replicate_zero, List.push_toArray, List.append_toArray, List.nil_append, List.cons_append]
  gi_wp2
  refine HP.out.mono ?_
  rintro e W1 (⟨rfl, hJ1, _⟩ | ⟨rfl, q, hq, hx⟩)
  · have HJ1 := Lib.hid hJ1
    clear hJ1
    gi_wp2
    go_end0
    exact ⟨⟨_, rfl⟩, .inl ⟨_, rfl, by have h := HJ1.out; simpa using h⟩⟩
  · have HX := Lib.hid hx
    have HQ := Lib.hid hq
    clear hx hq
    gi_wp2
    go_end0
    exact ⟨⟨_, rfl⟩, .inr ⟨_, HQ.out, by have h := HX.out; simpa using h⟩⟩
end Go.Proofs.YtohalocbghhenaaGreatDoor
/- Contract of layer 11: Print. -/
namespace Go.Proofs.YtohalocbghhenaaGreatDoor
open Go.RowKit Go.Shelf

attribute [local go_sem] Oper.semAt_some

/-- the text of lines, each as it is handed on -/
def lnS (x : Nat × List UInt8) : List UInt8 := indS (min x.1 1000000000) ++ (x.2.take 50000000 ++ [10])
def textK (L : List (Nat × List UInt8)) : List UInt8 := L.flatMap lnS
theorem textK_snoc (L : List (Nat × List UInt8)) (x : Nat × List UInt8) : textK (L ++ [x]) = textK L ++ lnS x := by
  unfold textK; rw [List.flatMap_append]; simp
theorem textK_pre {A L : List (Nat × List UInt8)} (h : A <+: L) : (textK A).length ≤ (textK L).length := by
  obtain ⟨t, rfl⟩ := h
  unfold textK; rw [List.flatMap_append, List.length_append]; omega
theorem lines_in_bounds : ∀ (c : Cls) (d : Nat), lok c → d + c.count ≤ 1000000000 → ∀ x ∈ linesC c d, x.1 ≤ 1000000000 ∧ x.2.length ≤ 50000000
  | .nil, _, _, _, x, hx => by simp [linesC] at hx
  | .cons wd xs bl k a r, d, hl, hd, x, hx => by
    simp only [Cls.count] at hd
    obtain ⟨l1, l2, l3, l4, l5, l6⟩ := hl
    simp only [linesC, List.mem_cons, List.mem_append] at hx
    rcases hx with rfl | hx | hx
    · exact ⟨by simp only; omega, head_len l1 l2 l4⟩
    · cases bl with
      | false => simp at hx
      | true =>
        simp only [if_true, List.mem_append, List.mem_singleton] at hx
        rcases hx with hx | rfl
        · exact lines_in_bounds k (d + 1) l5 (by omega) x hx
        · exact ⟨by simp only; omega, by simp⟩
    · exact lines_in_bounds r d l6 (by omega) x hx
theorem textK_lin {c : Cls} (hl : lok c) (hc : c.count ≤ 1000000000) : textK (linesC c 0) = linS c 0 := by
  rw [lin_lines]
  unfold textK
  have h := lines_in_bounds c 0 hl (by omega)
  generalize linesC c 0 = L at h ⊢
  induction L with
  | nil => rfl
  | cons x r ih =>
    obtain ⟨h1, h2⟩ := h x (by simp)
    simp only [List.flatMap_cons, lnS, Nat.min_eq_left h1, List.take_of_length_le h2]
    rw [← ih (fun y hy => h y (by simp [hy]))]
theorem len_any {B b : Nat} {l : List UInt8} {w : World} (h : Bld B b l w) : Calls Tryz.prog 37 #[.pointer (some ⟨b, 0, none⟩)] w fun e w' => e = .returned (.int .i64 (l.length : Int)) ∧ w' = w := by
  refine (Tryz.Builder_Len_f B b (Lib.byteCells l) w h).mono ?_
  rintro e w' ⟨rfl, rfl⟩
  exact ⟨by rw [bytes_len], rfl⟩
theorem textk_any {B b : Nat} {l : List UInt8} {w : World} (h : Bld B b l w) (hB : B ≤ w.heap.size) :
    Calls Tryz.prog 38 #[.pointer (some ⟨b, 0, none⟩)] w fun e w' => e = .returned (.string (bs l)) ∧ Below B w w' ∧ Lib.OthersKept 5 (some b) w w' := by
  refine (Any.Builder_String_any_k Tryz.lays169 Tryz.Builder_Extra_169 B b l w h hB).mono ?_
  rintro e w' ⟨rfl, _, h2, h3⟩
  exact ⟨rfl, h2, h3⟩
theorem cells_kept {w w' : World} {row : Option Nat} {k : Nat} {cs : Array Value} {T : TypeId} {fz : Nat × Nat} (h : w.heap[k]? = some (.cells cs T fz)) (hg : w.grownBy w' row) (hr : ∀ r, row = some r → ∃ o : Obj, w.heap[r]? = some o ∧ o.isCells = false) : w'.heap[k]? = some (.cells cs T fz) := by
  rw [hg.block k (Array.getElem?_eq_some_iff.1 h).1 (by
    intro e
    obtain ⟨o, ho, hc⟩ := hr k e.symm
    rw [h] at ho
    cases ho
    cases hc)]
  exact h
theorem others_keep {e : TypeId} {b : Option Nat} {w w' : World} (h : Lib.OthersKept e b w w') (hs : w.heap.size ≤ w'.heap.size) (hb : ∀ k, b = some k → ∃ cs T fz, w.heap[k]? = some (.cells cs T fz)) : KeepsOthers w w' := by
  refine ⟨hs, fun k o hk ho => h k o hk ?_ (by rintro c fz rfl; cases ho)⟩
  intro e
  obtain ⟨cs, T, fz, h2⟩ := hb k e.symm
  rw [h2] at hk
  cases hk
  cases ho
theorem below_keep {w w' : World} (h : Below w.heap.size w w') : KeepsOthers w w' := ⟨h.size, fun k o hk _ => (h.block k (Array.getElem?_eq_some_iff.1 hk).1).trans hk⟩
theorem Bld.cells {B b : Nat} {l : List UInt8} {w : World} (h : Bld B b l w) : ∃ cs T fz, w.heap[b]? = some (.cells cs T fz) := by
  rcases h with ⟨_, v, hb, _⟩ | ⟨_, v, hb, _⟩ <;> exact ⟨_, _, _, hb⟩
theorem lnS_of (x : Nat × List UInt8) : ∃ (D : Nat) (L : ByteArray), D ≤ 1000000000 ∧ L.size ≤ 50000000 ∧ encL x = #[.int .i64 (D : Int), .string L] ∧ lnS x = indS D ++ (L.data.toList ++ [10]) ∧ (min x.1 1000000000 = D) ∧ bs (x.2.take 50000000) = L :=
  ⟨min x.1 1000000000, bs (x.2.take 50000000), Nat.min_le_right _ _, by rw [bs_size, List.length_take]; exact Nat.min_le_left _ _, rfl, by rw [bs_data]; rfl, rfl, rfl⟩
theorem rep_ind : ∀ d : Nat, Lib.repeatL [32, 32] d = indS d
  | 0 => rfl
  | d + 1 => by
    show [32, 32] ++ Lib.repeatL [32, 32] d = _
    rw [rep_ind d]
    unfold indS
    rw [show 2 * (d + 1) = (2 * d + 1) + 1 by omega, List.replicate_succ, List.replicate_succ]
    rfl
set_option maxHeartbeats 1000000 in
set_option maxRecDepth 100000 in
theorem print_any (c : Cls) (hf : formed c = true) (hd : c.depth ≤ 8) (hc : c.count < 1000000000) (hsm : small c) (hlk : lok c) (w : World) (a : Option Addr) (bb o cap : Nat) (F0 : Nat → Prop) (hA : SlC w F0 a bb o c.len cap c) (hT : Tabs w) :
    Calls Tryz.prog 15 #[.slice a c.len cap] w fun e w' => e = .returned (.tuple #[.string (bs (if (linS c 0).length ≤ 65536 then linS c 0 else [])), .int .i64 (if (linS c 0).length ≤ 65536 then 0 else 6)]) ∧ Below w.heap.size w w' := by
  have HA := Lib.hid hA.here
  have HT := Lib.hid hT
  have HCH := Lib.hid (fun W (h : SlC W (fun x => F0 x ∧ x < w.heap.size) a bb o c.len cap c) hW => check_any c (by omega) hsm W _ a bb o cap h hW)
  clear hA hT
  have HFL := Lib.hid (show FlC Fence.wide from fun m wd xs bl av aa ak ba oa la ca kl ck W h1 h2 h3 h4 h5 h6 => callsIn_wide.2 (firstLine_any wd xs bl av aa ak ba oa la ca kl ck h1 h2 h3 h4 W h5 h6))
  obtain ⟨F, hF⟩ : ∃ F, F = Fence.wide := ⟨_, rfl⟩
  refine (callsIn_wide (n := 6)).1 ?_
  rw [← hF] at HFL ⊢
  have hro : F.round = none := by rw [hF]; rfl
  have hdp : F.depth = none := by rw [hF]; rfl
  have hfn : ∀ f, F.fn f := by rw [hF]; intro f; trivial
  have HCI := Lib.hid (fun (m : Nat) {f : FuncId} {args : Array Value} {W : World} {R : Ending → World → Prop} (h : Calls Tryz.prog f args W R) => (show CallsIn F m Tryz.prog f args W R by rw [hF]; exact callsIn_wide.2 h))
  clear hF
  refine callsIn_of_wp_marks Tryz.func15 rfl (hfn _) ?_ hro
  simp only [Tryz.ntmps15, List.size_toArray, List.length_cons, List.length_nil, Nat.reduceAdd, Nat.reduceSub, Array.replicate_succ, Array.replicate_zero, List.push_toArray, List.append_toArray, List.nil_append, List.cons_append]
  gi_wp2
  have HB0 := Lib.hid (show Below w.heap.size w ((w.alloc (.cells #[.string ⟨#[]⟩] 9)).alloc (.cells #[.int .i64 0] 28)) from (by repeat (first | with_reducible exact Below.refl _ _ | (with_reducible refine Below.setCell ?_ (by first | exact Nat.le_refl _ | omega | (simp; done) | (simp; omega)) _) | (with_reducible refine Below.alloc ?_ (by first | exact Nat.le_refl _ | omega | (simp; done) | (simp; omega)) _) | with_reducible refine Below.drew ?_ | with_reducible refine bel_drewN ?_ _ | (with_reducible refine bel_by (by with_reducible assumption) (by first | exact Nat.le_refl _ | omega | (simp; done) | (simp; omega)) ?_))))
  have hr0 := Lib.hid (show ((w.alloc (.cells #[.string ⟨#[]⟩] 9)).alloc (.cells #[.int .i64 0] 28)).heap[w.heap.size]? = some (.cells #[.string ⟨#[]⟩] 9 (0, 0)) from (Below.heap_alloc _ _ _ (by simp)).trans (heap_alloc_new w _))
  have hr1 := Lib.hid (show ((w.alloc (.cells #[.string ⟨#[]⟩] 9)).alloc (.cells #[.int .i64 0] 28)).heap[w.heap.size + 1]? = some (.cells #[.int .i64 0] 28 (0, 0)) by
    have := heap_alloc_new (w.alloc (.cells #[.string ⟨#[]⟩] 9)) (.cells #[.int .i64 0] 28)
    rwa [World.size_alloc] at this)
  refine (HCI.out 5 (HCH.out _ (HA.out.low (fun x hx => hx.2) HB0.out) (HT.out.below HB0.out))).mono ?_
  rintro e w1 ⟨rfl, hb1⟩
  have hck : checkS c = 0 := by unfold checkS; rw [if_pos hf, if_neg (by omega)]
  rw [hck]
  have HB1 := Lib.hid (HB0.out.trans (hb1.mono HB0.out.size))
  have HR0 := Lib.hid ((hb1.block _ (Array.getElem?_eq_some_iff.1 hr0.out).1).trans hr0.out)
  have HR1 := Lib.hid ((hb1.block _ (Array.getElem?_eq_some_iff.1 hr1.out).1).trans hr1.out)
  have hz1 : w.heap.size + 2 ≤ w1.heap.size := by have := hb1.size; simp at this; omega
  clear hb1 HB0 hr0 hr1 HCH
  gi_wp2
  refine (lines_in F 5 (hfn _) hro a c.len cap _).mono ?_
  rintro e w2 ⟨rfl, rfl⟩
  gi_wp2
  have HV0 := Lib.hid (show Below w1.heap.size w1 ((w1.alloc (.cells #[.pointer none, .slice none 0 0] 56)).alloc (.cells #[.slice a c.len cap] 23)) from (by repeat (first | with_reducible exact Below.refl _ _ | (with_reducible refine Below.setCell ?_ (by first | exact Nat.le_refl _ | omega | (simp; done) | (simp; omega)) _) | (with_reducible refine Below.alloc ?_ (by first | exact Nat.le_refl _ | omega | (simp; done) | (simp; omega)) _) | with_reducible refine Below.drew ?_ | with_reducible refine bel_drewN ?_ _ | (with_reducible refine bel_by (by with_reducible assumption) (by first | exact Nat.le_refl _ | omega | (simp; done) | (simp; omega)) ?_))))
  have HBV := Lib.hid (HB1.out.trans (HV0.out.mono HB1.out.size))
  have HBB := Lib.hid (show Bld w1.heap.size w1.heap.size [] ((w1.alloc (.cells #[.pointer none, .slice none 0 0] 56)).alloc (.cells #[.slice a c.len cap] 23)) from Bld.keep (bld_new w1) ((Below.refl _ _).alloc (Nat.le_refl _) _))
  have HCB := Lib.hid (show ((w1.alloc (.cells #[.pointer none, .slice none 0 0] 56)).alloc (.cells #[.slice a c.len cap] 23)).cell? ⟨w1.heap.size + 1, 0, none⟩ = some (.slice a c.len cap) by simp [go_sem])
  have HR0V := Lib.hid ((HV0.out.block _ (Array.getElem?_eq_some_iff.1 HR0.out).1).trans HR0.out)
  have HR1V := Lib.hid ((HV0.out.block _ (Array.getElem?_eq_some_iff.1 HR1.out).1).trans HR1.out)
  have hzV : ((w1.alloc (.cells #[.pointer none, .slice none 0 0] 56)).alloc (.cells #[.slice a c.len cap] 23)).heap.size = w1.heap.size + 1 + 1 := by simp
  generalize ((w1.alloc (.cells #[.pointer none, .slice none 0 0] 56)).alloc (.cells #[.slice a c.len cap] 23)) = V at *
  clear HV0 HR0 HR1 HB1
  have HTX := Lib.hid (textK_lin hlk (by omega : c.count ≤ 1000000000))
  refine wpIn_rangeFunc_ownF hro (by omega) (gf := 57) (lb := #[.pointer (some ⟨w1.heap.size + 1, 0, none⟩)]) rfl (hfn _) (enters_of Tryz.func57 (by kernel_rfl) rfl)
    (lines_stops F hdp (6 - 1) (hfn _) (hfn _) (hfn _) hro HFL w HT (w1.heap.size + 1) w1.heap.size c a bb o cap V hc hlk (HA.out.mono (fun x hx => hx.2)) HBV.out (by omega) (by omega) HCB.out)
    KpC.trans (fun W l ob ob' h1 h2 h3 h4 => ⟨belowK_b (w := V) (by omega) W l ob ob' h1 h2 h3 h4, fun k cs T fz hk _ _ => (World.putObj_heap_other (by intro e; subst e; rw [hk] at h2; cases h2; cases h3)).trans hk⟩) (Below.refl _ _) (fun _ => rfl)
    (fun pre W => (Bld w1.heap.size w1.heap.size (textK pre) W ∧ (textK pre).length ≤ 65536 ∧ W.heap[w.heap.size]? = some (.cells #[.string ⟨#[]⟩] 9 (0, 0)) ∧ W.heap[w.heap.size + 1]? = some (.cells #[.int .i64 0] 28 (0, 0))) ∧ Below w.heap.size w W)
    (fun cd pre W => (cd = .ret ∧ 65536 < (textK pre).length ∧ W.heap[w.heap.size]? = some (.cells #[.string ⟨#[]⟩] 9 (0, 0)) ∧ W.heap[w.heap.size + 1]? = some (.cells #[.int .i64 6] 28 (0, 0))) ∧ Below w.heap.size w W)
    (OwnFrom.and (Own.from (fun s A B row hs hg hr => ⟨hs.1.grown hg hr, hs.2.1, cells_kept hs.2.2.1 hg hr, cells_kept hs.2.2.2 hg hr⟩) _) (ownFrom_below (Nat.le_refl _) (by omega)))
    (fun cd => OwnFrom.and (Own.from (fun s A B row hs hg hr => ⟨hs.1, hs.2.1, cells_kept hs.2.2.1 hg hr, cells_kept hs.2.2.2 hg hr⟩) _) (ownFrom_below (Nat.le_refl _) (by omega)))
    ⟨⟨HBB.out, by simp [textK], HR0V.out, HR1V.out⟩, HBV.out⟩
    (fun x => { tmps := #[.slice a c.len cap, undef, .pointer (some ⟨w.heap.size, 0, none⟩), .pointer (some ⟨w.heap.size + 1, 0, none⟩), .int .i64 0, .pointer (some ⟨w1.heap.size, 0, none⟩), .int .i64 ((min x.1 1000000000 : Nat) : Int), .string (bs (x.2.take 50000000)), .slice a c.len cap, .int .i64 0, .int .i64 0, .bool false, undef, .slice a c.len cap, .func (.func 57) #[] #[.pointer (some ⟨w1.heap.size + 1, 0, none⟩)], .int .i64 ((min x.1 1000000000 : Nat) : Int), .string (bs (x.2.take 50000000)), undef, undef, undef, undef, undef, undef, undef, undef, undef], defers := [] }) ?assign ?body ?done ?stop
  case assign =>
    intro l x W K hK
    simp only [encL]
    gi_wp2
    exact hK
  case body =>
    rintro l pre x W ⟨⟨hb, hln, h0, h1⟩, hB⟩ _
    obtain ⟨D, Ls, hD, hLs, _, hlx, e1, e2⟩ := lnS_of x
    rw [e1, e2]
    have HTS := Lib.hid (show textK (pre ++ [x]) = textK pre ++ (indS D ++ (Ls.data.toList ++ [10])) by rw [textK_snoc, hlx])
    clear e1 e2 hlx
    have HI0 := Lib.hid h0
    have HI1 := Lib.hid h1
    have HIB := Lib.hid hb
    have HIW := Lib.hid hB
    have hbl := hb.lt
    have hzW := hB.size
    clear h0 h1 hb hB
    obtain ⟨S, hS⟩ : ∃ S : ByteArray, (⟨(Lib.repeatL (⟨#[32, 32]⟩ : ByteArray).data.toList D).toArray⟩ : ByteArray) = S := ⟨_, rfl⟩
    have hSl : S.data.toList = indS D := by rw [← hS]; exact rep_ind D
    have hSz : S.size ≤ 2000000000 := by rw [← list_size, hSl]; unfold indS; rw [List.length_replicate]; omega
    have HRP := Lib.hid (fun W => Tryz.strings_Repeat ⟨#[32, 32]⟩ D W (by omega) (by show 2 * D ≤ _; omega))
    rw [hS] at HRP
    clear hS
    gi_wp2
    refine (CallsIn.inRound l (HCI.out _ (HRP.out W))).mono ?_
    rintro e w2 ⟨rfl, hb2⟩
    have HB2 := Lib.hid hb2
    have hz2 := hb2.size
    clear hb2
    have hsum : (S ++ Ls ++ (⟨#[10]⟩ : ByteArray)).data.toList = indS D ++ (Ls.data.toList ++ [10]) := by simp [hSl]
    have hsz : (S ++ Ls ++ (⟨#[10]⟩ : ByteArray)).size ≤ 3000000000 := by
      rw [← list_size, hsum, ← hSl, List.length_append, List.length_append, list_size, list_size]
      simp; omega
    have HPW := Lib.hid (put_any (Bld.keep HIB.out HB2.out) (S ++ Ls ++ ⟨#[10]⟩) (by omega) (by omega))
    gi_wp2
    refine (CallsIn.inRound l (HCI.out _ HPW.out)).mono ?_
    rintro e w3 ⟨rfl, hb3, hbw3, ho3⟩
    rw [hsum, ← HTS.out] at hb3
    have HIB3 := Lib.hid hb3
    have HKO := Lib.hid ((below_keep HB2.out).trans (others_keep ho3 hbw3.size (fun k e => by cases e; exact (Bld.keep HIB.out HB2.out).cells)))
    have HIW3 := Lib.hid ((HIW.out.trans (HB2.out.mono hzW)).trans (hbw3.mono (by omega)))
    have g0 := (hbw3.block _ (by omega)).trans ((HB2.out.block _ (Array.getElem?_eq_some_iff.1 HI0.out).1).trans HI0.out)
    have g1 := (hbw3.block _ (by omega)).trans ((HB2.out.block _ (Array.getElem?_eq_some_iff.1 HI1.out).1).trans HI1.out)
    have HKP := Lib.hid (show KpC w.heap.size w1.heap.size W w3 from ⟨(HB2.out.mono hzW).trans (hbw3.mono (by omega)), fun k cs T fz hk hkb hT => ho3 k _ ((HB2.out.block _ (Array.getElem?_eq_some_iff.1 hk).1).trans hk) (by simpa using hkb) (by intro c2 fz2 he; injection he with _ h2 _; exact hT h2)⟩)
    have G0 := Lib.hid g0
    have G1 := Lib.hid g1
    clear hb3 hbw3 ho3 g0 g1 HB2
    have HLE := Lib.hid (len_any HIB3.out)
    gi_wp2
    refine (CallsIn.inRound l (HCI.out _ HLE.out)).mono ?_
    rintro e w4 ⟨rfl, rfl⟩
    by_cases hbig : 65536 < (textK (pre ++ [x])).length
    · have hbi : ((textK (pre ++ [x])).length : Int) > 65536 := by omega
      have c0 : w4.cell? ⟨w.heap.size, 0, none⟩ = some (.string ⟨#[]⟩) := by simp [World.cell?, G0.out]
      have f0 : w4.frozen? ⟨w.heap.size, 0, none⟩ = false := by simp [World.frozen?, G0.out]
      have c1 : w4.cell? ⟨w.heap.size + 1, 0, none⟩ = some (.int .i64 0) := by simp [World.cell?, G1.out]
      have f1 : w4.frozen? ⟨w.heap.size + 1, 0, none⟩ = false := by simp [World.frozen?, G1.out]
      gi_wp2
      refine ⟨HKO.out.trans ((KeepsOthers.setCell _ _ _).trans (KeepsOthers.setCell _ _ _)), ⟨rfl, hbig, ?_, ?_⟩, (HIW3.out.setCell (p := ⟨w.heap.size, 0, none⟩) (Nat.le_refl _) _).setCell (p := ⟨w.heap.size + 1, 0, none⟩) (by simp) _⟩
      · simp [World.setCell, Array.getElem?_modify, G0.out]
      · simp [World.setCell, Array.getElem?_modify, G1.out]
    · have hbi : ¬ ((textK (pre ++ [x])).length : Int) > 65536 := by omega
      gi_wp2
      exact ⟨HKO.out, HKP.out, ⟨HIB3.out, by omega, G0.out, G1.out⟩, HIW3.out⟩
  case done =>
    rintro D ys W hD rfl ⟨⟨hb, hln, h0, h1⟩, hB⟩ hK
    have hzW := hB.size
    have HTX2 := HTX.out
    rw [HTX2] at hb hln
    have hbl := hb.lt
    have HTT := Lib.hid (textk_any hb (by omega))
    have G0 := Lib.hid h0
    have G1 := Lib.hid h1
    have HB' := Lib.hid hB
    have HK := Lib.hid hK
    clear h0 h1 hb hB hK
    gi_wp2
    refine (HCI.out _ HTT.out).mono ?_
    rintro e w3 ⟨rfl, hbw3, ho3⟩
    have hK3 := ho3 D _ HK.out (by intro e; cases e; omega) (by intro c2 fz2 he; cases he)
    have g0 := (hbw3.block _ (by omega)).trans G0.out
    have g1 := (hbw3.block _ (by omega)).trans G1.out
    have HB3 := Lib.hid (HB'.out.trans (hbw3.mono (by omega)))
    have HG0 := Lib.hid g0
    have HG1 := Lib.hid g1
    have HK3 := Lib.hid hK3
    have c0 : w3.cell? ⟨w.heap.size, 0, none⟩ = some (.string ⟨#[]⟩) := by simp [World.cell?, g0]
    have f0 : w3.frozen? ⟨w.heap.size, 0, none⟩ = false := by simp [World.frozen?, g0]
    have c1 : w3.cell? ⟨w.heap.size + 1, 0, none⟩ = some (.int .i64 0) := by simp [World.cell?, g1]
    have f1 : w3.frozen? ⟨w.heap.size + 1, 0, none⟩ = false := by simp [World.frozen?, g1]
    clear hbw3 ho3 g0 g1 hK3
    gi_wp2
    have hK4 := ((KeepsOthers.setCell w3 ⟨w.heap.size, 0, none⟩ (.string (bs (linS c 0)))).trans (KeepsOthers.setCell _ ⟨w.heap.size + 1, 0, none⟩ (.int .i64 0))).same D _ HK3.out rfl
    refine ⟨by simp, .inl ⟨_, _, rfl, run_takeDeferred hK4, ?_⟩⟩
    have d0 := cell_kept (show ((w3.setCell ⟨w.heap.size, 0, none⟩ (.string (bs (linS c 0)))).setCell ⟨w.heap.size + 1, 0, none⟩ (.int .i64 0)).cell? ⟨w.heap.size, 0, none⟩ = some (.string (bs (linS c 0))) by simp [World.cell?, World.setCell, Array.getElem?_modify, HG0.out]) (grownBy_putObj' _ D (.deferred none)) (fun r e => by cases e; exact ⟨_, hK4, rfl⟩)
    have d1 := cell_kept (show ((w3.setCell ⟨w.heap.size, 0, none⟩ (.string (bs (linS c 0)))).setCell ⟨w.heap.size + 1, 0, none⟩ (.int .i64 0)).cell? ⟨w.heap.size + 1, 0, none⟩ = some (.int .i64 0) by simp [World.cell?, World.setCell, Array.getElem?_modify, HG1.out]) (grownBy_putObj' _ D (.deferred none)) (fun r e => by cases e; exact ⟨_, hK4, rfl⟩)
    refine ⟨.tuple #[.string (bs (linS c 0)), .int .i64 0], ?_, by first | rfl | (simp only [if_pos hln]), ((HB3.out.setCell (p := ⟨w.heap.size, 0, none⟩) (Nat.le_refl _) _).setCell (p := ⟨w.heap.size + 1, 0, none⟩) (by simp) _).trans (belowK_b (w := V) (by omega) _ D _ _ (by omega) hK4 rfl rfl)⟩
    simp [results, Tryz.f15, go_sem, d0, d1]
  case stop =>
    rintro D cd pre W hD hpre ⟨⟨rfl, hln, h0, h1⟩, hB⟩ hK
    have HPL := textK_pre hpre
    rw [HTX.out] at HPL
    gi_wp2
    refine ⟨by simp, .inl ⟨_, _, rfl, run_takeDeferred hK, ?_⟩⟩
    have c0 := cell_kept (show W.cell? ⟨w.heap.size, 0, none⟩ = some (.string ⟨#[]⟩) by simp [World.cell?, h0]) (grownBy_putObj' _ D (.deferred none)) (fun r e => by cases e; exact ⟨_, hK, rfl⟩)
    have c1 := cell_kept (show W.cell? ⟨w.heap.size + 1, 0, none⟩ = some (.int .i64 6) by simp [World.cell?, h1]) (grownBy_putObj' _ D (.deferred none)) (fun r e => by cases e; exact ⟨_, hK, rfl⟩)
    have hno : ¬ (linS c 0).length ≤ 65536 := by omega
    refine ⟨.tuple #[.string ⟨#[]⟩, .int .i64 6], ?_, by first | rfl | (simp only [if_neg hno]; rfl), hB.trans (belowK_b (w := V) (by omega) W D _ _ (by omega) hK rfl rfl)⟩
    simp [results, Tryz.f15, go_sem, c0, c1]
end Go.Proofs.YtohalocbghhenaaGreatDoor
