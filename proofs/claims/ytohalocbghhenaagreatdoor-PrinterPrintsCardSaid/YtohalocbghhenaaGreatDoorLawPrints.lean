/- Contract of layer 11: Lines, which counts the lines. -/
import Derived.Test.YtohalocbghhenaaGreatDoorPpr
import Derived.Test.YtohalocbghhenaaGreatDoorLok
import Derived.Test.YtohalocbghhenaaGreatDoorQsr
import Derived.Test.YtohalocbghhenaaGreatDoorLawReads
set_option linter.unusedSimpArgs false
set_option linter.unusedVariables false
namespace Go.Proofs.YtohalocbghhenaaGreatDoor
open Go.RowKit Go.Shelf

attribute [local go_sem] Oper.semAt_some

theorem lines_le : ∀ (c : Cls) (d : Nat), (linesC c d).length ≤ 2 * c.count
  | .nil, _ => Nat.le_refl _
  | .cons wd xs bl k a r, d => by
    have hr := lines_le r d
    have hk := lines_le k (d + 1)
    cases bl <;> simp [linesC, Cls.count] <;> omega
set_option maxHeartbeats 2000000 in
set_option maxRecDepth 100000 in
theorem plines_any (c : Cls) (hck : checkS c = 0) (hc : c.count ≤ 1000000) (hsm : small c) (hlk : lok c) (w : World) (a : Option Addr) (bb o cap : Nat) (F0 : Nat → Prop) (hA : SlC w F0 a bb o c.len cap c) (hT : Tabs w) :
    Calls Tryz.prog 16 #[.slice a c.len cap] w fun e w' => e = .returned (.tuple #[.int .i64 ((linesC c 0).length : Int), .int .i64 0]) ∧ Below w.heap.size w w' := by
  have HA := Lib.hid hA.here
  have HT := Lib.hid hT
  have HCH := Lib.hid (fun W (h : SlC W (fun x => F0 x ∧ x < w.heap.size) a bb o c.len cap c) hW => check_any c (by omega) hsm W _ a bb o cap h hW)
  rw [hck] at HCH
  have hle := lines_le c 0
  clear hA hT
  have HFL := Lib.hid (show FlC Fence.wide from fun m wd xs bl av aa ak ba oa la ca kl ck W h1 h2 h3 h4 h5 h6 => callsIn_wide.2 (firstLine_any wd xs bl av aa ak ba oa la ca kl ck h1 h2 h3 h4 W h5 h6))
  obtain ⟨F, hF⟩ : ∃ F, F = Fence.wide := ⟨_, rfl⟩
  refine (callsIn_wide (n := 6)).1 ?_
  rw [← hF] at HFL ⊢
  have hro : F.round = none := by rw [hF]; rfl
  have hdp : F.depth = none := by rw [hF]; rfl
  have hfn : ∀ f, F.fn f := by rw [hF]; intro f; trivial
  have HCI := Lib.hid (fun (m : Nat) {f : FuncId} {args : Array Value} {W : World} {R : Ending → World → Prop} (h : Calls Tryz.prog f args W R) => (show CallsIn F m Tryz.prog f args W R by rw [hF]; exact callsIn_wide.2 h))
  clear hF
  refine callsIn_of_wp_marks Tryz.func16 rfl (hfn _) ?_ hro
  simp only [Tryz.ntmps16, List.size_toArray, List.length_cons, List.length_nil, Nat.reduceAdd, Nat.reduceSub, Array.replicate_succ, Array.replicate_zero, List.push_toArray, List.append_toArray, List.nil_append, List.cons_append]
  gi_wp2
  refine (HCI.out 5 (HCH.out _ HA.out HT.out)).mono ?_
  rintro e w1 ⟨rfl, hb1⟩
  have HB1 := Lib.hid hb1
  have hz1 := hb1.size
  clear hb1 HCH
  gi_wp2
  have HBV := Lib.hid (HB1.out.alloc hz1 (.cells #[.int .i64 0] 3))
  have HCV := Lib.hid (show (w1.alloc (.cells #[.int .i64 0] 3)).heap[w1.heap.size]? = some (.cells #[.int .i64 0] 3 (0, 0)) from heap_alloc_new w1 _)
  have hzV : (w1.alloc (.cells #[.int .i64 0] 3)).heap.size = w1.heap.size + 1 := by simp
  refine (lines_in F 5 (hfn _) hro a c.len cap _).mono ?_
  rintro e w2 ⟨rfl, rfl⟩
  gi_wp2
  have HW2 := Lib.hid (show Below w.heap.size w ((w1.alloc (.cells #[.int .i64 0] 3)).alloc (.cells #[.slice a c.len cap] 23)) from HBV.out.alloc HBV.out.size _)
  have HCW := Lib.hid (show ((w1.alloc (.cells #[.int .i64 0] 3)).alloc (.cells #[.slice a c.len cap] 23)).heap[w1.heap.size]? = some (.cells #[.int .i64 0] 3 (0, 0)) from (Below.heap_alloc _ _ _ (by simp)).trans HCV.out)
  have HCB := Lib.hid (show ((w1.alloc (.cells #[.int .i64 0] 3)).alloc (.cells #[.slice a c.len cap] 23)).cell? ⟨w1.heap.size + 1, 0, none⟩ = some (.slice a c.len cap) by simp [go_sem])
  have hzW : ((w1.alloc (.cells #[.int .i64 0] 3)).alloc (.cells #[.slice a c.len cap] 23)).heap.size = w1.heap.size + 1 + 1 := by simp
  generalize ((w1.alloc (.cells #[.int .i64 0] 3)).alloc (.cells #[.slice a c.len cap] 23)) = V at *
  clear HBV HCV hzV HB1
  refine wpIn_rangeFunc_ownF hro (by omega) (gf := 57) (lb := #[.pointer (some ⟨w1.heap.size + 1, 0, none⟩)]) rfl (hfn _) (enters_of Tryz.func57 (by kernel_rfl) rfl)
    (lines_stops F hdp (6 - 1) (hfn _) (hfn _) (hfn _) hro HFL w HT (w1.heap.size + 1) w1.heap.size c a bb o cap V (by omega) hlk (HA.out.mono (fun x hx => hx.2)) HW2.out (by omega) (by omega) HCB.out)
    KpC.trans (fun W l ob ob' h1 h2 h3 h4 => ⟨belowK_b (w := V) (by omega) W l ob ob' h1 h2 h3 h4, fun k cs T fz hk _ _ => (World.putObj_heap_other (by intro e; subst e; rw [hk] at h2; cases h2; cases h3)).trans hk⟩) (Below.refl _ _) (fun _ => rfl)
    (fun pre W => W.heap[w1.heap.size]? = some (.cells #[.int .i64 (pre.length : Int)] 3 (0, 0)) ∧ Below w.heap.size w W)
    (fun cd pre W => False ∧ Below w.heap.size w W)
    (OwnFrom.and (show OwnFrom V.heap.size (fun (pre : List (Nat × List UInt8)) (W : World) => W.heap[w1.heap.size]? = some (.cells #[.int .i64 (pre.length : Int)] 3 (0, 0))) from Own.from (fun s A B row hs hg hr => cells_kept (k := w1.heap.size) (cs := #[.int .i64 ((List.length s : Nat) : Int)]) (T := 3) (fz := (0, 0)) hs hg hr) _) (ownFrom_below (Nat.le_refl _) (by omega)))
    (fun cd => OwnFrom.and (show OwnFrom V.heap.size (fun (pre : List (Nat × List UInt8)) (W : World) => False) from Own.from (fun s A B row hs hg hr => hs) _) (ownFrom_below (Nat.le_refl _) (by omega)))
    ⟨HCW.out, HW2.out⟩
    (fun x => { tmps := #[.slice a c.len cap, undef, .int .i64 0, .int .i64 0, .int .i64 0, .pointer (some ⟨w1.heap.size, 0, none⟩), .slice a c.len cap, .int .i64 0, .int .i64 0, .bool false, undef, .slice a c.len cap, .func (.func 57) #[] #[.pointer (some ⟨w1.heap.size + 1, 0, none⟩)], .int .i64 ((min x.1 1000000000 : Nat) : Int), .string (bs (x.2.take 50000000)), undef, undef, undef], defers := [] }) ?assign ?body ?done ?stop
  case assign =>
    intro l x W K hK
    simp only [encL]
    gi_wp2
    first | exact hK | (simp; exact hK) | simpa using hK | (simp [Array.zip, Array.zipWith]; exact hK)
  case body =>
    rintro l pre x W ⟨h0, hB⟩ hpl
    have hplz : pre.length ≤ 3000000 := by omega
    have HI0 := Lib.hid h0
    have HIW := Lib.hid hB
    have hzW2 := hB.size
    have c0 : W.cell? ⟨w1.heap.size, 0, none⟩ = some (.int .i64 (pre.length : Int)) := by simp [World.cell?, h0]
    have f0 : W.frozen? ⟨w1.heap.size, 0, none⟩ = false := by simp [World.frozen?, h0]
    have hlb := (Array.getElem?_eq_some_iff.1 h0).1
    clear h0 hB
    gi_wp2
    refine ⟨KeepsOthers.setCell _ _ _, ⟨(Below.refl _ _).setCell (p := ⟨w1.heap.size, 0, none⟩) hz1 _, fun k cs T fz hk hkb hT => (Below.heap_setCell _ _ _ _ hkb).trans hk⟩, ?_, HIW.out.setCell (p := ⟨w1.heap.size, 0, none⟩) hz1 _⟩
    simp [World.setCell, Array.getElem?_modify, HI0.out]
  case done =>
    rintro D ys W hD rfl ⟨h0, hB⟩ hK
    have HI0 := Lib.hid h0
    have HIW := Lib.hid hB
    have HK := Lib.hid hK
    have c0 : W.cell? ⟨w1.heap.size, 0, none⟩ = some (.int .i64 ((linesC c 0).length : Int)) := by simp [World.cell?, h0]
    clear h0 hB hK
    gi_wp2
    refine ⟨by simp, .inl ⟨_, _, rfl, run_takeDeferred HK.out, ?_⟩⟩
    refine ⟨.tuple #[.int .i64 ((linesC c 0).length : Int), .int .i64 0], ?_, rfl, HIW.out.trans (belowK_b (w := V) (by omega) _ D _ _ (by omega) HK.out rfl rfl)⟩
    simp [results, Tryz.f16, go_sem]
  case stop =>
    rintro D cd pre W hD hpre ⟨hF, _⟩ hK
    exact hF.elim
end Go.Proofs.YtohalocbghhenaaGreatDoor
/- The law of printed entries and their lines: for every slice of entries. -/
namespace Go.Proofs.YtohalocbghhenaaGreatDoor
open Go.RowKit

set_option maxHeartbeats 1000000 in
set_option maxRecDepth 100000 in
theorem plines_no (c : Cls) (hck : checkS c ≠ 0) (hc : c.count < 1000000000) (hsm : small c) (w : World) (a : Option Addr) (bb o cap : Nat) (F0 : Nat → Prop) (hA : SlC w F0 a bb o c.len cap c) (hT : Tabs w) :
    Calls Tryz.prog 16 #[.slice a c.len cap] w fun e w' => e = .returned (.tuple #[.int .i64 0, .int .i64 (checkS c)]) ∧ Below w.heap.size w w' := by
  have HCH := Lib.hid (check_any c (by omega) hsm w _ a bb o cap hA hT)
  clear hA hT
  generalize c.len = n at *
  generalize checkS c = z at *
  have hz1 : (z != 0) = true := by simpa using hck
  have hz0 : (z == 0) = false := by simpa using hck
  go_enter Tryz.func16, Tryz.ntmps16
  go_wp2_with fail
  refine HCH.out.mono ?_
  rintro e w1 ⟨rfl, hb1⟩
  go_wp2_with fail
  go_ret2
  exact ⟨rfl, hb1⟩
set_option maxHeartbeats 4000000 in
set_option maxRecDepth 100000 in
theorem prints_walk {c : Cls} {a : Option Addr} {b o cap : Nat} {w : World} (hA : SlC w AllB a b o c.len cap c) (hT : Tabs w) :
    Calls Tryz.prog 4 #[.slice a c.len cap] w fun e w' => e = .returned (.bool true) ∧ Below w.heap.size w w' := by
  have HW := Lib.hid (awake_any w hT)
  have HT := Lib.hid hT
  have HSL := Lib.hid (fun W (hB : Below w.heap.size w W) => SlC.low (w' := W) hA.here (fun x hx => hx.2) hB)
  have HSM := Lib.hid (fun W (hB : Below w.heap.size w W) => small_any (c := c) (m := 300) (by omega) (by omega) (HSL.out W hB))
  cases hr : decide (0 ≤ roomS c 300) with
  | false =>
    rw [hr] at HSM
    generalize c.len = y at *
    clear hA hT HSL hr
    go_enter Tryz.func4, Tryz.ntmps4
    go_wp2_with fail
    refine HW.out.mono ?_
    rintro e w1 ⟨rfl, hb1⟩
    have HB1 := Lib.hid hb1
    clear hb1 HW
    go_wp2_with fail
    refine (HSM.out _ HB1.out).mono ?_
    rintro e w2 ⟨rfl, rfl⟩
    go_wp2_with fail
    go_ret
    exact ⟨rfl, HB1.out⟩
  | true =>
    have h0 := of_decide_eq_true hr
    obtain ⟨r1, r2, r3⟩ := room_print (Int.le_refl _) h0
    have hty := room_tiny c 300 (by decide) h0
    rw [hr] at HSM
    have HPR := Lib.hid (fun W (hB : Below w.heap.size w W) => prt_any c (by omega) r2 r3 W a b o cap _ (HSL.out W hB) (hT.below hB))
    have HRP := Lib.hid (fun W (hB : Below w.heap.size w W) => rprint_any c (by omega) hty r3 W _ a b o cap (HSL.out W hB) (hT.below hB))
    have HCK := Lib.hid (fun W (hB : Below w.heap.size w W) => rcheck_any c (by omega) hty W _ a b o cap (HSL.out W hB) (hT.below hB))
    by_cases hck : checkS c = 0
    · have hf := (check_ok hck).1
      have HLN := Lib.hid (fun W (hB : Below w.heap.size w W) => plines_any c hck (by omega) r2 (r3 hck) W a b o cap _ (HSL.out W hB) (hT.below hB))
      have HRL := Lib.hid (fun W (hB : Below w.heap.size w W) => rlns_any c (by omega) hf (r3 hck) W _ a b o cap (HSL.out W hB) (hT.below hB))
      have HCN := Lib.hid (fun W (hB : Below w.heap.size w W) => count_any (c.count + 1) (by omega) c (Nat.lt_succ_self _) W _ a b o cap (HSL.out W hB))
      have HBK := Lib.hid (fun W (hB : Below w.heap.size w W) => rblocks_any (c.count + 1) (by omega) c (Nat.lt_succ_self _) W _ a b o cap (HSL.out W hB))
      rw [lines_count c 0 hf] at HLN
      rw [refL_len c hf] at HRL
      rw [hck] at HCK
      have hbl := blocks_count c
      generalize prtS c = P at *
      obtain ⟨l, z⟩ := P
      simp only at HPR HRP
      generalize bs l = S at *
      generalize c.count = cn at *
      generalize blocks c = cb at *
      obtain ⟨q, hq⟩ : ∃ q, cn + cb = q := ⟨_, rfl⟩
      rw [hq] at HLN HRL
      have hqi : (cn : Int) + (cb : Int) = (q : Int) := by omega
      generalize c.len = y at *
      clear hA hT HSL hr r2 r3 hty hck h0 hf
      go_enter Tryz.func4, Tryz.ntmps4
      go_wp2_with fail
      refine HW.out.mono ?_
      rintro e w1 ⟨rfl, hb1⟩
      have HB1 := Lib.hid hb1
      clear hb1 HW
      go_wp2_with fail
      refine (HSM.out _ HB1.out).mono ?_
      rintro e w2 ⟨rfl, rfl⟩
      go_wp2_with fail
      refine (HPR.out _ HB1.out).mono ?_
      rintro e w2 ⟨rfl, hb2⟩
      have HB2 := Lib.hid (HB1.out.trans (Below.mono hb2 HB1.out.size))
      clear hb2 HB1 HSM HPR
      go_wp2_with fail
      refine (HLN.out _ HB2.out).mono ?_
      rintro e w3 ⟨rfl, hb3⟩
      have HB3 := Lib.hid (HB2.out.trans (Below.mono hb3 HB2.out.size))
      clear hb3 HB2 HLN
      go_wp2_with fail
      refine (HRP.out _ HB3.out).mono ?_
      rintro e w4 ⟨rfl, hb4⟩
      have HB4 := Lib.hid (HB3.out.trans (Below.mono hb4 HB3.out.size))
      clear hb4 HB3 HRP
      go_wp2_with fail
      refine (HCK.out _ HB4.out).mono ?_
      rintro e w5 ⟨rfl, hb5⟩
      have HB5 := Lib.hid (HB4.out.trans (Below.mono hb5 HB4.out.size))
      clear hb5 HB4 HCK
      go_wp2_with fail
      refine (HRL.out _ HB5.out).mono ?_
      rintro e w6 ⟨rfl, hb6⟩
      have HB6 := Lib.hid (HB5.out.trans (Below.mono hb6 HB5.out.size))
      clear hb6 HB5 HRL
      go_wp2_with fail
      refine (HCN.out _ HB6.out).mono ?_
      rintro e w7 ⟨rfl, hb7⟩
      have HB7 := Lib.hid (HB6.out.trans (Below.mono hb7 HB6.out.size))
      clear hb7 HB6 HCN
      go_wp2_with fail
      refine (HBK.out _ HB7.out).mono ?_
      rintro e w8 ⟨rfl, rfl⟩
      go_wp2_with fail
      go_ret
      exact ⟨by first | rfl | simp, HB7.out⟩
    · have HLN := Lib.hid (fun W (hB : Below w.heap.size w W) => plines_no c hck (by omega) r2 W a b o cap _ (HSL.out W hB) (hT.below hB))
      have hp : prtS c = ([], checkS c) := by unfold prtS; rw [if_neg hck]
      rw [hp] at HPR HRP
      simp only at HPR HRP
      generalize checkS c = z at *
      have z0 : (z == 0) = false := by simpa using hck
      have z1 : (z != 0) = true := by simpa using hck
      generalize bs [] = S at *
      generalize c.len = y at *
      clear hA hT HSL hr r1 r2 r3 hty h0 hp
      go_enter Tryz.func4, Tryz.ntmps4
      go_wp2_with fail
      refine HW.out.mono ?_
      rintro e w1 ⟨rfl, hb1⟩
      have HB1 := Lib.hid hb1
      clear hb1 HW
      go_wp2_with fail
      refine (HSM.out _ HB1.out).mono ?_
      rintro e w2 ⟨rfl, rfl⟩
      go_wp2_with fail
      refine (HPR.out _ HB1.out).mono ?_
      rintro e w2 ⟨rfl, hb2⟩
      have HB2 := Lib.hid (HB1.out.trans (Below.mono hb2 HB1.out.size))
      clear hb2 HB1 HSM HPR
      go_wp2_with fail
      refine (HLN.out _ HB2.out).mono ?_
      rintro e w3 ⟨rfl, hb3⟩
      have HB3 := Lib.hid (HB2.out.trans (Below.mono hb3 HB2.out.size))
      clear hb3 HB2 HLN
      go_wp2_with fail
      refine (HRP.out _ HB3.out).mono ?_
      rintro e w4 ⟨rfl, hb4⟩
      have HB4 := Lib.hid (HB3.out.trans (Below.mono hb4 HB3.out.size))
      clear hb4 HB3 HRP
      go_wp2_with fail
      refine (HCK.out _ HB4.out).mono ?_
      rintro e w5 ⟨rfl, hb5⟩
      have HB5 := Lib.hid (HB4.out.trans (Below.mono hb5 HB4.out.size))
      go_wp2_with fail
      go_ret
      exact ⟨by first | rfl | simp, HB5.out⟩
end Go.Proofs.YtohalocbghhenaaGreatDoor
