/- Contract of layer 11: Print of any entries. -/
import Derived.Test.YtohalocbghhenaaGreatDoorPpr
import Derived.Test.YtohalocbghhenaaGreatDoorLok
set_option linter.unusedSimpArgs false
set_option linter.unusedVariables false
namespace Go.Proofs.YtohalocbghhenaaGreatDoor
open Go.RowKit

set_option maxHeartbeats 1000000 in
set_option maxRecDepth 100000 in
theorem print_no (c : Cls) (hck : checkS c ≠ 0) (hc : c.count < 1000000000) (hsm : small c) (w : World) (a : Option Addr) (bb o cap : Nat) (F0 : Nat → Prop) (hA : SlC w F0 a bb o c.len cap c) (hT : Tabs w) :
    Calls Tryz.prog 15 #[.slice a c.len cap] w fun e w' => e = .returned (.tuple #[.string (bs []), .int .i64 (checkS c)]) ∧ Below w.heap.size w w' := by
  have HCH := Lib.hid (fun W (hB : Below w.heap.size w W) => check_any c (by omega) hsm W _ a bb o cap (SlC.low (w' := W) hA.here (fun x hx => hx.2) hB) (hT.below hB))
  clear hA hT
  generalize c.len = n at *
  generalize checkS c = z at *
  have hz1 : (z != 0) = true := by simpa using hck
  have hz0 : (z == 0) = false := by simpa using hck
  go_enter Tryz.func15, Tryz.ntmps15
  go_wp2_with fail
  have HB0 := Lib.hid (show Below w.heap.size w ((w.alloc (.cells #[.string ⟨#[]⟩] 9)).alloc (.cells #[.int .i64 0] 28)) from (by repeat (first | with_reducible exact Below.refl _ _ | (with_reducible refine Below.setCell ?_ (by first | exact Nat.le_refl _ | omega | (simp; done) | (simp; omega)) _) | (with_reducible refine Below.alloc ?_ (by first | exact Nat.le_refl _ | omega | (simp; done) | (simp; omega)) _) | with_reducible refine Below.drew ?_ | with_reducible refine bel_drewN ?_ _ | (with_reducible refine bel_by (by with_reducible assumption) (by first | exact Nat.le_refl _ | omega | (simp; done) | (simp; omega)) ?_))))
  have hr0 := Lib.hid (show ((w.alloc (.cells #[.string ⟨#[]⟩] 9)).alloc (.cells #[.int .i64 0] 28)).heap[w.heap.size]? = some (.cells #[.string ⟨#[]⟩] 9 (0, 0)) from (Below.heap_alloc _ _ _ (by simp)).trans (heap_alloc_new w _))
  have hr1 := Lib.hid (show ((w.alloc (.cells #[.string ⟨#[]⟩] 9)).alloc (.cells #[.int .i64 0] 28)).heap[w.heap.size + 1]? = some (.cells #[.int .i64 0] 28 (0, 0)) by
    have := heap_alloc_new (w.alloc (.cells #[.string ⟨#[]⟩] 9)) (.cells #[.int .i64 0] 28)
    rwa [World.size_alloc] at this)
  refine (HCH.out _ HB0.out).mono ?_
  rintro e w1 ⟨rfl, hb1⟩
  have HB1 := Lib.hid (HB0.out.trans (hb1.mono HB0.out.size))
  have r0 := (hb1.block _ (Array.getElem?_eq_some_iff.1 hr0.out).1).trans hr0.out
  have r1 := (hb1.block _ (Array.getElem?_eq_some_iff.1 hr1.out).1).trans hr1.out
  have c0 : w1.cell? ⟨w.heap.size, 0, none⟩ = some (.string ⟨#[]⟩) := by simp [World.cell?, r0]
  have f0 : w1.frozen? ⟨w.heap.size, 0, none⟩ = false := by simp [World.frozen?, r0]
  have c1 : w1.cell? ⟨w.heap.size + 1, 0, none⟩ = some (.int .i64 0) := by simp [World.cell?, r1]
  have f1 : w1.frozen? ⟨w.heap.size + 1, 0, none⟩ = false := by simp [World.frozen?, r1]
  have HR0 := Lib.hid r0
  have HR1 := Lib.hid r1
  clear hb1 HB0 hr0 hr1 r0 r1 HCH
  go_wp2_with fail
  have d0 : ((w1.setCell ⟨w.heap.size, 0, none⟩ (.string ⟨#[]⟩)).setCell ⟨w.heap.size + 1, 0, none⟩ (.int .i64 z)).cell? ⟨w.heap.size, 0, none⟩ = some (.string ⟨#[]⟩) := by simp [World.cell?, World.setCell, Array.getElem?_modify, HR0.out]
  have d1 : ((w1.setCell ⟨w.heap.size, 0, none⟩ (.string ⟨#[]⟩)).setCell ⟨w.heap.size + 1, 0, none⟩ (.int .i64 z)).cell? ⟨w.heap.size + 1, 0, none⟩ = some (.int .i64 z) := by simp [World.cell?, World.setCell, Array.getElem?_modify, HR1.out]
  have hB := (HB1.out.setCell (p := ⟨w.heap.size, 0, none⟩) (Nat.le_refl _) (.string ⟨#[]⟩)).setCell (p := ⟨w.heap.size + 1, 0, none⟩) (by simp) (.int .i64 z)
  refine bodyPost_ret (v := .tuple #[.string ⟨#[]⟩, .int .i64 z]) ?_ rfl ⟨rfl, hB⟩
  simp [results, Tryz.f15, go_sem, d0, d1]
theorem prt_any (c : Cls) (hc : c.count < 1000000000) (hsm : small c) (hlk : checkS c = 0 → lok c) (w : World) (a : Option Addr) (bb o cap : Nat) (F0 : Nat → Prop) (hA : SlC w F0 a bb o c.len cap c) (hT : Tabs w) :
    Calls Tryz.prog 15 #[.slice a c.len cap] w fun e w' => e = .returned (.tuple #[.string (bs (prtS c).1), .int .i64 (prtS c).2]) ∧ Below w.heap.size w w' := by
  by_cases h : checkS c = 0
  · obtain ⟨h1, h2⟩ := check_ok h
    have := print_any c h1 h2 hc hsm (hlk h) w a bb o cap F0 hA hT
    unfold prtS
    rw [if_pos h]
    refine this.mono ?_
    rintro e w' ⟨rfl, hb⟩
    refine ⟨?_, hb⟩
    split <;> rfl
  · unfold prtS
    rw [if_neg h]
    exact print_no c h hc hsm w a bb o cap F0 hA hT
end Go.Proofs.YtohalocbghhenaaGreatDoor
/- Contract of layer 11: Normalize. -/
namespace Go.Proofs.YtohalocbghhenaaGreatDoor
open Go.RowKit

set_option maxHeartbeats 2000000 in
set_option maxRecDepth 100000 in
theorem norm_any (s : ByteArray) (w : World) (hT : Tabs w) : Calls Tryz.prog 24 #[.string s] w fun e w' => e = .returned (.tuple #[.string (bs (nrmS s).1), fV (nrmS s).2.1 (nrmS s).2.2]) ∧ Below w.heap.size w w' := by
  have HT := Lib.hid hT
  have HP := Lib.hid (fun W hW => parl_any s W hW)
  have HPR := Lib.hid (fun (h : (parS s).2.1 = 0) W F a b cap (hA : SlC W F a b 0 (parS s).1.len cap (parS s).1) hW => show Calls Tryz.prog 15 #[.slice a (parS s).1.len cap] W (fun e w' => e = .returned (.tuple #[.string (bs (if (linS (parS s).1 0).length ≤ 65536 then linS (parS s).1 0 else [])), .int .i64 (if (linS (parS s).1 0).length ≤ 65536 then 0 else 6)]) ∧ Below W.heap.size W w') from by
    obtain ⟨p1, p2, p3, p4, p5, _⟩ := parS_room h
    exact print_any _ p1 p2 p3 p4 p5 W a b 0 cap F hA hW)
  have HN := Lib.hid (show nrmS s = if (parS s).2.1 = 0 then (if (linS (parS s).1 0).length ≤ 65536 then (linS (parS s).1 0, 0, 0) else ([], 6, 65536)) else ([], (parS s).2) from rfl)
  have HG := Lib.hid (@parS_good s)
  unfold PrlPost fV at HP
  generalize nrmS s = R at *
  generalize linS (parS s).1 0 = l at *
  generalize parS s = P at *
  obtain ⟨c, pc, pa⟩ := P
  simp only at HP HPR HN HG
  generalize c.len = n at *
  clear hT
  go_enter Tryz.func24, Tryz.ntmps24
  have HB0 := Lib.hid ((Below.refl w.heap.size w).alloc (Nat.le_refl _) (.cells #[.int .i64 0, .int .i64 0] 40))
  have HR0 := Lib.hid (ft_new w 0 0 40)
  go_wp2_with fail
  refine (HP.out _ (HT.out.below HB0.out)).mono ?_
  rintro e w1 ⟨a1, b1, cap1, rfl, sl1, hb1, _⟩
  have HB1 := Lib.hid (HB0.out.trans (Below.mono hb1 HB0.out.size))
  have HR1 := Lib.hid (HR0.out.keep hb1)
  have HL := Lib.hid (SlC.mono (G := fun y => y < w1.heap.size) (fun y hy => hy.2) sl1)
  have hs1 := HB1.out.size
  clear sl1 hb1 HP HB0 HR0
  have HB2 := Lib.hid (HB1.out.alloc hs1 (.cells #[.int .i64 pc, .int .i64 pa] 40))
  have HL2 := Lib.hid (HL.out.low (fun x hx => hx) ((Below.refl w1.heap.size w1).alloc (Nat.le_refl _) (.cells #[.int .i64 pc, .int .i64 pa] 40)))
  have HF2 := Lib.hid (ft_new w1 pc pa 40)
  have HR2 := Lib.hid (HR1.out.keep ((Below.refl _ _).alloc (Nat.le_refl _) (.cells #[.int .i64 pc, .int .i64 pa] 40)))
  obtain ⟨r0, r1, rf, rl⟩ := HR2.out
  obtain ⟨f0, f1, ff, fl⟩ := HF2.out
  clear HB1 HL
  by_cases hp : pc = 0
  · subst hp
    obtain ⟨rfl⟩ : pa = 0 := by have := HG.out rfl; simpa using this
    have hn := HN.out
    rw [if_pos rfl] at hn
    have HPX := Lib.hid (HPR.out rfl)
    clear HPR HN HG
    go_wp2_with fail
    refine (HPX.out _ _ _ _ _ HL2.out (HT.out.below HB2.out)).mono ?_
    rintro e w3 ⟨rfl, hb3⟩
    have HB3 := Lib.hid (HB2.out.trans (Below.mono hb3 HB2.out.size))
    clear r0 r1 rf rl
    obtain ⟨r0, r1, rf, rl⟩ := HR2.out.keep hb3
    clear hb3 HB2 HL2 HPX f0 f1 ff fl HF2 HR1 HR2
    by_cases hl : l.length ≤ 65536
    · rw [if_pos hl] at hn
      subst hn
      simp only [if_pos hl]
      go_wp2_with fail
      obtain ⟨W, hW, hf, hg⟩ := fin2_ex 0 0 (show FtAt w3 w.heap.size _ _ from ⟨r0, r1, rf, rl⟩)
      have hB : Below w.heap.size w W := by rw [← hW]; exact (HB3.out.setCell (p := ⟨w.heap.size, 0, none⟩) (Nat.le_refl _) _).setCell (p := ⟨w.heap.size, 1, none⟩) (Nat.le_refl _) _
      rw [hW]
      obtain ⟨g0, g1, _, _⟩ := hf
      refine bodyPost_ret (v := .tuple #[.string (bs l), .agg #[.int .i64 0, .int .i64 0]]) ?_ rfl ⟨rfl, hB⟩
      simp [results, Tryz.results24, go_sem, g0, g1, bs, fV]
    · rw [if_neg hl] at hn
      subst hn
      simp only [if_neg hl]
      go_wp2_with fail
      obtain ⟨W, hW, hf, hg⟩ := fin2_ex 6 65536 (show FtAt w3 w.heap.size _ _ from ⟨r0, r1, rf, rl⟩)
      have hB : Below w.heap.size w W := by rw [← hW]; exact (HB3.out.setCell (p := ⟨w.heap.size, 0, none⟩) (Nat.le_refl _) _).setCell (p := ⟨w.heap.size, 1, none⟩) (Nat.le_refl _) _
      rw [hW]
      obtain ⟨g0, g1, _, _⟩ := hf
      refine bodyPost_ret (v := .tuple #[.string (bs []), .agg #[.int .i64 6, .int .i64 65536]]) ?_ rfl ⟨rfl, hB⟩
      simp [results, Tryz.results24, go_sem, g0, g1, bs, fV]
  · have q0 : (pc == 0) = false := by simpa using hp
    have q1 : (pc != 0) = true := by simpa using hp
    have hn := HN.out
    rw [if_neg hp] at hn
    subst hn
    clear HPR HN HG
    go_wp2_with fail
    go_region
    all_goals
      go_wp2_with fail
      obtain ⟨W7, hW7, HFW, hgW⟩ := fin2_ex pc pa HR2.out
      rw [hW7]
      obtain ⟨g0, g1, _, _⟩ := HFW
      have HBW := (gr_below HB2.out hgW (Nat.le_refl _) (Nat.le_refl _)).trans ((Below.refl W7.heap.size W7).drew.mono (gr_below HB2.out hgW (Nat.le_refl _) (Nat.le_refl _)).size)
      refine bodyPost_ret (v := .tuple #[.string ⟨#[]⟩, .agg #[.int .i64 pc, .int .i64 pa]]) ?_ rfl ⟨rfl, HBW⟩
      simp [results, Tryz.results24, go_sem, g0, g1]
end Go.Proofs.YtohalocbghhenaaGreatDoor
/- Contract of layer 11's awake. -/
namespace Go.Proofs.YtohalocbghhenaaGreatDoor
open Go.RowKit

def egN : ByteArray := ⟨#[103, 114, 111, 117, 112, 32, 106, 117, 109, 112, 32, 108, 105, 109, 105, 116, 32, 51, 59, 115, 101, 103, 109, 101, 110, 116, 32, 102, 114, 101, 101, 123, 99, 111, 117, 110, 116, 32, 55, 32, 59, 115, 99, 111, 114, 101, 32, 109, 105, 110, 40, 97, 44, 50, 46, 53, 48, 41, 42, 40, 32, 98, 32, 41, 59, 125]⟩
def egO : List UInt8 := [103, 114, 111, 117, 112, 32, 106, 117, 109, 112, 32, 108, 105, 109, 105, 116, 32, 51, 59, 10, 115, 101, 103, 109, 101, 110, 116, 32, 102, 114, 101, 101, 32, 123, 10, 32, 32, 99, 111, 117, 110, 116, 32, 55, 59, 10, 32, 32, 115, 99, 111, 114, 101, 32, 109, 105, 110, 32, 40, 97, 44, 32, 50, 46, 53, 41, 32, 42, 32, 40, 98, 41, 59, 10, 125, 10]
theorem nrm_eg : nrmS egN = (egO, 0, 0) := by decide +kernel
set_option maxHeartbeats 2000000 in
set_option maxRecDepth 100000 in
theorem awake_any (w : World) (hT : Tabs w) : Calls Tryz.prog 10 #[] w fun e w' => e = .returned (.bool true) ∧ Below w.heap.size w w' := by
  have H1 := Lib.hid (norm_any egN w hT)
  rw [nrm_eg] at H1
  unfold fV egN egO bs at H1
  simp only [List.toArray] at H1
  clear hT
  go_enter Tryz.func10, Tryz.ntmps10
  go_wp2_with fail
  refine H1.out.mono ?_
  rintro e w1 ⟨rfl, hb1⟩
  have HB1 := Lib.hid hb1
  have hs1 := hb1.size
  have HB2 := Lib.hid (HB1.out.alloc hs1 (.cells #[.int .i64 0, .int .i64 0] 40))
  have HF2 := Lib.hid (ft_new w1 0 0 40)
  obtain ⟨f0, f1, ff, fl⟩ := HF2.out
  clear hb1
  go_wp2_with fail
  go_ret
  exact ⟨by first | rfl | decide +kernel, by first | exact HB1.out | exact HB2.out⟩
end Go.Proofs.YtohalocbghhenaaGreatDoor
