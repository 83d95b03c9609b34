/- Contract of layer 10's awake. -/
import Derived.Test.YtiofekoadjgjdaaGreatDoorPrs
import Derived.Test.YtiofekoadjgjdaaGreatDoorSmc
import Derived.Test.YtiofekoadjgjdaaGreatDoorFnd
set_option linter.unusedSimpArgs false
set_option linter.unusedVariables false
namespace Go.Proofs.YtiofekoadjgjdaaGreatDoor
open Go.RowKit

def egA : ByteArray := ⟨#[103, 114, 111, 117, 112, 32, 106, 117, 109, 112, 32, 108, 105, 109, 105, 116, 32, 51, 59, 32, 115, 101, 103, 109, 101, 110, 116, 32, 102, 114, 101, 101, 32, 123, 32, 99, 111, 117, 110, 116, 32, 55, 59, 32, 125]⟩
def egB : ByteArray := ⟨#[97, 32, 98, 32, 125]⟩
def wGroup : ByteArray := ⟨#[103, 114, 111, 117, 112]⟩
def wSeg : ByteArray := ⟨#[115, 101, 103, 109, 101, 110, 116]⟩
def xsA : List Tk := [⟨1, bs [106, 117, 109, 112], 0, 6⟩, ⟨1, bs [108, 105, 109, 105, 116], 0, 11⟩, ⟨2, bs [], 3000, 17⟩]
def kdA : Cls := .cons (bs [99, 111, 117, 110, 116]) [⟨2, bs [], 7000, 41⟩] false .nil 35 .nil
def clsB : Cls := .cons wSeg [⟨1, bs [102, 114, 101, 101], 0, 28⟩] true kdA 20 .nil
def clsA : Cls := .cons wGroup xsA false .nil 0 clsB
def cls1 : Cls := .cons wGroup xsA false .nil 0 .nil
def clsS : Cls := .cons ⟨#[59]⟩ [] false .nil 0 .nil
theorem par_egA : parS egA = (clsA, 0, 0) := by decide +kernel
theorem par_egB : parS egB = (.nil, 2, 4) := by decide +kernel
theorem chk_A : checkS clsA = 0 := by decide +kernel
theorem chk_S : checkS clsS = 2 := by decide +kernel
theorem cnt_A : clsA.count = 3 := by decide +kernel
theorem dep_A : clsA.depth = 1 := by decide +kernel
theorem sam_1 : decide (clsA.zero = cls1.zero) = false := by decide +kernel
theorem sml_A : small clsA := by
  refine ⟨by decide, ?_, trivial, by decide, ?_, ⟨by decide, ?_, trivial, trivial⟩, trivial⟩
  all_goals intro t ht; simp only [xsA, List.mem_cons, List.not_mem_nil, or_false] at ht; rcases ht with rfl | rfl | rfl <;> decide
theorem sml_S : small clsS := by
  refine ⟨by decide, ?_, trivial, trivial⟩
  intro t h
  exact absurd h (by simp)
theorem slc_one {w : World} {F : Nat → Prop} {a : Option Addr} {b o cap : Nat} {wd : ByteArray} {xs : List Tk} {bl : Bool} {k : Cls} {av : Int} {r : Cls} (h : SlC w F a b o (r.len + 1) cap (.cons wd xs bl k av r)) : SlC w F a b o 1 cap (.cons wd xs bl k av .nil) := by
  obtain ⟨h1, h2, h3, h4, h5, h6, h7, h8, h9, _⟩ := h
  exact ⟨rfl, by omega, h3, fun _ => h4 (by omega), h5, h6, h7, h8, h9, trivial⟩
theorem slc_new (w : World) (wd : ByteArray) : SlC (w.alloc (.cells #[.string wd, .slice none 0 0, .bool false, .slice none 0 0, .int .i64 0] 41)) (fun x => w.heap.size ≤ x) (some ⟨w.heap.size, 0, none⟩) w.heap.size 0 1 1 (.cons wd [] false .nil 0 .nil) := by
  obtain ⟨c0, c1, c2, c3, c4, _, cl⟩ := cl_new w wd (.slice none 0 0) (.slice none 0 0) false 0 41
  exact ⟨rfl, Nat.le_refl _, by unfold maxLen; omega, fun _ => ⟨rfl, cl, Nat.le_refl _⟩, ⟨none, 0, 0, 0, 0, c1, slt_nil _, fun h => absurd h (Nat.lt_irrefl 0)⟩, ⟨none, 0, 0, 0, c3, Nat.le_refl _, Nat.zero_le _, fun h => absurd h (Nat.lt_irrefl 0), trivial⟩, c0, c2, c4, trivial⟩
set_option maxHeartbeats 8000000 in
set_option maxRecDepth 100000 in
theorem awake_any (w : World) (hT : Tabs w) : Calls Tryz.prog 5 #[] w fun e w' => e = .returned (.bool true) ∧ Below w.heap.size w w' := by
  have HT := Lib.hid hT
  have H1 := Lib.hid (fun W hW => parse_any egA W hW)
  have H2 := Lib.hid (fun W hW => parse_any egB W hW)
  rw [par_egA] at H1
  rw [par_egB] at H2
  unfold PrsPost fV at H1 H2
  unfold egA at H1
  unfold egB at H2
  have HCN := Lib.hid (fun W (F : Nat → Prop) a b cap (h : SlC W F a b 0 2 cap clsA) => show Calls Tryz.prog 14 #[.slice a 2 cap] W (fun e w' => e = .returned (.int .i64 3) ∧ Below W.heap.size W w') from by
    have := count_any 4 (by decide) clsA (by rw [cnt_A]; decide) W F a b 0 cap h
    rw [cnt_A] at this
    exact this)
  have HDP := Lib.hid (fun W (F : Nat → Prop) a b cap (h : SlC W F a b 0 2 cap clsA) => show Calls Tryz.prog 15 #[.slice a 2 cap] W (fun e w' => e = .returned (.int .i64 1) ∧ Below W.heap.size W w') from by
    have := depth_any 4 (by decide) clsA (by rw [cnt_A]; decide) W F a b 0 cap h
    rw [dep_A] at this
    exact this)
  have HSM := Lib.hid (fun W (F : Nat → Prop) a b cap (h : SlC W F a b 0 2 cap clsA) => show Calls Tryz.prog 13 #[.slice a 2 cap, .slice a 2 cap] W (fun e w' => e = .returned (.bool true) ∧ Below W.heap.size W w') from by
    have := same_any 4 (by decide) clsA clsA (by rw [cnt_A]; decide) (by decide) W F F a a b 0 cap b 0 cap h h
    rw [decide_eq_true rfl] at this
    exact this)
  have HS1 := Lib.hid (fun W (F : Nat → Prop) a b cap (h : SlC W F a b 0 2 cap clsA) => show Calls Tryz.prog 13 #[.slice a 2 cap, .slice a 1 cap] W (fun e w' => e = .returned (.bool false) ∧ Below W.heap.size W w') from by
    have := same_any 4 (by decide) clsA cls1 (by rw [cnt_A]; decide) (by decide) W F F a a b 0 cap b 0 cap h (slc_one (r := clsB) h)
    rw [sam_1] at this
    exact this)
  have HCK := Lib.hid (fun W (F : Nat → Prop) a b cap (h : SlC W F a b 0 2 cap clsA) hW => show Calls Tryz.prog 10 #[.slice a 2 cap] W (fun e w' => e = .returned (.int .i64 0) ∧ Below W.heap.size W w') from by
    have := check_any clsA (by rw [cnt_A]; decide) sml_A W F a b 0 cap h hW
    rw [chk_A] at this
    exact this)
  have HCS := Lib.hid (fun W (F : Nat → Prop) a b cap (h : SlC W F a b 0 1 cap clsS) hW => show Calls Tryz.prog 10 #[.slice a 1 cap] W (fun e w' => e = .returned (.int .i64 2) ∧ Below W.heap.size W w') from by
    have := check_any clsS (by decide) sml_S W F a b 0 cap h hW
    rw [chk_S] at this
    exact this)
  have HFI := Lib.hid (fun W (F : Nat → Prop) a b cap (h : SlC W F a b 0 2 cap clsA) => find0_any wGroup wSeg xsA _ false _ _ _ _ W F a b 0 cap h (by decide) (by decide) (by decide))
  unfold wGroup at HFI
  clear hT
  go_enter Tryz.func5, Tryz.ntmps5
  go_wp2_with fail
  refine (H1.out _ HT.out).mono ?_
  rintro e w1 ⟨v1, vs1, rfl, ho1, hr1, hb1⟩
  obtain ⟨a1, b1, cap1, rfl, sl1⟩ := (show ∃ a b cap, v1 = .slice a 2 cap ∧ SlC w1 (fun x => w.heap.size ≤ x) a b 0 2 cap clsA from slC_own ho1 (hr1.mono fun x hx => hx.1) (fun x hx => (ho1.lt x hx).1))
  have HL := Lib.hid sl1.here
  obtain ⟨rfl, hbl, _⟩ := sl1.2.2.2.1 (by decide)
  have hcap := sl1.2.1
  have hmax := sl1.2.2.1
  unfold maxLen at hmax
  have HB1 := Lib.hid hb1
  have hs1 := hb1.size
  have HF1 := Lib.hid (ft_new w1 0 0 26)
  have HBA := Lib.hid (hb1.alloc hs1 (.cells #[.int .i64 0, .int .i64 0] 26))
  have HWA := Lib.hid ((Below.refl w1.heap.size w1).alloc (Nat.le_refl _) (.cells #[.int .i64 0, .int .i64 0] 26))
  clear sl1 ho1 hr1 hb1 H1
  go_wp2_with fail
  refine (H2.out _ (HT.out.below HBA.out)).mono ?_
  rintro e w2 ⟨v2, vs2, rfl, ho2, _, hb2⟩
  obtain ⟨a2, c2, rfl⟩ := own_form ho2
  have hs2 := hb2.size
  simp only [World.size_alloc] at hs2
  have HBB := Lib.hid (bel_by hb2 (by simp; omega) HBA.out)
  have HWB := Lib.hid (bel_by hb2 (by simp) HWA.out)
  have HF2 := Lib.hid (HF1.out.keep hb2)
  clear ho2 hb2 H2 HF1 HBA HWA
  have HF3 := Lib.hid (HF2.out.keep ((Below.refl _ _).alloc (Nat.le_refl _) (.cells #[.int .i64 2, .int .i64 4] 26)))
  have HG3 := Lib.hid (ft_new w2 2 4 26)
  have HB3 := Lib.hid (HBB.out.alloc (by omega) (.cells #[.int .i64 2, .int .i64 4] 26))
  have HW3 := Lib.hid (HWB.out.alloc (by omega) (.cells #[.int .i64 2, .int .i64 4] 26))
  clear HF2 HBB HWB
  obtain ⟨⟨aa, ba, oa, la, ca, x1, x2, _⟩, ⟨ak, bk, ok, ck, y1, _⟩, z1, z2, z3, ⟨aa', ba', oa', la', ca', x1', x2', _⟩, ⟨ak', bk', ok', ck', y1', _⟩, z1', z2', z3', _⟩ := (HL.out.low (fun x hx => hx.2) HW3.out).2.2.2.2
  obtain rfl : la = 3 := x2.hl.symm
  have y1' : ((w2.alloc (.cells #[.int .i64 2, .int .i64 4] 26))).cell? ⟨b1, 8, none⟩ = some (.slice ak' 1 ck') := y1'
  have z2' : ((w2.alloc (.cells #[.int .i64 2, .int .i64 4] 26))).cell? ⟨b1, 7, none⟩ = some (.bool true) := z2'
  have x1 : ((w2.alloc (.cells #[.int .i64 2, .int .i64 4] 26))).cell? ⟨b1, 1, none⟩ = some (.slice aa 3 ca) := x1
  obtain ⟨f0, f1, ff, fl⟩ := HF3.out
  obtain ⟨g0, g1, gf, gl⟩ := HG3.out
  clear x2 y1 z1 z2 z3 x1' x2' z1' z3'
  go_wp2_with fail
  clear f0 f1 ff fl g0 g1 gf gl x1 y1' z2'
  refine (HCN.out _ _ _ _ _ (HL.out.low (fun x hx => hx.2) HW3.out)).mono ?_
  rintro e w4 ⟨rfl, hb4⟩
  have HB4 := Lib.hid (HB3.out.trans (Below.mono hb4 HB3.out.size))
  have HW4 := Lib.hid (HW3.out.trans (Below.mono hb4 HW3.out.size))
  have HG4 := Lib.hid (HG3.out.keep hb4)
  clear hb4 HB3 HW3 HG3 HF3
  go_wp2_with fail
  refine (HDP.out _ _ _ _ _ (HL.out.low (fun x hx => hx.2) HW4.out)).mono ?_
  rintro e w5 ⟨rfl, hb5⟩
  have HB5 := Lib.hid (HB4.out.trans (Below.mono hb5 HB4.out.size))
  have HW5 := Lib.hid (HW4.out.trans (Below.mono hb5 HW4.out.size))
  obtain ⟨g0, g1, gf, gl⟩ := HG4.out.keep hb5
  clear hb5 HB4 HW4 HG4
  go_wp2_with fail
  refine (HSM.out _ _ _ _ _ (HL.out.low (fun x hx => hx.2) HW5.out)).mono ?_
  rintro e w6 ⟨rfl, hb6⟩
  have HB6 := Lib.hid (HB5.out.trans (Below.mono hb6 HB5.out.size))
  have HW6 := Lib.hid (HW5.out.trans (Below.mono hb6 HW5.out.size))
  clear hb6 HB5 HW5 g0 g1 gf gl
  go_wp2_with fail
  refine (HS1.out _ _ _ _ _ (HL.out.low (fun x hx => hx.2) HW6.out)).mono ?_
  rintro e w7 ⟨rfl, hb7⟩
  have HB7 := Lib.hid (HB6.out.trans (Below.mono hb7 HB6.out.size))
  have HW7 := Lib.hid (HW6.out.trans (Below.mono hb7 HW6.out.size))
  clear hb7 HB6 HW6
  go_wp2_with fail
  refine (HCK.out _ _ _ _ _ (HL.out.low (fun x hx => hx.2) HW7.out) (HT.out.below HB7.out)).mono ?_
  rintro e w8 ⟨rfl, hb8⟩
  have HB8 := Lib.hid (HB7.out.trans (Below.mono hb8 HB7.out.size))
  have HW8 := Lib.hid (HW7.out.trans (Below.mono hb8 HW7.out.size))
  clear hb8 HB7 HW7
  have hs8 := HB8.out.size
  have hs8w := HW8.out.size
  have HB8a := Lib.hid (HB8.out.alloc (by omega) (.cells #[.string ⟨#[59]⟩, .slice none 0 0, .bool false, .slice none 0 0, .int .i64 0] 41))
  have HW8a := Lib.hid (HW8.out.alloc (by omega) (.cells #[.string ⟨#[59]⟩, .slice none 0 0, .bool false, .slice none 0 0, .int .i64 0] 41))
  go_wp2_with fail
  refine (HCS.out _ _ _ _ _ (slc_new w8 ⟨#[59]⟩) (HT.out.below HB8a.out)).mono ?_
  rintro e w9 ⟨rfl, hb9⟩
  have HB9 := Lib.hid (HB8a.out.trans (Below.mono hb9 HB8a.out.size))
  have HW9 := Lib.hid (HW8a.out.trans (Below.mono hb9 HW8a.out.size))
  clear hb9 HB8a HW8a HB8 HW8
  go_wp2_with fail
  refine (HFI.out _ _ _ _ _ (HL.out.low (fun x hx => hx.2) HW9.out)).mono ?_
  rintro e w10 ⟨⟨a9, c9, rfl⟩, hb10⟩
  have HB10 := Lib.hid (HB9.out.trans (Below.mono hb10 HB9.out.size))
  clear hb10
  go_wp2_with fail
  go_ret
  exact ⟨rfl, HB10.out⟩
end Go.Proofs.YtiofekoadjgjdaaGreatDoor
