/- Contract of layer 11: Line; an entry as a list of its own. -/
import Derived.Test.YtohalocbghhenaaGreatDoorPaw
import Derived.Test.YtohalocbghhenaaGreatDoorPln
import Derived.Test.YtohalocbghhenaaGreatDoorQsr
import Derived.Test.YtohalocbghhenaaGreatDoorLawReads
set_option linter.unusedSimpArgs false
set_option linter.unusedVariables false
namespace Go.Proofs.YtohalocbghhenaaGreatDoor
open Go.RowKit

/-- a list of one entry, made of it -/
theorem slc_one {w : World} {F : Nat → Prop} {wd : ByteArray} {xs : List Tk} {bl : Bool} {kd : Cls} {av : Int} {aa ak : Option Addr} {ba oa la ca bk ok ck : Nat} (SX : SlT w aa ba oa la ca xs) (SK : SlC w F ak bk ok kd.len ck kd) :
    SlC (w.alloc (.cells #[.string wd, .slice aa la ca, .bool bl, .slice ak kd.len ck, .int .i64 av] 25)) AllB (some ⟨w.heap.size, 0, none⟩) w.heap.size 0 1 1 (.cons wd xs bl kd av .nil) := by
  have hB := (Below.refl w.heap.size w).alloc (Nat.le_refl _) (.cells #[.string wd, .slice aa la ca, .bool bl, .slice ak kd.len ck, .int .i64 av] 25)
  obtain ⟨c0, c1, c2, c3, c4, _, cl⟩ := cl_new w wd (.slice aa la ca) (.slice ak kd.len ck) bl av 25
  have SK2 := SlC.mono (G := AllB) (fun x _ => trivial) (SK.here.low (fun x hx => hx.2) hB)
  exact ⟨rfl, Nat.le_refl _, by unfold maxLen; omega, fun _ => ⟨rfl, cl, trivial⟩, ⟨aa, ba, oa, la, ca, c1, SX.keep hB, fun _ => trivial⟩, ⟨ak, bk, ok, ck, c3, SK2.2.1, SK2.2.2.1, SK2.2.2.2.1, SK2.2.2.2.2⟩, c0, c2, c4, trivial⟩
set_option maxHeartbeats 4000000 in
set_option maxRecDepth 100000 in
theorem line_any (wd : ByteArray) (xs : List Tk) (bl : Bool) (kd : Cls) (av : Int) (aa ak : Option Addr) (ba oa la ca bk ok ck : Nat) (F : Nat → Prop) (hc : (Cls.cons wd xs bl kd av .nil).count < 1000000000) (hsm : small (.cons wd xs bl kd av .nil)) (hlk : checkS (.cons wd xs bl kd av .nil) = 0 → lok (.cons wd xs bl kd av .nil))
    (w : World) (SX : SlT w aa ba oa la ca xs) (SK : SlC w F ak bk ok kd.len ck kd) (hT : Tabs w) :
    Calls Tryz.prog 12 #[.agg #[.string wd, .slice aa la ca, .bool bl, .slice ak kd.len ck, .int .i64 av]] w fun e w' => e = .returned (.tuple #[.string (if checkS (.cons wd xs bl kd av .nil) = 0 then bs (headS wd xs bl) else ⟨#[]⟩), .int .i64 (checkS (.cons wd xs bl kd av .nil))]) ∧ Below w.heap.size w w' := by
  have HT := Lib.hid hT
  have HSX := Lib.hid SX
  have HSK := Lib.hid SK.here
  have HCK := Lib.hid (fun W F' a' b' (hA : SlC W F' a' b' 0 1 1 (.cons wd xs bl kd av .nil)) hW => check_any (.cons wd xs bl kd av .nil) (by omega) hsm W F' a' b' 0 1 hA hW)
  have HLI := Lib.hid (fun (h : checkS (.cons wd xs bl kd av .nil) = 0) W (hx : SlT W aa ba oa la ca xs) hW => firstLine_any wd xs bl av aa ak ba oa la ca kd.len ck (hlk h).2.1 (hlk h).2.2.1 (hlk h).2.2.2.1 (hlk h).1 W hx hW)
  have HON := Lib.hid (fun W (h1 : SlT W aa ba oa la ca xs) (h2 : SlC W (fun x => F x ∧ x < w.heap.size) ak bk ok kd.len ck kd) => slc_one (wd := wd) (bl := bl) (av := av) h1 h2)
  have HB0 := Lib.hid ((Below.refl w.heap.size w).alloc (Nat.le_refl _) (.cells #[.string wd, .slice aa la ca, .bool bl, .slice ak kd.len ck, .int .i64 av] 25))
  have HC0 := Lib.hid (cl_new w wd (.slice aa la ca) (.slice ak kd.len ck) bl av 25)
  clear hT SX SK
  have HL1 := Lib.hid (HON.out _ (HSX.out.keep HB0.out) (HSK.out.low (fun x hx => hx.2) HB0.out))
  clear HON
  simp only [World.size_alloc] at HL1
  generalize hcc : checkS (.cons wd xs bl kd av .nil) = z at *
  clear hcc hlk hsm hc
  generalize kd.len = y at *
  obtain ⟨c0, c1, c2, c3, c4, cf, cl⟩ := HC0.out
  go_enter Tryz.func12, Tryz.ntmps12
  go_wp2_with fail
  have HB1 := Lib.hid (HB0.out.alloc HB0.out.size (.cells #[.string wd, .slice aa la ca, .bool bl, .slice ak y ck, .int .i64 av] 25))
  refine (HCK.out _ _ _ _ HL1.out (HT.out.below HB1.out)).mono ?_
  rintro e w2 ⟨rfl, hb2⟩
  have HB2 := Lib.hid (HB1.out.trans (hb2.mono HB1.out.size))
  have HC2 := Lib.hid ((HC0.out.keep ((Below.refl _ _).alloc (Nat.le_refl _) (.cells #[.string wd, .slice aa la ca, .bool bl, .slice ak y ck, .int .i64 av] 25))).keep hb2)
  clear c0 c1 c2 c3 c4 cf cl hb2 HL1 HC0
  by_cases hz : z = 0
  · subst hz
    have HL := Lib.hid (HLI.out rfl _ (HSX.out.keep HB2.out) (HT.out.below HB2.out))
    clear HLI HCK
    obtain ⟨c0, c1, c2, c3, c4, cf, cl⟩ := HC2.out
    go_wp2_with fail
    refine HL.out.mono ?_
    rintro e w3 ⟨rfl, hb3⟩
    have HB3 := Lib.hid (HB2.out.trans (hb3.mono HB2.out.size))
    go_wp2_with fail
    go_ret2
    exact ⟨rfl, HB3.out⟩
  · have z0 : (z == 0) = false := by simpa using hz
    have z1 : (z != 0) = true := by simpa using hz
    clear HLI HCK
    go_wp2_with fail
    go_ret2
    exact ⟨by first | rfl | simp [hz], HB2.out⟩
end Go.Proofs.YtohalocbghhenaaGreatDoor
/- The law of the first line of an entry: for every entry. -/
namespace Go.Proofs.YtohalocbghhenaaGreatDoor
open Go.RowKit

set_option maxHeartbeats 4000000 in
set_option maxRecDepth 100000 in
theorem line_walk {wd : ByteArray} {xs : List Tk} {bl : Bool} {kd : Cls} {av : Int} {aa ak : Option Addr} {ba oa la ca bk ok ck : Nat} {w : World} (SX : SlT w aa ba oa la ca xs) (SK : SlC w AllB ak bk ok kd.len ck kd) (hT : Tabs w) :
    Calls Tryz.prog 3 #[.agg #[.string wd, .slice aa la ca, .bool bl, .slice ak kd.len ck, .int .i64 av]] w fun e w' => e = .returned (.bool true) ∧ Below w.heap.size w w' := by
  have HT := Lib.hid hT
  have HSX := Lib.hid SX
  have HSK := Lib.hid SK.here
  have HAW := Lib.hid (fun W hW => awake_any W hW)
  obtain ⟨V, hV⟩ : ∃ V, V = w.alloc (.cells #[.string wd, .slice aa la ca, .bool bl, .slice ak kd.len ck, .int .i64 av] 25) := ⟨_, rfl⟩
  have HB0 := Lib.hid (show Below w.heap.size w V by rw [hV]; exact (Below.refl w.heap.size w).alloc (Nat.le_refl _) _)
  have HC0 := Lib.hid (show ClAt V w.heap.size wd (.slice aa la ca) bl (.slice ak kd.len ck) av by rw [hV]; exact cl_new w wd (.slice aa la ca) (.slice ak kd.len ck) bl av 25)
  have HON := Lib.hid (fun W (hB : Below w.heap.size w W) => slc_one (wd := wd) (bl := bl) (av := av) (HSX.out.keep hB) (HSK.out.low (fun x hx => hx.2) hB))
  have HRM := Lib.hid (fun (h : 0 ≤ roomS (.cons wd xs bl kd av .nil) 300) => room_print (Int.le_refl _) h)
  have HTY := Lib.hid (fun (h : 0 ≤ roomS (.cons wd xs bl kd av .nil) 300) => room_tiny (.cons wd xs bl kd av .nil) 300 (by decide) h)
  have HSM := Lib.hid (fun W a' b' (hA : SlC W AllB a' b' 0 1 1 (.cons wd xs bl kd av .nil)) => small_any (c := .cons wd xs bl kd av .nil) (m := 300) (by omega) (by omega) hA)
  clear hT SX SK
  cases hr : decide (0 ≤ roomS (.cons wd xs bl kd av .nil) 300) with
  | false =>
    rw [hr] at HSM
    clear hr HRM HTY
    generalize kd.len = y at *
    go_enter Tryz.func3, Tryz.ntmps3
    go_wp2_with fail
    rw [← hV]
    refine (HAW.out _ (HT.out.below HB0.out)).mono ?_
    rintro e w1 ⟨rfl, hb1⟩
    have HB1 := Lib.hid (HB0.out.trans (hb1.mono HB0.out.size))
    have HC1 := Lib.hid (HC0.out.keep hb1)
    clear hb1
    obtain ⟨c0, c1, c2, c3, c4, cf, cl⟩ := HC1.out
    have HL2 := Lib.hid (HON.out _ HB1.out)
    go_wp2_with fail
    refine (HSM.out _ _ _ HL2.out).mono ?_
    rintro e w2 ⟨rfl, rfl⟩
    go_wp2_with fail
    go_ret
    exact ⟨rfl, HB1.out.alloc HB1.out.size _⟩
  | true =>
    have h0 := of_decide_eq_true hr
    obtain ⟨r1, r2, r3⟩ := HRM.out h0
    have hty := HTY.out h0
    rw [hr] at HSM
    have HLN := Lib.hid (fun W (hB : Below w.heap.size w W) => line_any wd xs bl kd av aa ak ba oa la ca bk ok ck _ (by omega) r2 r3 W (HSX.out.keep hB) (HSK.out.low (fun x hx => hx.2) hB) (HT.out.below hB))
    have HCK := Lib.hid (fun W a' b' (hA : SlC W AllB a' b' 0 1 1 (.cons wd xs bl kd av .nil)) hW => rcheck_any (.cons wd xs bl kd av .nil) (by omega) hty W AllB a' b' 0 1 hA hW)
    have HRL := Lib.hid (fun (h : checkS (.cons wd xs bl kd av .nil) = 0) W (hB : Below w.heap.size w W) => rline_any wd xs bl av aa ak ba oa la ca kd.len ck (formed_get (.cons wd xs bl kd av .nil) 0 (check_ok h).1 rfl).1 (r3 h).2.2.1 (r3 h).2.2.2.1 (r3 h).1 W (HSX.out.keep hB) (HT.out.below hB))
    generalize hcc : checkS (.cons wd xs bl kd av .nil) = z at *
    clear hr HRM HTY h0 r1 r2 r3 hty hcc
    obtain ⟨S1, hS1⟩ : ∃ S1, (if z = 0 then bs (headS wd xs bl) else ⟨#[]⟩) = S1 := ⟨_, rfl⟩
    rw [hS1] at HLN
    have HSS := Lib.hid hS1
    clear hS1
    generalize kd.len = y at *
    go_enter Tryz.func3, Tryz.ntmps3
    go_wp2_with fail
    rw [← hV]
    refine (HAW.out _ (HT.out.below HB0.out)).mono ?_
    rintro e w1 ⟨rfl, hb1⟩
    have HB1 := Lib.hid (HB0.out.trans (hb1.mono HB0.out.size))
    have HC1 := Lib.hid (HC0.out.keep hb1)
    clear hb1
    obtain ⟨c0, c1, c2, c3, c4, cf, cl⟩ := HC1.out
    have HL2 := Lib.hid (HON.out _ HB1.out)
    go_wp2_with fail
    refine (HSM.out _ _ _ HL2.out).mono ?_
    rintro e w2 ⟨rfl, rfl⟩
    have HB2 := Lib.hid (HB1.out.alloc HB1.out.size (.cells #[.string wd, .slice aa la ca, .bool bl, .slice ak y ck, .int .i64 av] 25))
    have HC2 := Lib.hid (HC1.out.keep ((Below.refl _ _).alloc (Nat.le_refl _) (.cells #[.string wd, .slice aa la ca, .bool bl, .slice ak y ck, .int .i64 av] 25)))
    have hlt := HL2.out.2.2.2.1 Nat.one_pos |>.2.1
    clear c0 c1 c2 c3 c4 cf cl HB1 HC1
    generalize (w1.alloc (.cells #[.string wd, .slice aa la ca, .bool bl, .slice ak y ck, .int .i64 av] 25)) = w2 at *
    generalize w1.heap.size = lb at *
    obtain ⟨c0, c1, c2, c3, c4, cf, cl⟩ := HC2.out
    go_wp2_with fail
    refine (HLN.out _ HB2.out).mono ?_
    rintro e w3 ⟨rfl, hb3⟩
    have HB3 := Lib.hid (HB2.out.trans (hb3.mono HB2.out.size))
    have HC3 := Lib.hid (HC2.out.keep hb3)
    have HL3 := Lib.hid (SlC.mono (G := AllB) (fun x _ => trivial) (HL2.out.here.low (fun x hx => hx.2) hb3))
    clear hb3 c0 c1 c2 c3 c4 cf cl HC2 HL2 HB2
    go_wp2_with fail
    refine (HCK.out _ _ _ HL3.out (HT.out.below HB3.out)).mono ?_
    rintro e w4 ⟨rfl, hb4⟩
    have HB4 := Lib.hid (HB3.out.trans (hb4.mono HB3.out.size))
    have HC4 := Lib.hid (HC3.out.keep hb4)
    clear hb4 HC3 HL3 HB3
    by_cases hz : z = 0
    · subst hz
      have HR := Lib.hid (HRL.out rfl _ HB4.out)
      have hs1 := HSS.out
      rw [if_pos rfl] at hs1
      clear HSS
      rw [hs1] at HR
      clear hs1
      obtain ⟨c0, c1, c2, c3, c4, cf, cl⟩ := HC4.out
      go_wp2_with fail
      refine HR.out.mono ?_
      rintro e w5 ⟨rfl, hb5⟩
      have HB5 := Lib.hid (HB4.out.trans (hb5.mono HB4.out.size))
      go_wp2_with fail
      go_ret
      exact ⟨by simp, HB5.out⟩
    · have z0 : (z == 0) = false := by simpa using hz
      have z1 : (z != 0) = true := by simpa using hz
      have hs1 := HSS.out
      rw [if_neg hz] at hs1
      clear HSS
      subst hs1
      go_wp2_with fail
      go_ret
      exact ⟨by simp, HB4.out⟩
end Go.Proofs.YtohalocbghhenaaGreatDoor
