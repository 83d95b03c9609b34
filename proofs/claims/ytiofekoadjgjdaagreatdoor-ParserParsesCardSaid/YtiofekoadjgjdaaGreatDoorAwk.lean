/- Contracts of layer 10: Find and clone, as awake calls them. -/
import Derived.Test.YtiofekoadjgjdaaGreatDoorEnts
import Derived.Lib.SliceRun
import Derived.Test.YtiofekoadjgjdaaGreatDoorPrs
import Derived.Test.YtiofekoadjgjdaaGreatDoorSmc
set_option linter.unusedSimpArgs false
set_option linter.unusedVariables false
namespace Go.Proofs.YtiofekoadjgjdaaGreatDoor
open Go.RowKit

theorem slt_flat {w : World} {b off len cap : Nat} {L : List Tk} {a : Option Addr} (h : SlT w a b off len cap L) : ∀ j u, (flatT L)[j]? = some u → w.cell? ((⟨b, off, none⟩ : Addr).add j) = some u := by
  intro j u hu
  have hj : j < (flatT L).length := by
    by_cases hh : j < (flatT L).length
    · exact hh
    · rw [List.getElem?_eq_none (by omega)] at hu; exact absurd hu (by simp)
  rw [flatT_len] at hj
  have hk : j / 4 < L.length := by omega
  obtain ⟨e0, e1, e2, e3⟩ := flatT_get L (j / 4) hk
  have c0 := h.c0 _ hk
  have c1 := h.c1 _ hk
  have c2 := h.c2 _ hk
  have c3 := h.c3 _ hk
  rcases (show j % 4 = 0 ∨ j % 4 = 1 ∨ j % 4 = 2 ∨ j % 4 = 3 by omega) with hm | hm | hm | hm
  · rw [show j / 4 * 4 = j by omega] at e0 c0
    rw [hu] at e0
    rw [e0, Addr.add_lit]
    exact c0
  · rw [show j / 4 * 4 + 1 = j by omega] at e1
    rw [show off + j / 4 * 4 + 1 = off + j by omega] at c1
    rw [hu] at e1
    rw [e1, Addr.add_lit]
    exact c1
  · rw [show j / 4 * 4 + 2 = j by omega] at e2
    rw [show off + j / 4 * 4 + 2 = off + j by omega] at c2
    rw [hu] at e2
    rw [e2, Addr.add_lit]
    exact c2
  · rw [show j / 4 * 4 + 3 = j by omega] at e3
    rw [show off + j / 4 * 4 + 3 = off + j by omega] at c3
    rw [hu] at e3
    rw [e3, Addr.add_lit]
    exact c3
theorem flat_one : ∀ (L : List Tk), ∀ u ∈ flatT L, u.oneCell' = true
  | [], u, h => by simp [flatT] at h
  | t :: l, u, h => by
    unfold flatT at h
    rw [List.flatMap_cons, List.mem_append] at h
    rcases h with h | h
    · simp only [encT, List.mem_cons, List.not_mem_nil, or_false] at h
      rcases h with rfl | rfl | rfl | rfl <;> rfl
    · exact flat_one l u h
set_option maxHeartbeats 4000000 in
set_option maxRecDepth 100000 in
theorem cloneT_any {b off len cap : Nat} {L : List Tk} {w : World} (h : SlT w (some ⟨b, off, none⟩) b off len cap L) (h0 : 0 < len) (hl : len ≤ 1000000) :
    Calls Tryz.prog 46 #[.slice (some ⟨b, off, none⟩) len cap] w fun e w' => (∃ ao c, e = .returned (.slice ao len c)) ∧ Below w.heap.size w w' := by
  have HS := Lib.hid h
  have hln := h.hl
  have hfl := flatT_len L
  have HL1 := Lib.hid (flat_one L)
  obtain ⟨iz, hi, hz0, hz1, hz2⟩ := info_parts infoT
  have HO := Lib.hid (World.ownsRow_made (e := 51) (size := 4) (base := w.heap.size) w #[] 0 (Nat.le_refl _) (Nat.zero_le _) rfl)
  have HC := Lib.hid (slt_flat (h.keep ((Below.refl _ _).alloc (Nat.le_refl _) (.cells #[] 51))))
  have HB := Lib.hid ((Below.refl w.heap.size w).alloc (Nat.le_refl _) (.cells #[] 51))
  have hq := fun (w : World) (a : Option Addr) (n c n' c' : Nat) => Lib.run_eql_slice_nil (P := Tryz.prog) w 36 51 a n c n' c' Tryz.underlying36
  clear h
  go_enter Tryz.func46, Tryz.ntmps46
  go_wp2_with (at_builtin; go_loud (refine wpList_append_blk _ rfl _ _ 36 rfl w.heap.size 51 iz (.agg #[.int .i64 0, .string ⟨#[]⟩, .int .i64 0, .int .i64 0]) 4 40 Tryz.underlying36 hi hz0 hz1 hz2 rfl (by decide) _ _ _ rfl HO.out ⟨b, off, none⟩ len cap (flatT L) rfl (by rw [hfl, hln]) HC.out HL1.out ?n2 ?n3 ?n4 h0 ?_))
  case n2 => unfold maxLen; omega
  case n3 => omega
  case n4 => simp
  intro v' w1 ho hg hbk
  obtain ⟨ao, cv, rfl⟩ := own_form ho
  have HB1 := Lib.hid (HB.out.grown hg (by simp) (by intro k hk; simp [Value.ownBlock] at hk; omega))
  clear ho hg hbk
  go_wp2_with fail
  go_ret
  exact ⟨⟨ao, cv, by first | rfl | simp⟩, HB1.out⟩
set_option maxHeartbeats 4000000 in
set_option maxRecDepth 100000 in
theorem clone0_any (wd : ByteArray) (xs : List Tk) (bl : Bool) (av : Int) (ba oa la ca : Nat) (ak : Option Addr) (ck : Nat) (w : World) (hx : SlT w (some ⟨ba, oa, none⟩) ba oa la ca xs) (h0 : 0 < la) (hl : la ≤ 1000000) :
    Calls Tryz.prog 29 #[.agg #[.string wd, .slice (some ⟨ba, oa, none⟩) la ca, .bool bl, .slice ak 0 ck, .int .i64 av]] w fun e w' => (∃ ao c, e = .returned (.agg #[.string wd, .slice ao la c, .bool bl, .slice none 0 0, .int .i64 av])) ∧ Below w.heap.size w w' := by
  have HC := Lib.hid (fun W (h : SlT W (some ⟨ba, oa, none⟩) ba oa la ca xs) => cloneT_any h h0 hl)
  have HB := Lib.hid (show Below w.heap.size w ((w.alloc (.cells #[.string wd, .slice (some ⟨ba, oa, none⟩) la ca, .bool bl, .slice ak 0 ck, .int .i64 av] 41)).alloc (.cells #[.string ⟨#[]⟩, .slice none 0 0, .bool false, .slice none 0 0, .int .i64 0] 41)) from (by repeat (first | with_reducible exact Below.refl _ _ | (with_reducible refine Below.setCell ?_ (by first | exact Nat.le_refl _ | omega | (simp; done) | (simp; omega)) _) | (with_reducible refine Below.alloc ?_ (by first | exact Nat.le_refl _ | omega | (simp; done) | (simp; omega)) _) | with_reducible refine Below.drew ?_ | with_reducible refine bel_drewN ?_ _ | (with_reducible refine bel_by (by with_reducible assumption) (by first | exact Nat.le_refl _ | omega | (simp; done) | (simp; omega)) ?_))))
  have HA := Lib.hid ((cl_new w wd (.slice (some ⟨ba, oa, none⟩) la ca) (.slice ak 0 ck) bl av 41).keep ((Below.refl _ _).alloc (Nat.le_refl _) (.cells #[.string ⟨#[]⟩, .slice none 0 0, .bool false, .slice none 0 0, .int .i64 0] 41)))
  have HR := Lib.hid (cl_new (w.alloc (.cells #[.string wd, .slice (some ⟨ba, oa, none⟩) la ca, .bool bl, .slice ak 0 ck, .int .i64 av] 41)) ⟨#[]⟩ (.slice none 0 0) (.slice none 0 0) false 0 41)
  simp only [World.size_alloc] at HR
  have HX := Lib.hid (hx.keep HB.out)
  clear hx
  go_enter Tryz.func29, Tryz.ntmps29
  go_wp2_with fail
  refine (HC.out _ HX.out).mono ?_
  rintro e w1 ⟨⟨ao, cv, rfl⟩, hb1⟩
  have HB1 := Lib.hid (HB.out.trans (Below.mono hb1 HB.out.size))
  have HA1 := Lib.hid (HA.out.keep hb1)
  have HR1 := Lib.hid (HR.out.keep hb1)
  clear hb1 HB HA HR HC HX
  have HA2 := Lib.hid ((HA1.out.set1 (.slice ao la cv)).set3 (.slice none 0 0))
  have HR2 := Lib.hid ((HR1.out.other ⟨w.heap.size, 1, none⟩ (by show w.heap.size ≠ w.heap.size + 1; omega) (.slice ao la cv)).other ⟨w.heap.size, 3, none⟩ (by show w.heap.size ≠ w.heap.size + 1; omega) (.slice none 0 0))
  obtain ⟨c0, c1, c2, c3, c4, cf, cl⟩ := HA1.out
  obtain ⟨d0, d1, d2, d3, d4, df, dl⟩ := HA2.out
  obtain ⟨r0, r1, r2, r3, r4, rf, rl⟩ := HR2.out
  go_wp2_with fail
  refine wp_loop_rounds 1 ?_
  rw [rounds_succ]
  go_wp2_with fail
  have HRS := Lib.hid (HR2.out.setAll (wd' := wd) (va' := .slice ao la cv) (vk' := .slice none 0 0) (bl' := bl) (a' := av))
  have hbw := HB1.out
  have HBF := Lib.hid (show Below w.heap.size w (((((((w1.setCell ⟨w.heap.size, 1, none⟩ (.slice ao la cv)).setCell ⟨w.heap.size, 3, none⟩ (.slice none 0 0)).setCell ⟨w.heap.size + 1, 0, none⟩ (.string wd)).setCell ⟨w.heap.size + 1, 1, none⟩ (.slice ao la cv)).setCell ⟨w.heap.size + 1, 2, none⟩ (.bool bl)).setCell ⟨w.heap.size + 1, 3, none⟩ (.slice none 0 0)).setCell ⟨w.heap.size + 1, 4, none⟩ (.int .i64 av)) from (by repeat (first | with_reducible exact Below.refl _ _ | (with_reducible refine Below.setCell ?_ (by first | exact Nat.le_refl _ | omega | (simp; done) | (simp; omega)) _) | (with_reducible refine Below.alloc ?_ (by first | exact Nat.le_refl _ | omega | (simp; done) | (simp; omega)) _) | with_reducible refine Below.drew ?_ | with_reducible refine bel_drewN ?_ _ | (with_reducible refine bel_by (by with_reducible assumption) (by first | exact Nat.le_refl _ | omega | (simp; done) | (simp; omega)) ?_))))
  clear c0 c1 c2 c3 c4 cf cl d0 d1 d2 d3 d4 df dl r0 r1 r2 r3 r4 rf rl hbw
  generalize ((((((w1.setCell ⟨w.heap.size, 1, none⟩ (.slice ao la cv)).setCell ⟨w.heap.size, 3, none⟩ (.slice none 0 0)).setCell ⟨w.heap.size + 1, 0, none⟩ (.string wd)).setCell ⟨w.heap.size + 1, 1, none⟩ (.slice ao la cv)).setCell ⟨w.heap.size + 1, 2, none⟩ (.bool bl)).setCell ⟨w.heap.size + 1, 3, none⟩ (.slice none 0 0)).setCell ⟨w.heap.size + 1, 4, none⟩ (.int .i64 av) = W7 at *
  obtain ⟨r0, r1, r2, r3, r4, rf, rl⟩ := HRS.out
  refine bodyPost_ret (v := .agg #[.string wd, .slice ao la cv, .bool bl, .slice none 0 0, .int .i64 av]) (by simp [results, Tryz.results29, go_sem, r0, r1, r2, r3, r4, rf, rl]) rfl ?_
  exact ⟨⟨ao, cv, rfl⟩, HBF.out⟩
set_option maxHeartbeats 8000000 in
set_option maxRecDepth 100000 in
/-- two entries, the first of which has the word -/
theorem find0_any (wd wd2 : ByteArray) (xs xs2 : List Tk) (bl bl2 : Bool) (k2 : Cls) (a1 a2 : Int) (w : World) (F : Nat → Prop) (aS : Option Addr) (bS oS cap : Nat) (hA : SlC w F aS bS oS 2 cap (.cons wd xs bl .nil a1 (.cons wd2 xs2 bl2 k2 a2 .nil))) (hx0 : 0 < xs.length) (hxl : xs.length ≤ 1000000) (hne : wd2 ≠ wd) :
    Calls Tryz.prog 16 #[.slice aS 2 cap, .string wd] w fun e w' => (∃ ao c, e = .returned (.slice ao 1 c)) ∧ Below w.heap.size w w' := by
  have HA := Lib.hid hA.here
  have hnl : ¬ wd2.toList = wd.toList := fun e => hne (bs_inj (by rwa [empty_list, empty_list] at e))
  have hnb : (wd2.toList == wd.toList) = false := by rw [str_beq, decide_eq_false hne]
  obtain ⟨iz, hi, hz0, hz1, hz2⟩ := info_parts infoC
  clear hA hne
  go_enter Tryz.func16, Tryz.ntmps16
  go_wp2_with fail
  go_loopw [5, 10] (fun s5 s10 wr => ∃ (k : Nat) (v : Value) (vs : List Value), k ≤ 2 ∧ s5 = v ∧ s10 = .int .i64 (k : Int) ∧ Hid (Below w.heap.size w wr) ∧ Hid (wr.ownsRow w.heap.size 41 5 v (min k 1) vs)) (fun _ s10 _ => (2 - (intOf s10)).toNat)
  case atStart => exact ⟨0, _, [], by omega, rfl, rfl, Lib.hid (Below.refl _ _), Lib.hid (World.ownsRow_nil _ _ _ _)⟩
  case round =>
    obtain ⟨k, v, vs, hk, hv, rfl, HB, HO⟩ := hrel
    replace hv := hv.symm
    subst hv
    have hbs := HB.out.size
    have SA := HA.out.low (fun x hx => hx.2) HB.out
    obtain ⟨rfl, ba, _⟩ := SA.2.2.2.1 (by omega)
    obtain ⟨⟨aa, xb, oa, la, ca, x1, x2, x3⟩, ⟨ak, bk, ok, ck, y1, y2, y3, y4, y5⟩, z1, z2, z3, ⟨aa', xb', oa', la', ca', x1', x2', x3'⟩, ⟨ak', bk', ok', ck', y1', y2', y3', y4', y5'⟩, z1', z2', z3', _⟩ := SA.2.2.2.2
    have hla := x2.hl
    subst hla
    obtain rfl := x2.ha hx0
    by_cases h0 : k = 0
    · subst h0
      have HX := Lib.hid x2
      clear SA x1' x2' x3' y1' y2' y3' y4' y5' z1' z2' z3' x2 x3 y2 y3 y4 y5
      have HO0 := Lib.hid (show wr.ownsRow w.heap.size 41 5 v 0 vs from HO.out)
      clear HO
      obtain ⟨ao, cv, rfl⟩ := own_form HO0.out
      have y1 : wr.cell? ⟨bS, oS + 3, none⟩ = some (.slice ak 0 ck) := y1
      have HBR := Lib.hid (show Below wr.heap.size wr (wr.alloc (.cells #[.string wd, .slice (some ⟨xb, oa, none⟩) xs.length ca, .bool bl, .slice ak 0 ck, .int .i64 a1] 41)) from (by repeat (first | with_reducible exact Below.refl _ _ | (with_reducible refine Below.setCell ?_ (by first | exact Nat.le_refl _ | omega | (simp; done) | (simp; omega)) _) | (with_reducible refine Below.alloc ?_ (by first | exact Nat.le_refl _ | omega | (simp; done) | (simp; omega)) _) | with_reducible refine Below.drew ?_ | with_reducible refine bel_drewN ?_ _ | (with_reducible refine bel_by (by with_reducible assumption) (by first | exact Nat.le_refl _ | omega | (simp; done) | (simp; omega)) ?_))))
      have HCC := Lib.hid (clone0_any wd xs bl a1 xb oa xs.length ca ak ck (wr.alloc (.cells #[.string wd, .slice (some ⟨xb, oa, none⟩) xs.length ca, .bool bl, .slice ak 0 ck, .int .i64 a1] 41)) (HX.out.keep HBR.out) hx0 hxl)
      have hbw := HB.out
      have HBA := Lib.hid (show Below w.heap.size w (wr.alloc (.cells #[.string wd, .slice (some ⟨xb, oa, none⟩) xs.length ca, .bool bl, .slice ak 0 ck, .int .i64 a1] 41)) from (by repeat (first | with_reducible exact Below.refl _ _ | (with_reducible refine Below.setCell ?_ (by first | exact Nat.le_refl _ | omega | (simp; done) | (simp; omega)) _) | (with_reducible refine Below.alloc ?_ (by first | exact Nat.le_refl _ | omega | (simp; done) | (simp; omega)) _) | with_reducible refine Below.drew ?_ | with_reducible refine bel_drewN ?_ _ | (with_reducible refine bel_by (by with_reducible assumption) (by first | exact Nat.le_refl _ | omega | (simp; done) | (simp; omega)) ?_))))
      have HO1 := Lib.hid (HO0.out.alloc (.cells #[.string wd, .slice (some ⟨xb, oa, none⟩) xs.length ca, .bool bl, .slice ak 0 ck, .int .i64 a1] 41))
      clear hbw HO0
      go_wp2_with fail
      refine HCC.out.mono ?_
      rintro e w1 ⟨⟨a8, c8, rfl⟩, hb1⟩
      have HB1 := Lib.hid (bel_by hb1 (by simp; omega) HBA.out)
      have HO2 := Lib.hid (own_below HO1.out hb1)
      have hce := cl_cells w1 wd (.slice a8 xs.length c8) (.slice none 0 0) bl a1
      have HCE := Lib.hid hce
      have hs1 := HB1.out.size
      have HO3 := Lib.hid (HO2.out.alloc (.cells #[.string wd, .slice a8 xs.length c8, .bool bl, .slice none 0 0, .int .i64 a1] 41))
      have HB3 := Lib.hid (HB1.out.alloc (by omega) (.cells #[.string wd, .slice a8 xs.length c8, .bool bl, .slice none 0 0, .int .i64 a1] 41))
      clear hce hb1 HCC HBA HBR HO1 HO2
      go_wp2_with (at_builtin; go_loud (refine wpList_append_blk _ rfl _ _ 23 rfl w.heap.size 41 iz (.agg #[.string ⟨#[]⟩, .slice none 0 0, .bool false, .slice none 0 0, .int .i64 0]) 5 80 Tryz.underlying23 hi hz0 hz1 hz2 rfl (by decide) _ _ _ rfl HO3.out ⟨w1.heap.size, 0, none⟩ 1 1 (encC wd (.slice a8 xs.length c8) bl (.slice none 0 0) a1) rfl rfl HCE.out ?n1 ?n2 ?n3 ?n4 (by decide) ?_))
      case n1 => intro u hu; simp only [encC, List.mem_cons, List.not_mem_nil, or_false] at hu; rcases hu with rfl | rfl | rfl | rfl | rfl <;> rfl
      case n2 => unfold maxLen; omega
      case n3 => omega
      case n4 => simp; omega
      intro v' w7 ho hg hbk
      have HO7 := Lib.hid ho
      have HB7 := Lib.hid (HB3.out.grown hg (by simp; omega) (fun k hk => (HO3.out.lt k hk).1))
      clear ho hg hbk HO3 HB3 HCE z1 z2 z3 x1 y1
      go_wp2_with fail
      go_roundw
      case rel => exact ⟨1, v', _, by omega, rfl, rfl, HB7, HO7⟩
      case measure => simp [intOf]
    · by_cases h1 : k = 1
      · subst h1
        have HO0 := Lib.hid (show wr.ownsRow w.heap.size 41 5 v 1 vs from HO.out)
        clear HO
        have e0 : wr.cell? ⟨bS, oS + 1 * 5, none⟩ = some (.string wd2) := z1'
        have e1 : wr.cell? ⟨bS, oS + 1 * 5 + 1, none⟩ = some (.slice aa' la' ca') := x1'
        have e2 : wr.cell? ⟨bS, oS + 1 * 5 + 2, none⟩ = some (.bool bl2) := z2'
        have e3 : wr.cell? ⟨bS, oS + 1 * 5 + 3, none⟩ = some (.slice ak' k2.len ck') := y1'
        have e4 : wr.cell? ⟨bS, oS + 1 * 5 + 4, none⟩ = some (.int .i64 a2) := z3'
        simp only [Nat.one_mul, Nat.add_assoc, Nat.reduceAdd] at e0 e1 e2 e3 e4
        have hbw := HB.out
        have HBA := Lib.hid (show Below w.heap.size w (wr.alloc (.cells #[.string wd2, .slice aa' la' ca', .bool bl2, .slice ak' k2.len ck', .int .i64 a2] 41)) from (by repeat (first | with_reducible exact Below.refl _ _ | (with_reducible refine Below.setCell ?_ (by first | exact Nat.le_refl _ | omega | (simp; done) | (simp; omega)) _) | (with_reducible refine Below.alloc ?_ (by first | exact Nat.le_refl _ | omega | (simp; done) | (simp; omega)) _) | with_reducible refine Below.drew ?_ | with_reducible refine bel_drewN ?_ _ | (with_reducible refine bel_by (by with_reducible assumption) (by first | exact Nat.le_refl _ | omega | (simp; done) | (simp; omega)) ?_))))
        have HO1 := Lib.hid (HO0.out.alloc (.cells #[.string wd2, .slice aa' la' ca', .bool bl2, .slice ak' k2.len ck', .int .i64 a2] 41))
        clear hbw HO0 HB SA x2 x3 y2 y3 y4 y5 x1 y1 z1 z2 z3 x1' x2' x3' y1' y2' y3' y4' y5' z1' z2' z3'
        go_wp2_with fail
        go_roundw
        case rel => exact ⟨2, v, vs, by omega, rfl, rfl, HBA, HO1⟩
        case measure => simp [intOf]
      · obtain rfl : k = 2 := by omega
        obtain ⟨ao, cv, rfl⟩ := own_form HO.out
        go_wp2_with fail
        go_ret
        exact ⟨⟨ao, cv, rfl⟩, HB.out⟩
end Go.Proofs.YtiofekoadjgjdaaGreatDoor
/- Contract of layer 10's awake. -/
namespace Go.Proofs.YtiofekoadjgjdaaGreatDoor
open Go.RowKit

def egA : ByteArray := ⟨#[103, 114, 111, 117, 112, 32, 106, 117, 109, 112, 32, 108, 105, 109, 105, 116, 32, 51, 59, 32, 115, 101, 103, 109, 101, 110, 116, 32, 102, 114, 101, 101, 32, 123, 32, 99, 111, 117, 110, 116, 32, 55, 59, 32, 125]⟩
def egB : ByteArray := ⟨#[97, 32, 98, 32, 125]⟩
def wGroup : ByteArray := ⟨#[103, 114, 111, 117, 112]⟩
def wSeg : ByteArray := ⟨#[115, 101, 103, 109, 101, 110, 116]⟩
def xsA : List Tk := [⟨1, bs [106, 117, 109, 112], 0, 6⟩, ⟨1, bs [108, 105, 109, 105, 116], 0, 11⟩, ⟨2, bs [], 3000, 17⟩]
def kdA : Cls := .cons (bs [99, 111, 117, 110, 116]) [⟨2, bs [], 7000, 41⟩] false .nil 35 .nil
def clsB : Cls := .cons wSeg [⟨1, bs [102, 114, 101, 101], 0, 28⟩] true kdA 20 .nil
def clsA : Cls := .cons wGroup xsA false .nil 0 clsB
def cls1 : Cls := .cons wGroup xsA false .nil 0 .nil
def clsS : Cls := .cons ⟨#[59]⟩ [] false .nil 0 .nil
theorem par_egA : parS egA = (clsA, 0, 0) := by decide +kernel
theorem par_egB : parS egB = (.nil, 2, 4) := by decide +kernel
theorem chk_A : checkS clsA = 0 := by decide +kernel
theorem chk_S : checkS clsS = 2 := by decide +kernel
theorem cnt_A : clsA.count = 3 := by decide +kernel
theorem dep_A : clsA.depth = 1 := by decide +kernel
theorem sam_1 : decide (clsA.zero = cls1.zero) = false := by decide +kernel
theorem sml_A : small clsA := by
  refine ⟨by decide, ?_, trivial, by decide, ?_, ⟨by decide, ?_, trivial, trivial⟩, trivial⟩
  all_goals intro t ht; simp only [xsA, List.mem_cons, List.not_mem_nil, or_false] at ht; rcases ht with rfl | rfl | rfl <;> decide
theorem sml_S : small clsS := by
  refine ⟨by decide, ?_, trivial, trivial⟩
  intro t h
  exact absurd h (by simp)
theorem slc_one {w : World} {F : Nat → Prop} {a : Option Addr} {b o cap : Nat} {wd : ByteArray} {xs : List Tk} {bl : Bool} {k : Cls} {av : Int} {r : Cls} (h : SlC w F a b o (r.len + 1) cap (.cons wd xs bl k av r)) : SlC w F a b o 1 cap (.cons wd xs bl k av .nil) := by
  obtain ⟨h1, h2, h3, h4, h5, h6, h7, h8, h9, _⟩ := h
  exact ⟨rfl, by omega, h3, fun _ => h4 (by omega), h5, h6, h7, h8, h9, trivial⟩
theorem slc_new (w : World) (wd : ByteArray) : SlC (w.alloc (.cells #[.string wd, .slice none 0 0, .bool false, .slice none 0 0, .int .i64 0] 41)) (fun x => w.heap.size ≤ x) (some ⟨w.heap.size, 0, none⟩) w.heap.size 0 1 1 (.cons wd [] false .nil 0 .nil) := by
  obtain ⟨c0, c1, c2, c3, c4, _, cl⟩ := cl_new w wd (.slice none 0 0) (.slice none 0 0) false 0 41
  exact ⟨rfl, Nat.le_refl _, by unfold maxLen; omega, fun _ => ⟨rfl, cl, Nat.le_refl _⟩, ⟨none, 0, 0, 0, 0, c1, slt_nil _, fun h => absurd h (Nat.lt_irrefl 0)⟩, ⟨none, 0, 0, 0, c3, Nat.le_refl _, Nat.zero_le _, fun h => absurd h (Nat.lt_irrefl 0), trivial⟩, c0, c2, c4, trivial⟩
set_option maxHeartbeats 8000000 in
set_option maxRecDepth 100000 in
theorem awake_any (w : World) (hT : Tabs w) : Calls Tryz.prog 5 #[] w fun e w' => e = .returned (.bool true) ∧ Below w.heap.size w w' := by
  have HT := Lib.hid hT
  have H1 := Lib.hid (fun W hW => parse_any egA W hW)
  have H2 := Lib.hid (fun W hW => parse_any egB W hW)
  rw [par_egA] at H1
  rw [par_egB] at H2
  unfold PrsPost fV at H1 H2
  unfold egA at H1
  unfold egB at H2
  have HCN := Lib.hid (fun W (F : Nat → Prop) a b cap (h : SlC W F a b 0 2 cap clsA) => show Calls Tryz.prog 14 #[.slice a 2 cap] W (fun e w' => e = .returned (.int .i64 3) ∧ Below W.heap.size W w') from by
    have := count_any 4 (by decide) clsA (by rw [cnt_A]; decide) W F a b 0 cap h
    rw [cnt_A] at this
    exact this)
  have HDP := Lib.hid (fun W (F : Nat → Prop) a b cap (h : SlC W F a b 0 2 cap clsA) => show Calls Tryz.prog 15 #[.slice a 2 cap] W (fun e w' => e = .returned (.int .i64 1) ∧ Below W.heap.size W w') from by
    have := depth_any 4 (by decide) clsA (by rw [cnt_A]; decide) W F a b 0 cap h
    rw [dep_A] at this
    exact this)
  have HSM := Lib.hid (fun W (F : Nat → Prop) a b cap (h : SlC W F a b 0 2 cap clsA) => show Calls Tryz.prog 13 #[.slice a 2 cap, .slice a 2 cap] W (fun e w' => e = .returned (.bool true) ∧ Below W.heap.size W w') from by
    have := same_any 4 (by decide) clsA clsA (by rw [cnt_A]; decide) (by decide) W F F a a b 0 cap b 0 cap h h
    rw [decide_eq_true rfl] at this
    exact this)
  have HS1 := Lib.hid (fun W (F : Nat → Prop) a b cap (h : SlC W F a b 0 2 cap clsA) => show Calls Tryz.prog 13 #[.slice a 2 cap, .slice a 1 cap] W (fun e w' => e = .returned (.bool false) ∧ Below W.heap.size W w') from by
    have := same_any 4 (by decide) clsA cls1 (by rw [cnt_A]; decide) (by decide) W F F a a b 0 cap b 0 cap h (slc_one (r := clsB) h)
    rw [sam_1] at this
    exact this)
  have HCK := Lib.hid (fun W (F : Nat → Prop) a b cap (h : SlC W F a b 0 2 cap clsA) hW => show Calls Tryz.prog 10 #[.slice a 2 cap] W (fun e w' => e = .returned (.int .i64 0) ∧ Below W.heap.size W w') from by
    have := check_any clsA (by rw [cnt_A]; decide) sml_A W F a b 0 cap h hW
    rw [chk_A] at this
    exact this)
  have HCS := Lib.hid (fun W (F : Nat → Prop) a b cap (h : SlC W F a b 0 1 cap clsS) hW => show Calls Tryz.prog 10 #[.slice a 1 cap] W (fun e w' => e = .returned (.int .i64 2) ∧ Below W.heap.size W w') from by
    have := check_any clsS (by decide) sml_S W F a b 0 cap h hW
    rw [chk_S] at this
    exact this)
  have HFI := Lib.hid (fun W (F : Nat → Prop) a b cap (h : SlC W F a b 0 2 cap clsA) => find0_any wGroup wSeg xsA _ false _ _ _ _ W F a b 0 cap h (by decide) (by decide) (by decide))
  unfold wGroup at HFI
  clear hT
  go_enter Tryz.func5, Tryz.ntmps5
  go_wp2_with fail
  refine (H1.out _ HT.out).mono ?_
  rintro e w1 ⟨v1, vs1, rfl, ho1, hr1, hb1⟩
  obtain ⟨a1, b1, cap1, rfl, sl1⟩ := (show ∃ a b cap, v1 = .slice a 2 cap ∧ SlC w1 (fun x => w.heap.size ≤ x) a b 0 2 cap clsA from slC_own ho1 (hr1.mono fun x hx => hx.1) (fun x hx => (ho1.lt x hx).1))
  have HL := Lib.hid sl1.here
  obtain ⟨rfl, hbl, _⟩ := sl1.2.2.2.1 (by decide)
  have hcap := sl1.2.1
  have hmax := sl1.2.2.1
  unfold maxLen at hmax
  have HB1 := Lib.hid hb1
  have hs1 := hb1.size
  have HF1 := Lib.hid (ft_new w1 0 0 26)
  have HBA := Lib.hid (hb1.alloc hs1 (.cells #[.int .i64 0, .int .i64 0] 26))
  have HWA := Lib.hid ((Below.refl w1.heap.size w1).alloc (Nat.le_refl _) (.cells #[.int .i64 0, .int .i64 0] 26))
  clear sl1 ho1 hr1 hb1 H1
  go_wp2_with fail
  refine (H2.out _ (HT.out.below HBA.out)).mono ?_
  rintro e w2 ⟨v2, vs2, rfl, ho2, _, hb2⟩
  obtain ⟨a2, c2, rfl⟩ := own_form ho2
  have hs2 := hb2.size
  simp only [World.size_alloc] at hs2
  have HBB := Lib.hid (bel_by hb2 (by simp; omega) HBA.out)
  have HWB := Lib.hid (bel_by hb2 (by simp) HWA.out)
  have HF2 := Lib.hid (HF1.out.keep hb2)
  clear ho2 hb2 H2 HF1 HBA HWA
  have HF3 := Lib.hid (HF2.out.keep ((Below.refl _ _).alloc (Nat.le_refl _) (.cells #[.int .i64 2, .int .i64 4] 26)))
  have HG3 := Lib.hid (ft_new w2 2 4 26)
  have HB3 := Lib.hid (HBB.out.alloc (by omega) (.cells #[.int .i64 2, .int .i64 4] 26))
  have HW3 := Lib.hid (HWB.out.alloc (by omega) (.cells #[.int .i64 2, .int .i64 4] 26))
  clear HF2 HBB HWB
  obtain ⟨⟨aa, ba, oa, la, ca, x1, x2, _⟩, ⟨ak, bk, ok, ck, y1, _⟩, z1, z2, z3, ⟨aa', ba', oa', la', ca', x1', x2', _⟩, ⟨ak', bk', ok', ck', y1', _⟩, z1', z2', z3', _⟩ := (HL.out.low (fun x hx => hx.2) HW3.out).2.2.2.2
  obtain rfl : la = 3 := x2.hl.symm
  have y1' : ((w2.alloc (.cells #[.int .i64 2, .int .i64 4] 26))).cell? ⟨b1, 8, none⟩ = some (.slice ak' 1 ck') := y1'
  have z2' : ((w2.alloc (.cells #[.int .i64 2, .int .i64 4] 26))).cell? ⟨b1, 7, none⟩ = some (.bool true) := z2'
  have x1 : ((w2.alloc (.cells #[.int .i64 2, .int .i64 4] 26))).cell? ⟨b1, 1, none⟩ = some (.slice aa 3 ca) := x1
  obtain ⟨f0, f1, ff, fl⟩ := HF3.out
  obtain ⟨g0, g1, gf, gl⟩ := HG3.out
  clear x2 y1 z1 z2 z3 x1' x2' z1' z3'
  go_wp2_with fail
  clear f0 f1 ff fl g0 g1 gf gl x1 y1' z2'
  refine (HCN.out _ _ _ _ _ (HL.out.low (fun x hx => hx.2) HW3.out)).mono ?_
  rintro e w4 ⟨rfl, hb4⟩
  have HB4 := Lib.hid (HB3.out.trans (Below.mono hb4 HB3.out.size))
  have HW4 := Lib.hid (HW3.out.trans (Below.mono hb4 HW3.out.size))
  have HG4 := Lib.hid (HG3.out.keep hb4)
  clear hb4 HB3 HW3 HG3 HF3
  go_wp2_with fail
  refine (HDP.out _ _ _ _ _ (HL.out.low (fun x hx => hx.2) HW4.out)).mono ?_
  rintro e w5 ⟨rfl, hb5⟩
  have HB5 := Lib.hid (HB4.out.trans (Below.mono hb5 HB4.out.size))
  have HW5 := Lib.hid (HW4.out.trans (Below.mono hb5 HW4.out.size))
  obtain ⟨g0, g1, gf, gl⟩ := HG4.out.keep hb5
  clear hb5 HB4 HW4 HG4
  go_wp2_with fail
  refine (HSM.out _ _ _ _ _ (HL.out.low (fun x hx => hx.2) HW5.out)).mono ?_
  rintro e w6 ⟨rfl, hb6⟩
  have HB6 := Lib.hid (HB5.out.trans (Below.mono hb6 HB5.out.size))
  have HW6 := Lib.hid (HW5.out.trans (Below.mono hb6 HW5.out.size))
  clear hb6 HB5 HW5 g0 g1 gf gl
  go_wp2_with fail
  refine (HS1.out _ _ _ _ _ (HL.out.low (fun x hx => hx.2) HW6.out)).mono ?_
  rintro e w7 ⟨rfl, hb7⟩
  have HB7 := Lib.hid (HB6.out.trans (Below.mono hb7 HB6.out.size))
  have HW7 := Lib.hid (HW6.out.trans (Below.mono hb7 HW6.out.size))
  clear hb7 HB6 HW6
  go_wp2_with fail
  refine (HCK.out _ _ _ _ _ (HL.out.low (fun x hx => hx.2) HW7.out) (HT.out.below HB7.out)).mono ?_
  rintro e w8 ⟨rfl, hb8⟩
  have HB8 := Lib.hid (HB7.out.trans (Below.mono hb8 HB7.out.size))
  have HW8 := Lib.hid (HW7.out.trans (Below.mono hb8 HW7.out.size))
  clear hb8 HB7 HW7
  have hs8 := HB8.out.size
  have hs8w := HW8.out.size
  have HB8a := Lib.hid (HB8.out.alloc (by omega) (.cells #[.string ⟨#[59]⟩, .slice none 0 0, .bool false, .slice none 0 0, .int .i64 0] 41))
  have HW8a := Lib.hid (HW8.out.alloc (by omega) (.cells #[.string ⟨#[59]⟩, .slice none 0 0, .bool false, .slice none 0 0, .int .i64 0] 41))
  go_wp2_with fail
  refine (HCS.out _ _ _ _ _ (slc_new w8 ⟨#[59]⟩) (HT.out.below HB8a.out)).mono ?_
  rintro e w9 ⟨rfl, hb9⟩
  have HB9 := Lib.hid (HB8a.out.trans (Below.mono hb9 HB8a.out.size))
  have HW9 := Lib.hid (HW8a.out.trans (Below.mono hb9 HW8a.out.size))
  clear hb9 HB8a HW8a HB8 HW8
  go_wp2_with fail
  refine (HFI.out _ _ _ _ _ (HL.out.low (fun x hx => hx.2) HW9.out)).mono ?_
  rintro e w10 ⟨⟨a9, c9, rfl⟩, hb10⟩
  have HB10 := Lib.hid (HB9.out.trans (Below.mono hb10 HB9.out.size))
  clear hb10
  go_wp2_with fail
  go_ret
  exact ⟨rfl, HB10.out⟩
end Go.Proofs.YtiofekoadjgjdaaGreatDoor
