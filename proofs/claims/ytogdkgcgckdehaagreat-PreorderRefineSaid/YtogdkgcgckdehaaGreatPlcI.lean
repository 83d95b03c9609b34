/- preorder.placed at int: the place of each element. -/
import Derived.Test.YtogdkgcgckdehaaGreatClnI
import Derived.Laws.MakeOwn
import Derived.Test.YtogdkgcgckdehaaGreatPlq
set_option linter.unusedSimpArgs false
set_option linter.unusedVariables false
namespace Go.Proofs.YtogdkgcgckdehaaGreat
open Go.RowKit Go.Sort

set_option maxHeartbeats 1000000 in
set_option maxRecDepth 100000 in
theorem plcI1_any {α : Type} {enc : α → Value} {cf : α → α → Int} {x y : α} {W : World} {bo bx g : Nat} {cb : Array Value}
    (eg : ∀ args w, (callFunc g args).run Tryz.prog w = .ok (.enter g args) w) (c1 : W.cell? ⟨bo, 0, none⟩ = some (.func (.func g) #[] cb)) (c2 : W.cell? ⟨bx, 0, none⟩ = some (enc x))
    (hg : Calls Tryz.prog g (#[enc y, enc x] ++ cb) W fun e w' => e = .returned (.int .i64 (cf y x)) ∧ Grw W w') :
    Calls Tryz.prog 55 #[enc y, .pointer (some ⟨bo, 0, none⟩), .pointer (some ⟨bx, 0, none⟩)] W fun e w' => e = .returned (.bool (decide (cf y x < 0))) ∧ Grw W w' := by
  have HG := Lib.hid hg
  clear hg
  go_enter Tryz.func55, Tryz.ntmps55
  go_wp2_with fail
  refine HG.out.mono ?_
  rintro e w1 ⟨rfl, hb⟩
  have HB := Lib.hid hb
  clear hb
  go_wp2
  go_ret
  exact ⟨rfl, HB.out⟩
end Go.Proofs.YtogdkgcgckdehaaGreat
/- preorder.placed at int: the walk. -/
namespace Go.Proofs.YtogdkgcgckdehaaGreat
open Go.RowKit Go.Sort

set_option maxHeartbeats 2000000 in
set_option maxRecDepth 100000 in
theorem plcI_any {α : Type} [Inhabited α] {enc : α → Value} (h1 : OneCell enc) (hsh : ∀ x, ∃ z : Int, enc x = .int .i64 z) {cf : α → α → Int} (hT : Tot cf) {a : Option Addr} {b off len cap : Nat} {L : List α} {w : World} (h : SlG enc w a b off len cap L) (hlen : len ≤ 1000000)
    (g : Nat) (cb : Array Value) (eg : ∀ args w, (callFunc g args).run Tryz.prog w = .ok (.enter g args) w) (hc : L ≠ [] → CmpG enc cf g cb w.heap.size w) :
    Calls Tryz.prog 27 #[.slice a len cap, .func (.func g) #[] cb] w (PlcPost w len (plcL cf L)) := by
  have HL := Lib.hid h
  have HC := Lib.hid hc
  have HSH := Lib.hid hsh
  obtain ⟨iz, hi, hz0, hz1, hz2⟩ := info_parts infoI
  clear h hc hsh
  go_enter Tryz.func27, Tryz.ntmps27
  go_wp2_with fail
  have hb1 : Below w.heap.size w (w.alloc (.cells #[.func (.func g) #[] cb] 56)) := (by repeat (first | with_reducible exact Below.refl _ _ | (with_reducible refine Below.setCell ?_ (by first | exact Nat.le_refl _ | omega | (simp; done) | (simp; omega)) _) | (with_reducible refine Below.alloc ?_ (by first | exact Nat.le_refl _ | omega | (simp; done) | (simp; omega)) _) | with_reducible refine Below.drew ?_ | with_reducible refine bel_drewN ?_ _ | (with_reducible refine bel_by (by with_reducible assumption) (by first | exact Nat.le_refl _ | omega | (simp; done) | (simp; omega)) ?_)))
  have hbox : (w.alloc (.cells #[.func (.func g) #[] cb] 56)).cell? ⟨w.heap.size, 0, none⟩ = some (.func (.func g) #[] cb) := box1_cell w _ _
  have hs1 : (w.alloc (.cells #[.func (.func g) #[] cb] 56)).heap.size = w.heap.size + 1 := box1_size w (.func (.func g) #[] cb) 56
  generalize w.alloc (.cells #[.func (.func g) #[] cb] 56) = w1 at *
  refine (clnI_any h1 (HL.out.keep hb1) hlen).mono ?_
  rintro e w2 ⟨v, rfl, hown, hB2⟩
  have hbox2 : w2.cell? ⟨w.heap.size, 0, none⟩ = some (.func (.func g) #[] cb) := (hB2.cell (p := ⟨w.heap.size, 0, none⟩) (by rw [hs1]; exact Nat.lt_succ_self _)).trans hbox
  have hsr := srtI_any h1 hT HL.out.hl hown hlen hB2.size g cb eg (fun hnil W hW => HC.out hnil W (hb1.trans ((hB2.trans hW).mono (by omega))))
  have HB1 := Lib.hid hb1
  have HB2 := Lib.hid hB2
  have HX := Lib.hid hbox
  have HZ := Lib.hid hs1
  clear hown hb1 hB2 hbox hs1
  go_wp2_with fail
  refine hsr.mono ?_
  rintro e w3 ⟨rfl, L', hp, hso, hown3, hB3⟩
  have HP := Lib.hid hp
  have HSO := Lib.hid hso
  have hl' : L'.length = len := hp.length_eq.trans HL.out.hl
  obtain ⟨aS, bS, cS, rfl, hsS, _, hbS⟩ := own_sl hl' hown3
  have HSS := Lib.hid hsS
  have HBS := Lib.hid hbS
  have HL' := Lib.hid hl'
  have HB13 := Lib.hid (HB2.out.trans hB3)
  have HB3 := Lib.hid (HB1.out.trans ((HB2.out.trans hB3).mono (by rw [HZ.out]; omega)))
  have HX3 := Lib.hid (show w3.cell? ⟨w.heap.size, 0, none⟩ = some (.func (.func g) #[] cb) from (HB13.out.cell (p := ⟨w.heap.size, 0, none⟩) (by rw [HZ.out]; exact Nat.lt_succ_self _)).trans HX.out)
  have hlt3 : w.heap.size < w3.heap.size := by have := HB13.out.size; rw [HZ.out] at this; omega
  have HLT := Lib.hid hlt3
  clear hsr hbox2 hp hso hl' hsS hbS hown3 hB3 HB13 HX HB2 HB1 HZ
  obtain ⟨w4, hrun, hown, hgrow⟩ := run_make_full (P := Tryz.prog) w3 w3.heap.size 28 3 iz (.int .i64 0) 1 Tryz.underlying28 hi hz0 hz1 .i64 .i64 len (by rw [hz2]; omega) (by unfold maxLen; omega) (Nat.le_refl _)
  have hB4 : Below w3.heap.size w3 w4 := (Below.refl _ _).grown hgrow (Nat.le_refl _) (by simp)
  have HO4 := Lib.hid (show w4.ownsRow w3.heap.size 3 1 (.slice (some ⟨w3.heap.size, 0, none⟩) len len) len ((List.replicate len (0 : Int)).map (Value.int .i64)) by
    have e : (madeCells (Value.int .i64 0).cells (len * 1)).toList = (List.replicate len (0 : Int)).map (Value.int .i64) := by
      rw [List.map_replicate, Nat.mul_one]
      exact toList_madeCells_one _ _
    rw [← e]; exact hown)
  have HB4 := Lib.hid hB4
  clear hown hgrow hB4 hlt3
  have HRZ := Lib.hid (show w3.heap.size = w3.heap.size from rfl)
  obtain ⟨gz, hgz⟩ : ∃ gz, w3.heap.size = gz := ⟨_, rfl⟩
  rw [hgz] at hrun HO4 HB4 HLT
  have HGZ := Lib.hid hgz
  clear hgz HRZ
  go_wp2_with fail
  clear hrun
  go_loopw [19] (fun s19 wr => ∃ (k : Nat) (Z : List Int), k ≤ len ∧ s19 = .int .i64 (k : Int) ∧ Hid (wr.ownsRow gz 3 1 (.slice (some ⟨gz, 0, none⟩) len len) len (Z.map (Value.int .i64))) ∧ Hid (Below gz w3 wr) ∧ Hid (Z.length = len) ∧ Hid (∀ j, j < k → Z.getD j 0 = (plcL cf L).getD j 0)) (fun s19 _ => (len - (intOf s19)).toNat)
  case atStart => exact ⟨0, List.replicate len 0, Nat.zero_le _, rfl, HO4, HB4, Lib.hid (by simp), Lib.hid (fun j h => absurd h (Nat.not_lt_zero j))⟩
  case round =>
    clear HO4 HB4
    obtain ⟨k, Z, hk, rfl, HO, HB, HZL, HZV⟩ := hrel
    by_cases hlt : k < len
    · have l1 : (k : Int) < (len : Int) := by omega
      obtain rfl := HL.out.ha (by omega)
      have hkL : k < L.length := by rw [HL.out.hl]; exact hlt
      have hBr : Below w.heap.size w wr := HB3.out.trans (HB.out.mono (by have := HLT.out; omega))
      have cx : wr.cell? ⟨b, off + k, none⟩ = some (enc (L[k]'hkL)) := (HL.out.keep hBr).cell k hkL
      have hnil : L ≠ [] := by intro e; rw [e] at hkL; simp at hkL
      have hcap := HL.out.hcap
      have hmax := HL.out.hmax
      unfold maxLen at hmax
      have hbx : wr.cell? ⟨w.heap.size, 0, none⟩ = some (.func (.func g) #[] cb) := (HB.out.cell (p := ⟨w.heap.size, 0, none⟩) (HLT.out)).trans HX3.out
      have hgr : gz ≤ wr.heap.size := by have := HB.out.size; rw [HGZ.out] at this; exact this
      obtain ⟨hgz2, hfz⟩ := own_blk HO.out
      have hsz : w.heap.size < wr.heap.size := by have := HLT.out; omega
      have hcnt := fun (W5 : World) (h5 : Below wr.heap.size wr W5) (hx5 : W5.cell? ⟨wr.heap.size, 0, none⟩ = some (enc (L[k]'hkL))) (hs5 : wr.heap.size < W5.heap.size) =>
        cntI_any (sel := fun y => decide (cf y (L[k]'hkL) < 0)) ((HSS.out.low (fun h0 => HSS.out.hb h0) (HGZ.out ▸ HB.out)).keep h5) 55 #[.pointer (some ⟨w.heap.size, 0, none⟩), .pointer (some ⟨wr.heap.size, 0, none⟩)]
          (enters_of Tryz.func55 (by kernel_rfl) rfl) hlen (fun i j hi hj hij => HSO.out.mono hT _ hi hj hij)
          (fun W6 h6 y _ => plcI1_any eg ((h6.cell (p := ⟨w.heap.size, 0, none⟩) (show w.heap.size < W5.heap.size from by omega)).trans ((h5.cell (p := ⟨w.heap.size, 0, none⟩) hsz).trans hbx)) ((h6.cell (p := ⟨wr.heap.size, 0, none⟩) hs5).trans hx5)
            (HC.out hnil W6 (hBr.trans (((h5.mono (by omega : w.heap.size ≤ wr.heap.size))).trans (h6.mono (by omega)))) y _))
      have hce : L'.countP (fun y => decide (cf y (L[k]'hkL) < 0)) = befN cf L (L[k]'hkL) := HP.out.countP_eq _
      have hcl : befN cf L (L[k]'hkL) ≤ len := by rw [← HL.out.hl]; exact bef_le cf L _
      have HV := Lib.hid (show (plcL cf L).getD k 0 = 1 + (befN cf L (L[k]'hkL) : Int) by unfold plcL; simp [List.getD, hkL])
      obtain ⟨z, hz⟩ := HSH.out (L[k]'hkL)
      rw [hce] at hcnt
      generalize befN cf L (L[k]'hkL) = m at *
      generalize L[k]'hkL = x at *
      rw [hz] at cx
      have HCN := Lib.hid hcnt
      have HBR := Lib.hid hBr
      have HBX := Lib.hid hbx
      have HFZ := Lib.hid hfz
      have HZX := Lib.hid hz
      clear hcnt hBr hbx hfz hz hce hnil
      go_wp2_with fail
      refine (HCN.out _ ((Below.refl _ _).alloc (Nat.le_refl _) _) ?hx ?hs).mono ?_
      case hx => rw [HZX.out]; exact box1_cell wr _ _
      case hs => simp
      rintro e w6 ⟨rfl, hG⟩
      have hB6 : Below wr.heap.size wr w6 := ((Below.refl _ _).alloc (Nat.le_refl _) _).trans (hG.below.mono (by simp))
      have HO6 := Lib.hid (own_below HO.out hB6)
      have fz6 : w6.frozen? ⟨gz, k, none⟩ = false := HO6.out.frozenAt k
      have cz6 : ∃ z, w6.cell? ⟨gz, k, none⟩ = some z := ⟨_, by rw [HO6.out.cellAt k (by omega), List.getElem?_map, List.getElem?_eq_getElem (by rw [HZL.out]; exact hlt)]; rfl⟩
      obtain ⟨z6, cz6⟩ := cz6
      have HB6 := Lib.hid (show Below gz w3 w6 from HB.out.trans (hB6.mono hgr))
      clear hG hB6 HCN HO HB HBR HBX HFZ cx
      go_wp2_with fail
      go_roundw
      case rel =>
        have hst := HO6.out.stored k (.int .i64 (1 + (m : Int)))
        rw [← List.map_set] at hst
        exact ⟨k + 1, Z.set k (1 + (m : Int)), by omega, by go_num, Lib.hid hst.1, Lib.hid (HB6.out.setCell (by simp) _), Lib.hid (by rw [List.length_set]; exact HZL.out), Lib.hid (setI_next HZL.out hlt HV.out HZV.out)⟩
      case measure => simp [intOf]; omega
    · obtain rfl : k = len := by omega
      have l1 : ¬ (k : Int) < (k : Int) := by omega
      go_wp2
      go_ret
      exact ⟨gz, rfl, plc_end HO.out (by rw [plcL_len]; exact HL.out.hl) HZL.out (by unfold maxLen; omega) HZV.out, ⟨by have := HLT.out; omega, fun j => HO.out.frozenAt j⟩, HB3.out.trans (HB.out.mono (by have := HLT.out; omega))⟩
/-- what is asked of a comparison, of the elements of which p holds -/
def CmpOnI {α : Type} (p : α → Prop) (enc : α → Value) (cf : α → α → Int) (g : Nat) (cb : Array Value) (B : Nat) (w : World) : Prop :=
  ∀ W, Below B w W → ∀ x y : α, p x → p y → Calls Tryz.prog g (#[enc x, enc y] ++ cb) W fun e w' => e = .returned (.int .i64 (cf x y)) ∧ Grw W w'
theorem plcI_on {α : Type} [Inhabited α] {enc : α → Value} (h1 : OneCell enc) (hsh : ∀ x, ∃ z : Int, enc x = .int .i64 z) {p : α → Prop} {cf : α → α → Int} (hT : Tot (fun x y : { x // p x } => cf x.1 y.1)) {a : Option Addr} {b off len cap : Nat} {L : List α} {w : World} (hp : ∀ x ∈ L, p x) (h : SlG enc w a b off len cap L) (hlen : len ≤ 1000000)
    (g : Nat) (cb : Array Value) (eg : ∀ args w, (callFunc g args).run Tryz.prog w = .ok (.enter g args) w) (hc : CmpOnI p enc cf g cb w.heap.size w) :
    Calls Tryz.prog 27 #[.slice a len cap, .func (.func g) #[] cb] w (PlcPost w len (plcL cf L)) := by
  by_cases hnil : L = []
  · subst hnil
    exact plcI_any h1 hsh (cf := fun _ _ : α => 0) ⟨fun _ _ => Or.inr (Or.inl rfl), fun _ _ => rfl, fun _ _ _ _ _ => Int.le_refl _⟩ h hlen g cb eg (fun hne => absurd rfl hne)
  · obtain ⟨zs, hz⟩ : ∃ zs : List { x // p x }, zs.map Subtype.val = L := ⟨L.attach.map fun x => ⟨x.1, hp x.1 x.2⟩, by
      rw [List.map_map]
      exact List.attach_map_subtype_val L⟩
    subst hz
    haveI : Inhabited { x // p x } := by
      cases zs with
      | nil => exact absurd rfl hnil
      | cons z t => exact ⟨z⟩
    have hr : plcL cf (zs.map Subtype.val) = plcL (fun x y : { x // p x } => cf x.1 y.1) zs := by
      unfold plcL befN
      rw [List.map_map]
      apply List.map_congr_left
      intro x _
      simp only [Function.comp, List.countP_map]
      rfl
    rw [hr]
    exact plcI_any (enc := fun x : { x // p x } => enc x.1) (fun x => h1 x.1) (fun x => hsh x.1) hT h.unmap hlen g cb eg (fun _ W hW x y => hc W hW x.1 y.1 x.2 y.2)
end Go.Proofs.YtogdkgcgckdehaaGreat
