/- Entries that are arguments: opened. -/
import Derived.Test.YtohalocbghhenaaGreatDoorRowC
import Derived.Test.YtohalocbghhenaaGreatDoorLawLine
import Derived.Test.YtohalocbghhenaaGreatDoorRowK
set_option linter.unusedSimpArgs false
set_option linter.unusedVariables false
namespace Go.Proofs.YtohalocbghhenaaGreatDoor
open Go.ChangeShapes Go.WideShapes Go.ChangeAt Go.RowKit Go.Joins Go.Deep

set_option maxRecDepth 100000 in
theorem open_clA {H : Type} {enc : TypeId × Value → H} {W : World} {base b0 : Nat} {hd : Bool} {v : Value} {d : DataW H} {p : List MemPlace}
    (hk : Value.okWide Tryz.prog W .any base 25 v) (h : DataW.Trod enc Tryz.prog W b0 (fun _ => true) hd 25 v d p) :
    ∃ wd aa ba oa la ca xs bl ak bk ok ck kd av, v = .agg #[.string wd, .slice aa la ca, .bool bl, .slice ak (Cls.len kd) ck, .int .i64 av] ∧ SlT W aa ba oa la ca xs ∧ SlC W AllB ak bk ok (Cls.len kd) ck kd := by
  obtain ⟨cs, rfl, hn⟩ := okWide_struct Tryz.underlying25 hk
  rw [cellsC] at hn
  obtain ⟨fuel, hf⟩ := h
  obtain ⟨y0, y1, y2, y3, y4, m, hnm, _, g0, g1, g2, g3, g4⟩ := trod_struct5 Tryz.underlying25 hf
  obtain ⟨l⟩ := cs
  simp only [Value.cells] at g0 g1 g2 g3 g4
  match l, hn with
  | [v0, v1, v2, v3, v4], _ =>
    simp [cellsI, cellsB, cellsU, cellsTs, cellsCs] at g0 g1 g2 g3 g4
    obtain ⟨z0, f0, _, b0⟩ := DataW.trod_string Tryz.underlying9 g0
    obtain ⟨aa, ba, oa, la, ca, xs, f1, sl⟩ := open_toks1 g1
    obtain ⟨z2, f2, _⟩ := DataW.trod_bool Tryz.underlying4 g2
    obtain ⟨ak, bk, ok, ck, kids, f3, sk, _⟩ := open_cls1 m g3
    obtain ⟨z4, f4, _, b4⟩ := DataW.trod_int Tryz.underlying3 g4
    simp only [List.cons.injEq, and_true] at f0 f2 f4
    subst f0 f1 f2 f3 f4
    exact ⟨z0, aa, ba, oa, la, ca, xs, z2, ak, bk, ok, ck, kids, z4, rfl, sl, sk⟩
end Go.Proofs.YtohalocbghhenaaGreatDoor
/- The first line of every entry is as specified, or the first error: for every entry. No condition but that the listed tables and errors are as the program's text lays them, which the card ties. -/
namespace Go.Proofs.YtohalocbghhenaaGreatDoor
open Go.ChangeShapes Go.WideShapes Go.ChangeAt Go.RowKit Go.Joins

set_option maxRecDepth 100000 in
theorem line_lifted (os : Os) (started : os.Started) (H : Type) (enc : TypeId × Value → H) :
    ReturnsInHanded {} Tryz.checked os 3 .any (fun w args => (Rows.printerLineSpec.pre enc Tryz.prog Tryz.f3 [] false w args ∧ laidMetH Tryz.prog laidAll9 w) ∧ sizedMet enc Tryz.prog Tryz.f3 (OpenSpec.ofChange Rows.printerLineSpec) false w args)
      (Rows.printerLineSpec.post enc Tryz.prog Tryz.f3 false true false false) := by
  refine handed_shaped (C := Tryz.checked) (X := fun w => laidMetH Tryz.prog laidAll9 w) (fun _ _ hh h => h.of_heap hh) own started (by kernel_rfl) Tryz.func3
    (ChangeSpec.witness_shaped (enc := enc) (C := Tryz.checked) (os := os) (X := fun w _ => laidMetH Tryz.prog laidAll9 w) false (World.laidAll Tryz.prog os laidAll9) #[.agg #[.string ⟨#[]⟩, .slice none 0 0, .bool false, .slice none 0 0, .int .i64 0]] 8 (World.laidAll_os _ _ _)
      (World.shaped_of_ZipB (by kernel_rfl) (by kernel_rfl)) (by kernel_rfl) (by kernel_rfl) (by kernel_rfl)
      (by rw [MakeChecks.laidMetH_plain _ _ _ (by kernel_rfl)]; exact laidMet_laidAll _ (by kernel_rfl) (by kernel_rfl))) ?_
  intro W base args ds gs before hval0 hW hL hSh
  have HT := tabs_of hL hSh
  have hval : ∀ (j : Nat) t v, Tryz.f3.params[j]? = some t → args[j]? = some v → Value.okWide Tryz.prog W .any base t v := hval0
  have hW' := hW
  obtain ⟨p, q, hA0, hV, rfl, hfz, hnd⟩ := hW
  have hA : DataW.TrodAll enc Tryz.prog W 0 (fun _ => true) true Tryz.f3.params.toList args.toList ds p := hA0
  rw [Tryz.params3] at hA hval
  obtain ⟨v0, d0, rfl, rfl, h0⟩ := trodAll_one hA
  obtain ⟨rfl, rfl⟩ := trodVars_none hV
  obtain ⟨wd0, aa0, ba0, oa0, la0, ca0, xs0, bl0, ak0, bk0, ok0, ck0, kd0, av0, rfl, SX0, SK0⟩ := open_clA (hval 0 25 v0 rfl rfl) h0
  clear hA0 hval0
  simp only [List.append_nil, List.nil_append] at hW'
  have hlt0 : ∀ x ∈ p, x.block < W.heap.size := fun x hx => hW'.lt x (by simp [hx])
  refine (line_walk SX0 SK0 HT).mono fun e W' ⟨he, hb⟩ => ?_
  subst he
  exact ⟨_, rfl, post_of_below (pa := p) (pv := []) hW' (fun _ _ _ => (trodAll_cons_mk (shut_bool Tryz.underlying4 _) trodAll_mk0)) (fun sp hsp => trodAll_mk1 (WideElems.Trod_stays (by kernel_rfl) (by kernel_rfl) (by decide +kernel) h0 (fun x hx => hb.same (hlt0 x hx)) (fun x hx => hsp x (by simp [hx])))) (fun _ _ => rfl) (by simp)
    hb (ok_one (by kernel_rfl) rfl (okWide_bool_mk Tryz.underlying4 _))⟩

theorem line_said : Rows.PrinterLineSaid :=
  OpenClaim.holds_of_wide 3 Tryz.f3 rfl rfl rfl rfl rfl rfl rfl ⟨rfl, rfl, rfl, rfl, rfl⟩ rfl rfl rfl rfl rfl (by kernel_rfl) Tryz.func3 (by kernel_rfl)
    (of_decide_eq_true (by kernel_rfl)) (by unfold Func.isWrapper; first | (rw [if_pos (by decide +kernel)]; kernel_rfl) | (rw [if_neg (by decide +kernel)]; exact ⟨rfl, rfl⟩))
    (fun os started H enc _ => line_lifted os started H enc)

theorem line_card : Rows.PrinterLineCardSaid :=
  Claim7.holds_tied_plain_at .later [] [.data, .data, .data, .data, .sentinel, .sentinel, .data, .pinned] true (true, "b9fd84081522fb3297b026d1187963efa5220e7d954ef8b3971539a48cb9c3ca") true
    line_said (fun _ h => by cases h) (by kernel_rfl) (fun _ h => by cases h) printerLine_row_tie rfl ⟨rfl, rfl⟩ (by kernel_rfl) rfl
    (fun f fn hf hfn => by
      obtain rfl : f = 3 := Option.some.inj ((show Tryz.prog.funcNamed "salchow/salchowlaw11.PrinterLine" = some 3 by kernel_rfl).symm.trans hf) |>.symm
      obtain rfl : fn = Tryz.f3 := (Option.some.inj (Tryz.func3.symm.trans hfn)).symm
      exact ⟨by kernel_rfl, fun j t ht => by
        rw [Tryz.params3] at ht
        have hm : t ∈ [25] := by simpa using Array.mem_of_getElem? ht
        have hall : ([25].all fun u => !Tryz.prog.wantsStandIn u) = true := by kernel_rfl
        exact (show Tryz.prog.wantsStandIn t = false by simpa using List.all_eq_true.1 hall t hm)⟩)
    (by kernel_rfl)
#print axioms line_card
end Go.Proofs.YtohalocbghhenaaGreatDoor
