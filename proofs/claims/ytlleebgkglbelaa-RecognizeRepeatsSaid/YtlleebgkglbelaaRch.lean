/- Contract of layer 14's reference: Chain. -/
import Derived.Test.YtlleebgkglbelaaRel
import Derived.Test.YtlleebgkglbelaaApp
import Derived.Lib.QuietBelow
set_option linter.unusedSimpArgs false
set_option linter.unusedVariables false
namespace Go.Proofs.Ytlleebgkglbelaa
open Go.RowKit

/-- the first element with a code -/
def fstE (L : List El) (s : ByteArray) : Option El := L.find? (fun x => decide (x.c = s))
/-- the chain from a code on, if it ends within so many steps -/
def chF (L : List El) : Nat → ByteArray → Option (List El)
  | 0, _ => none
  | n + 1, s => match fstE L s with
    | none => some []
    | some x => (chF L n x.l).map (x :: ·)
theorem idx_none {L : List El} {s : ByteArray} (h : fstE L s = none) : idxE L s = -1 := by
  unfold fstE at h
  rw [List.find?_eq_none] at h
  exact idxE_miss (fun j hj => by simpa using h _ (List.getElem_mem hj))
theorem idx_some {L : List El} {s : ByteArray} {x : El} (h : fstE L s = some x) : ∃ (k : Nat) (hk : k < L.length), idxE L s = (k : Int) ∧ L[k]'hk = x := by
  unfold fstE at h
  rw [List.find?_eq_some_iff_getElem] at h
  obtain ⟨h1, k, hk, h2, h3⟩ := h
  refine ⟨k, hk, ?_, h2⟩
  refine idxE_hit hk (by rw [h2]; simpa using h1) (fun j hj hjk => ?_)
  simpa using h3 j hjk
theorem fstE_mem {L : List El} {s : ByteArray} {x : El} (h : fstE L s = some x) : x ∈ L ∧ x.c = s := ⟨List.mem_of_find?_eq_some h, by simpa using List.find?_some h⟩
def codC (L : List El) : List Value := L.map (fun x => Value.string x.c)
theorem codC_snoc (L : List El) (x : El) : codC (L ++ [x]) = codC L ++ [.string x.c] := by simp [codC]
theorem codC_len (L : List El) : (codC L).length = L.length := by simp [codC]
theorem infoT : (Try.prog.info? 9).map (fun i => (i.zero, i.size, i.bytes)) = some (some (.string ⟨#[]⟩), 1, 16) := by kernel_rfl
theorem one_cellS (w : World) (v : Value) (T : TypeId) : ∀ j u, [v][j]? = some u → (w.alloc (.cells #[v] T)).cell? ((⟨w.heap.size, 0, none⟩ : Addr).add j) = some u := by
  intro j u hu
  match j, hu with
  | 0, hu => simp at hu; subst hu; simp [go_sem]
  | j + 1, hu => simp at hu
/-- what Chain gives -/
def RchPost (w : World) (C : List El) (e : Ending) (w' : World) : Prop :=
  ∃ v, e = .returned v ∧ w'.ownsRow w.heap.size 9 1 v C.length (codC C) ∧ Below w.heap.size w w'
theorem ct_grown {w w' : World} {row : Option Nat} {b : Nat} {c : Ct} (h : CtAt w b c) (hg : w.grownBy w' row) (hne : some b ≠ row) : CtAt w' b c :=
  ⟨(World.cell?_of_block (a := ⟨b, 0, none⟩) (hg.block _ h.lt hne)).trans h.c0, (World.cell?_of_block (a := ⟨b, 1, none⟩) (hg.block _ h.lt hne)).trans h.c1, (World.cell?_of_block (a := ⟨b, 2, none⟩) (hg.block _ h.lt hne)).trans h.c2, (World.cell?_of_block (a := ⟨b, 3, none⟩) (hg.block _ h.lt hne)).trans h.c3, fun k => (World.frozen?_of_block (a := ⟨b, k, none⟩) (hg.block _ h.lt hne)).trans (h.f k), Nat.lt_of_lt_of_le h.lt hg.size⟩
set_option maxHeartbeats 4000000 in
set_option maxRecDepth 100000 in
theorem rchain_any {w : World} {c : Ct} (h : CtOk w c) (s : ByteArray) {n : Nat} {C : List El} (hC : chF c.E n s = some C) (hl : C.length ≤ 1000000) : Calls Try.prog 35 #[c.val, .string s] w (RchPost w C) := by
  obtain ⟨iz, hi, hz0, hz1, hz2⟩ := info_parts infoT
  have hl0 := h.e.hl
  have hle : c.ne ≤ 9223372036854775807 := by have := h.e.hcap; have := h.e.hmax; unfold maxLen at this; omega
  have HOK := Lib.hid h
  have HEL := Lib.hid (fun W s (hW : CtOk W c) => relem_any hW s)
  have HN := Lib.hid (ct_new w c 27)
  have HB0 := Lib.hid (show Below w.heap.size w (w.alloc (.cells #[.slice c.ag c.ng c.cg, .slice c.ak c.nk c.ck, .slice c.ae c.ne c.ce, .slice c.ac c.nc c.cc] 27)) from (by repeat (first | with_reducible exact Below.refl _ _ | (with_reducible refine Below.setCell ?_ (by first | exact Nat.le_refl _ | omega | (simp; done) | (simp; omega)) _) | (with_reducible refine Below.alloc ?_ (by first | exact Nat.le_refl _ | omega | (simp; done) | (simp; omega)) _) | with_reducible refine Below.drew ?_ | with_reducible refine bel_drewN ?_ _ | (with_reducible refine bel_by (by with_reducible assumption) (by first | exact Nat.le_refl _ | omega | (simp; done) | (simp; omega)) ?_))))
  have HC := Lib.hid hC
  have HNO := Lib.hid (fun s (h : fstE c.E s = none) => idx_none h)
  have HSO := Lib.hid (fun s x (h : fstE c.E s = some x) => idx_some h)
  unfold RchPost
  clear h hC
  unfold Ct.val at HEL ⊢
  obtain ⟨ag, bg, og, ng, cg, ak, bk, ok, nk, ck, ae, be, oe, ne, ce, ac, bc, oc, nc, cc, G, K, E, X⟩ := c
  simp only at hl0 hle HN HB0 HEL HC HNO HSO ⊢
  go_enter Try.func35, Try.ntmps35
  go_wp2_with fail
  obtain ⟨z0, z1, z2, z3, zf, zl⟩ := HN.out
  simp only at z0 z1 z2 z3
  go_wp2_with fail
  refine (HEL.out _ s (HOK.out.keep HB0.out)).mono ?_
  rintro e w1 ⟨rfl, hb1⟩
  have HB1 := Lib.hid (HB0.out.trans (hb1.mono HB0.out.size))
  have HN1 := Lib.hid (HN.out.keep hb1)
  clear hb1 HB0 HN z0 z1 z2 z3 zf zl
  go_wp2_with fail
  go_loopw [5, 6] (fun s5 s6 wr => ∃ (A : List El) (m : Nat) (t : ByteArray) (B : List El), s6 = .int .i64 (idxE E t) ∧ A.length ≤ C.length ∧ Hid (chF E m t = some B) ∧ Hid (A ++ B = C) ∧ Hid (wr.ownsRow (w.heap.size + 1) 9 1 s5 A.length (codC A)) ∧ Hid (Below w.heap.size w wr) ∧ Hid (CtAt wr w.heap.size _)) (fun s5 _ _ => C.length - (match s5 with | .slice _ n _ => n | _ => 0))
  case atStart => exact ⟨[], n, s, C, rfl, Nat.zero_le _, HC, Lib.hid rfl, Lib.hid (World.ownsRow_nil _ _ _ _), HB1, HN1⟩
  case round =>
    obtain ⟨A, m, t, B, rfl, hAl, HCH, HAB, HO, HB, HNr⟩ := hrel
    obtain ⟨ao, cv, rfl⟩ := own_form HO.out
    clear HB1 HN1 HC
    have hszw : w.heap.size < wr.heap.size := HNr.out.lt
    have hch := HCH.out
    cases m with
    | zero => rw [chF] at hch; exact absurd hch (by simp)
    | succ m =>
      rw [chF] at hch
      cases hx : fstE E t with
      | none =>
        rw [hx] at hch
        simp only [Option.some.injEq] at hch
        have hidx := HNO.out t hx
        have HAC := Lib.hid (show A = C by have := HAB.out; rw [← hch, List.append_nil] at this; exact this)
        clear hch HAB HCH
        rw [hidx]
        have k0 : decide ((-1 : Int) ≥ 0) = false := by decide
        clear hx hidx
        go_wp2_with fail
        go_ret
        rw [← HAC.out]
        exact ⟨_, rfl, own_low HO.out (Nat.le_succ _), HB.out⟩
      | some x =>
        rw [hx] at hch
        simp only [Option.map_eq_some_iff] at hch
        obtain ⟨B', hB', rfl⟩ := hch
        obtain ⟨k, hk, hidx, hkx⟩ := HSO.out t x hx
        rw [hidx]
        have HB' := Lib.hid hB'
        have HAB2 := Lib.hid (show (A ++ [x]) ++ B' = C by rw [← HAB.out]; simp)
        have hAl2 : A.length + 1 ≤ C.length := by
          have := congrArg List.length HAB.out
          simp only [List.length_append, List.length_cons] at this
          omega
        clear hx hidx hB' HAB HCH
        have hkn : k < ne := by omega
        have hS := (HOK.out.keep HB.out).e
        simp only at hS
        obtain rfl := hS.ha (by omega)
        have sb := hS.hb (by omega)
        have HS := Lib.hid hS
        have c0 := hS.c0 k hk
        have c4 := hS.c4 k hk
        rw [hkx] at c0 c4
        have HKX := Lib.hid hkx
        clear hS hkx
        obtain ⟨xc, xg, xn, xs, xl⟩ := x
        simp only at c0 c4 HB' HAB2
        have k0 : decide ((k : Int) ≥ 0) = true := decide_eq_true (by omega)
        have k1 : (k : Int) < (ne : Int) := by omega
        obtain ⟨z0, z1, z2, z3, zf, zl⟩ := HNr.out
        simp only at z0 z1 z2 z3
        have HO3 := Lib.hid (HO.out.alloc (.cells #[.string xc] 9))
        have HB3 := Lib.hid (show Below w.heap.size w (wr.alloc (.cells #[.string xc] 9)) from HB.out.alloc HB.out.size _)
        have HN3 := Lib.hid (show CtAt (wr.alloc (.cells #[.string xc] 9)) w.heap.size _ from HNr.out.keep ((Below.refl _ _).alloc (Nat.le_refl _) _))
        have HCE := Lib.hid (one_cellS wr (.string xc) 9)
        have HOL := Lib.hid (fun g h => HO.out.lt g h)
        have HNE := Lib.hid (show ∀ g, Value.ownBlock (.slice ao A.length cv) = some g → g ≠ w.heap.size from fun g h e => by have := (HO.out.lt g h).1; omega)
        clear HNr HO HB
        go_wp2_with (at_builtin; go_loud (refine wpList_append_blk _ rfl _ _ 23 rfl (w.heap.size + 1) 9 iz (.string ⟨#[]⟩) 1 16 Try.underlying23 hi hz0 hz1 hz2 rfl (by decide) _ _ _ rfl HO3.out ⟨wr.heap.size, 0, none⟩ 1 1 [.string xc] rfl rfl HCE.out ?n1 ?n2 ?n3 ?n4 (by decide) ?_))
        case n1 => first | rfl | (intro u hu; simp only [List.mem_cons, List.not_mem_nil, or_false] at hu; rcases hu with rfl <;> rfl)
        case n2 => unfold maxLen; omega
        case n3 => omega
        case n4 => first | omega | (simp; omega)
        intro v' w7 ho hg hbk
        have HO7 := Lib.hid (show w7.ownsRow (w.heap.size + 1) 9 1 v' (A ++ [(⟨xc, xg, xn, xs, xl⟩ : El)]).length (codC (A ++ [(⟨xc, xg, xn, xs, xl⟩ : El)])) by rw [List.length_append, List.length_singleton, codC_snoc]; exact ho)
        have HB7 := Lib.hid (HB3.out.grown hg (by simp; omega) (fun g h => by have := (HOL.out g h).1; omega))
        have HN7 := Lib.hid (show CtAt w7 w.heap.size _ from ct_grown HN3.out hg (fun e => HNE.out _ e.symm rfl))
        clear ho hg hbk HO3 HB3 HCE HOL HN3 HNE c0 c4 z0 z1 z2 z3 zf zl HS
        have HOK7 := Lib.hid (HOK.out.keep HB7.out)
        have hS := HOK7.out.e
        simp only at hS
        have hks : k < E.length := by omega
        have c4 := hS.c4 k hks
        have hkx2 := HKX.out
        rw [hkx2] at c4
        simp only at c4
        obtain ⟨z0, z1, z2, z3, zf, zl⟩ := HN7.out
        simp only at z0 z1 z2 z3
        have hsz7 : be < w7.heap.size := hS.hb (by omega)
        have a4 := fun d os => cell_regrown c4 d os
        have b0 := fun d os => cell_regrown z0 d os
        have b1 := fun d os => cell_regrown z1 d os
        have b2 := fun d os => cell_regrown z2 d os
        have b3 := fun d os => cell_regrown z3 d os
        have cQ := fun (d : Nat) (os : Array Obj) => Calls.regrown_of (HEL.out (Sort.grow (redrawn w7 d) os) xl (HOK7.out.keep (below_regrown w7 d os)))
        clear hS hkx2 c4 z0 z1 z2 z3 zf zl
        go_upto_region 4 with fail
        refine wp_region_quiet_below (by kernel_rfl) (by kernel_rfl) ?_
        repeat (quiet_step (exact cQ _ _))
        refine wpQuiet_nil ?_
        intro _ hw'
        obtain ⟨⟨dq, osq⟩, hw''⟩ := hw'
        subst hw''
        have HBI := below_regrown w7 dq osq
        have HB8 := Lib.hid (HB7.out.trans (HBI.mono HB7.out.size))
        have HN8 := Lib.hid (HN7.out.keep HBI)
        have HO8 := Lib.hid (own_below HO7.out HBI)
        generalize Sort.grow (redrawn w7 dq) osq = w8 at *
        clear HBI cQ a4 b0 b1 b2 b3
        go_wp2_with fail
        go_roundw
        case rel => exact ⟨A ++ [(⟨xc, xg, xn, xs, xl⟩ : El)], m, xl, B', rfl, by rw [List.length_append, List.length_singleton]; omega, HB', HAB2, HO8, HB8, HN8⟩
        case measure =>
          have hl7 := HO8.out
          obtain ⟨a7, c7, rfl⟩ := own_form hl7
          simp; omega
end Go.Proofs.Ytlleebgkglbelaa
