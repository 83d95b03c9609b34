/- Contract of layer 14: chain. -/
import Derived.Test.YtlleebgkglbelaaEls
import Derived.Test.YtlleebgkglbelaaApp
set_option linter.unusedSimpArgs false
set_option linter.unusedVariables false
namespace Go.Proofs.Ytlleebgkglbelaa
open Go.RowKit

/-- the lower chain from an element on, at most so many -/
def chnO (L : List El) : Nat → Option El → List El
  | 0, _ => []
  | _ + 1, none => []
  | n + 1, some x => x :: chnO L n (getE L x.l)
theorem chnO_len (L : List El) : ∀ (n : Nat) (o : Option El), (chnO L n o).length ≤ n
  | 0, _ => Nat.le_refl _
  | n + 1, none => Nat.zero_le _
  | n + 1, some x => by rw [chnO, List.length_cons]; have := chnO_len L n (getE L x.l); omega
theorem getE_mem {L : List El} {s : ByteArray} {x : El} (h : getE L s = some x) : x ∈ L := List.mem_reverse.1 (List.mem_of_find?_eq_some h)
def szE (L : List El) : Nat := Maps.size (putE L)
theorem szE_le {w : World} {b n : Nat} {L : List El} (h : MapE w b n L) : szE L ≤ n := World.ownsMap.size_le h
theorem own_set {w : World} {base e z n : Nat} {v : Value} {xs : List Value} (h : w.ownsRow base e z v n xs) (p : Addr) (hp : p.block < base) (u : Value) : (w.setCell p u).ownsRow base e z v n xs := by
  refine h.kept (grownBy_set w p u) ?_
  cases hv : v.ownBlock with
  | none => exact Or.inl rfl
  | some g => exact Or.inr (fun e => by cases e; have := (h.lt _ hv).1; omega)
/-- what chain gives -/
def ChPost (w : World) (L : List El) (s : ByteArray) (e : Ending) (w' : World) : Prop :=
  ∃ v, e = .returned v ∧ w'.ownsRow w.heap.size 66 5 v (chnO L (szE L) (getE L s)).length (flatE (chnO L (szE L) (getE L s))) ∧ Below w.heap.size w w'
set_option maxHeartbeats 4000000 in
set_option maxRecDepth 100000 in
theorem chain_any {w : World} {b n : Nat} {L : List El} (h : MapE w b n L) (hn : n ≤ 1000000) (hz : ∀ x ∈ L, x.l.size ≤ maxLen) (s : ByteArray) (hs : s.size ≤ maxLen) : Calls Try.prog 61 #[.map (some b), .string s] w (ChPost w L s) := by
  obtain ⟨iz, hi, hz0, hz1, hz2⟩ := info_parts infoE
  have HM := Lib.hid h
  have HZ := Lib.hid hz
  have hnz := szE_le h
  have hln := fun (W : World) (hW : MapE W b n L) (ty : TypeId) => World.ownsMap.len hW Try.underlying93 ty
  have HLN := Lib.hid hln
  have hln0 := hln w h
  obtain ⟨N, hN⟩ : ∃ N, szE L = N := ⟨_, rfl⟩
  unfold ChPost
  rw [hN]
  have hNn : N ≤ n := by rw [← hN]; exact hnz
  unfold szE at hN
  obtain ⟨C, hC⟩ : ∃ C, chnO L N (getE L s) = C := ⟨_, rfl⟩
  rw [hC]
  have HNN := Lib.hid hN
  obtain ⟨cu, hcu⟩ : ∃ cu, getE L s = cu := ⟨_, rfl⟩
  have HC := Lib.hid (show chnO L N cu = C by rw [← hcu]; exact hC)
  obtain ⟨y, hy⟩ : ∃ y, cu.getD El.zero = y := ⟨_, rfl⟩
  obtain ⟨q, hq⟩ : ∃ q, cu.isSome = q := ⟨_, rfl⟩
  have HY := Lib.hid (show (getE L s).getD El.zero = y by rw [hcu]; exact hy)
  have HQ := Lib.hid (show (getE L s).isSome = q by rw [hcu]; exact hq)
  have HY2 := Lib.hid hy
  have HQ2 := Lib.hid hq
  have HMM := Lib.hid (fun x (h : cu = some x) => getE_mem (hcu.trans h))
  have HM1 := Lib.hid h.lt
  clear h hz hC hln hcu hy hq
  obtain ⟨yc, yg, yn, ys, yl⟩ := y
  rw [hN] at hln0
  have HE0 := Lib.hid (el_new w ⟨yc, yg, yn, ys, yl⟩ 66)
  simp only at HE0
  go_enter Try.func61, Try.ntmps61
  go_wp2_with (at_lookup; go_loud (refine wpList_look_el _ rfl _ _ rfl b n L rfl HM.out s rfl hs ⟨yc, yg, yn, ys, yl⟩ HY.out q HQ.out (.agg #[.string yc, .string yg, .int .i64 yn, .string ys, .string yl]) rfl ?_))
  go_loopw [5, 7] (fun s5 s7 wr => ∃ (ac : List El) (cr : Option El), ac.length ≤ N ∧ s7 = .bool cr.isSome ∧ Hid (wr.ownsRow (w.heap.size + 1) 66 5 s5 ac.length (flatE ac)) ∧ Hid (ElAt wr w.heap.size (cr.getD El.zero)) ∧ Hid (MapE wr b n L) ∧ Hid (Below w.heap.size w wr) ∧ Hid (ac ++ chnO L (N - ac.length) cr = C) ∧ Hid (∀ x, cr = some x → x ∈ L)) (fun s5 _ _ => N - lenV s5)
  case atStart =>
    refine ⟨[], cu, Nat.zero_le _, by rw [HQ2.out], Lib.hid (World.ownsRow_nil _ _ _ _), ?_, ?_, ?_, Lib.hid (by simpa using HC.out), HMM⟩
    · rw [HY2.out]; exact HE0
    · exact Lib.hid (HM.out.keep ((Below.refl _ _).alloc (Nat.le_refl _) _))
    · exact Lib.hid ((Below.refl _ _).alloc (Nat.le_refl _) _)
  case round =>
    obtain ⟨ac, cr, hac, rfl, HO, HE, HMr, HB, HK, HI⟩ := hrel
    obtain ⟨ao, cv, rfl⟩ := own_form HO.out
    clear HM HC HMM HY HQ HY2 HQ2 HE0 hln0
    have hln := HLN.out wr HMr.out
    rw [hN] at hln
    have hbl := HMr.out.lt
    have hzr := HE.out.lt
    have hzb : w.heap.size + 1 ≤ wr.heap.size := hzr
    cases cr with
    | none =>
      have HK2 := Lib.hid (show ac = C by
        have := HK.out
        cases hh : N - ac.length with
        | zero => rw [hh, chnO, List.append_nil] at this; exact this
        | succ j => rw [hh, chnO, List.append_nil] at this; exact this)
      simp only [Option.isSome_none] at *
      go_wp2_with fail
      go_ret
      rw [← HK2.out]
      exact ⟨_, rfl, own_low HO.out (Nat.le_succ _), HB.out⟩
    | some x =>
      simp only [Option.isSome_some, Option.getD_some] at *
      by_cases hlt : ac.length < N
      · have l1 : (ac.length : Int) < (N : Int) := by omega
        have HK2 := Lib.hid (show (ac ++ [x]) ++ chnO L (N - (ac ++ [x]).length) (getE L x.l) = C by
          have := HK.out
          obtain ⟨j, hj⟩ : ∃ j, N - ac.length = j + 1 := ⟨N - ac.length - 1, by omega⟩
          rw [hj, chnO] at this
          rw [List.length_append, List.length_singleton, show N - (ac.length + 1) = j by omega]
          simpa using this)
        have HXM := Lib.hid (HI.out x rfl)
        have hsz := HZ.out x (HI.out x rfl)
        have HCE := Lib.hid (el_cells wr x)
        obtain ⟨cn, hcn⟩ : ∃ cn, getE L x.l = cn := ⟨_, rfl⟩
        obtain ⟨y, hy⟩ : ∃ y, cn.getD El.zero = y := ⟨_, rfl⟩
        obtain ⟨q, hq⟩ : ∃ q, cn.isSome = q := ⟨_, rfl⟩
        have HY := Lib.hid (show (getE L x.l).getD El.zero = y by rw [hcn]; exact hy)
        have HQ := Lib.hid (show (getE L x.l).isSome = q by rw [hcn]; exact hq)
        have HY2 := Lib.hid hy
        have HQ2 := Lib.hid hq
        have HMM := Lib.hid (fun x (h : cn = some x) => getE_mem (hcn.trans h))
        rw [hcn] at HK2
        have HO3 := Lib.hid (HO.out.alloc (.cells #[.string x.c, .string x.g, .int .i64 x.n, .string x.s, .string x.l] 66))
        have HB3 := Lib.hid (HB.out.alloc (show w.heap.size ≤ wr.heap.size by omega) (.cells #[.string x.c, .string x.g, .int .i64 x.n, .string x.s, .string x.l] 66))
        have HOL := Lib.hid (fun g h => HO.out.lt g h)
        have HE3 := Lib.hid (HE.out.keep ((Below.refl _ _).alloc (Nat.le_refl _) (.cells #[.string x.c, .string x.g, .int .i64 x.n, .string x.s, .string x.l] 66)))
        have HM3 := Lib.hid (HMr.out.keep ((Below.refl _ _).alloc (Nat.le_refl _) (.cells #[.string x.c, .string x.g, .int .i64 x.n, .string x.s, .string x.l] 66)))
        have HNB := Lib.hid (show b < w.heap.size from HM1.out)
        clear hcn hy hq HK HI HMr
        obtain ⟨yc, yg, yn, ys, yl⟩ := y
        obtain ⟨xc, xg, xn, xs, xl⟩ := x
        obtain ⟨z0, z1, z2, z3, z4, zf, zl⟩ := HE.out
        simp only at z0 z1 z2 z3 z4 hsz HCE HO3 HB3 HE3 HM3
        go_wp2_with (at_builtin; go_loud (refine wpList_append_blk _ rfl _ _ 24 rfl (w.heap.size + 1) 66 iz (.agg #[.string ⟨#[]⟩, .string ⟨#[]⟩, .int .i64 0, .string ⟨#[]⟩, .string ⟨#[]⟩]) 5 72 Try.underlying24 hi hz0 hz1 hz2 rfl (by decide) _ _ _ rfl HO3.out ⟨wr.heap.size, 0, none⟩ 1 1 [.string xc, .string xg, .int .i64 xn, .string xs, .string xl] rfl rfl HCE.out ?n1 ?n2 ?n3 ?n4 (by decide) ?_))
        case n1 => exact ⟨rfl, rfl, rfl, rfl, rfl⟩
        case n2 => unfold maxLen; omega
        case n3 => omega
        case n4 => first | omega | (simp; omega)
        intro v' w7 ho hg hbk
        have HO7 := Lib.hid (show w7.ownsRow (w.heap.size + 1) 66 5 v' (ac ++ [(⟨xc, xg, xn, xs, xl⟩ : El)]).length (flatE (ac ++ [(⟨xc, xg, xn, xs, xl⟩ : El)])) by rw [List.length_append, List.length_singleton, flatE_snoc]; exact ho)
        have HB7 := Lib.hid (HB3.out.grown hg (by simp; omega) (fun g h => by have := (HOL.out g h).1; omega))
        have HM7 := Lib.hid (show MapE w7 b n L from World.ownsMap.kept HM3.out hg (fun e => by have := (HOL.out b e.symm).1; have := HNB.out; omega))
        have HE7 := Lib.hid (HE3.out.grown hg (fun e => by have := (HOL.out _ e.symm).1; omega))
        have hz7 : w.heap.size < w7.heap.size := HE7.out.lt
        clear ho hg hbk HO3 HB3 HCE HOL HE3 HM3 z0 z1 z2 z3 z4 zf zl hln HE HB HO
        obtain ⟨z0, z1, z2, z3, z4, zf, zl⟩ := HE7.out
        simp only at z0 z1 z2 z3 z4
        have HS7 := Lib.hid (el_set HE7.out ⟨yc, yg, yn, ys, yl⟩)
        simp only at HS7
        go_wp2_with (at_lookup; go_loud (refine wpList_look_el _ rfl _ _ rfl b n L rfl HM7.out xl rfl hsz ⟨yc, yg, yn, ys, yl⟩ HY.out q HQ.out (.agg #[.string yc, .string yg, .int .i64 yn, .string ys, .string yl]) rfl ?_))
        go_roundw
        case rel =>
          refine ⟨ac ++ [⟨xc, xg, xn, xs, xl⟩], cn, by rw [List.length_append, List.length_singleton]; omega, by rw [HQ2.out], ?_, ?_, ?_, ?_, HK2, HMM⟩
          · exact Lib.hid (own_set (own_set (own_set (own_set (own_set HO7.out _ (Nat.lt_succ_self _) _) _ (Nat.lt_succ_self _) _) _ (Nat.lt_succ_self _) _) _ (Nat.lt_succ_self _) _) _ (Nat.lt_succ_self _) _)
          · rw [HY2.out]; exact HS7
          · have hne : b ≠ w.heap.size := Nat.ne_of_lt HNB.out
            exact Lib.hid (((((HM7.out.setCell (a := ⟨w.heap.size, 0, none⟩) hne _).setCell (a := ⟨w.heap.size, 1, none⟩) hne _).setCell (a := ⟨w.heap.size, 2, none⟩) hne _).setCell (a := ⟨w.heap.size, 3, none⟩) hne _).setCell (a := ⟨w.heap.size, 4, none⟩) hne _)
          · exact Lib.hid (((((HB7.out.setCell (Nat.le_refl _) _).setCell (Nat.le_refl _) _).setCell (Nat.le_refl _) _).setCell (Nat.le_refl _) _).setCell (Nat.le_refl _) _)
        case measure =>
          have hl7 := HO7.out
          obtain ⟨a7, c7, rfl⟩ := own_form hl7
          simp [lenV]; omega
      · have l1 : ¬ (ac.length : Int) < (N : Int) := by omega
        have HK2 := Lib.hid (show ac = C by
          have := HK.out
          rw [show N - ac.length = 0 by omega, chnO, List.append_nil] at this
          exact this)
        go_wp2_with fail
        go_ret
        rw [← HK2.out]
        exact ⟨_, rfl, own_low HO.out (Nat.le_succ _), HB.out⟩
end Go.Proofs.Ytlleebgkglbelaa
