/- Contract of layer 20: Reviewed. -/
import Derived.Test.YtlleebgkglbelaaLos
set_option linter.unusedSimpArgs false
set_option linter.unusedVariables false
namespace Go.Proofs.Ytlleebgkglbelaa
open Go.RowKit

/-- the indices under review, and the sum of their values -/
def revL (R : List Rg) : Nat → List Nat × Int
  | 0 => ([], 0)
  | k + 1 => if (R.getD k Rg.zero).r = true then ((revL R k).1 ++ [k], (revL R k).2 + (R.getD k Rg.zero).n) else revL R k
def BdR (R : List Rg) : Prop := ∀ x ∈ R, 0 ≤ x.n ∧ x.n ≤ 1000000000
theorem revL_bd {R : List Rg} (h : BdR R) : ∀ (k : Nat), k ≤ R.length → 0 ≤ (revL R k).2 ∧ (revL R k).2 ≤ 1000000000 * (k : Int) ∧ (revL R k).1.length ≤ k
  | 0, _ => by simp [revL]
  | k + 1, hk => by
    have ih := revL_bd h k (by omega)
    have hx : R.getD k Rg.zero = R[k]'(by omega) := by simp [List.getD, show k < R.length by omega]
    have hv := h _ (List.getElem_mem (show k < R.length by omega))
    rw [revL, hx]
    split
    · simp only [List.length_append, List.length_singleton]; omega
    · omega
def encI (l : List Nat) : List Value := l.map (fun (k : Nat) => Value.int .i64 (k : Int))
theorem encI_snoc (l : List Nat) (k : Nat) : encI (l ++ [k]) = encI l ++ [.int .i64 (k : Int)] := by simp [encI]
theorem encI_len (l : List Nat) : (encI l).length = l.length := by simp [encI]
theorem infoI : (Try.prog.info? 3).map (fun i => (i.zero, i.size, i.bytes)) = some (some (.int .i64 0), 1, 8) := by kernel_rfl
theorem one_cell (w : World) (v : Value) (T : TypeId) : ∀ j u, [v][j]? = some u → (w.alloc (.cells #[v] T)).cell? ((⟨w.heap.size, 0, none⟩ : Addr).add j) = some u := by
  intro j u hu
  match j, hu with
  | 0, hu => simp at hu; subst hu; simp [go_sem]
  | j + 1, hu => simp at hu
/-- what Reviewed gives -/
def RevPost (w : World) (E : List El) (L : List It) (e : Ending) (w' : World) : Prop :=
  Below w.heap.size w w' ∧ ((chkL L ≠ 0 ∧ e = .returned (.tuple #[.slice none 0 0, .int .i64 0, .int .i64 (chkL L)])) ∨ (chkL L = 0 ∧ ∃ v, e = .returned (.tuple #[v, .int .i64 (revL (L.map (itemS E)) L.length).2, .int .i64 0]) ∧ w'.ownsRow w.heap.size 3 1 v (revL (L.map (itemS E)) L.length).1.length (encI (revL (L.map (itemS E)) L.length).1)))
set_option maxHeartbeats 4000000 in
set_option maxRecDepth 100000 in
theorem reviewed_any {w : World} {c : Ct} (h : CtOk w c) (hE : c.E.length ≤ 1000000) (hv : ValE c.E) {a : Option Addr} {b off len cap : Nat} {L : List It} (hL : SlX w a b off len cap L) (hf : fitC L) (hm : len ≤ 1000) : Calls Try.prog 19 #[c.val, .slice a len cap] w (RevPost w c.E L) := by
  obtain ⟨iz, hi, hz0, hz1, hz2⟩ := info_parts infoI
  have hl0 := hL.hl
  have HOK := Lib.hid h
  have HS := Lib.hid hL
  have HLI := Lib.hid (fun W (hW : CtOk W c) (hX : SlX W a b off len cap L) => line_any hW hE hX hf (by omega))
  have HN := Lib.hid (ct_new w c 27)
  have HB0 := Lib.hid (show Below w.heap.size w (w.alloc (.cells #[.slice c.ag c.ng c.cg, .slice c.ak c.nk c.ck, .slice c.ae c.ne c.ce, .slice c.ac c.nc c.cc] 27)) from (by repeat (first | with_reducible exact Below.refl _ _ | (with_reducible refine Below.setCell ?_ (by first | exact Nat.le_refl _ | omega | (simp; done) | (simp; omega)) _) | (with_reducible refine Below.alloc ?_ (by first | exact Nat.le_refl _ | omega | (simp; done) | (simp; omega)) _) | with_reducible refine Below.drew ?_ | with_reducible refine bel_drewN ?_ _ | (with_reducible refine bel_by (by with_reducible assumption) (by first | exact Nat.le_refl _ | omega | (simp; done) | (simp; omega)) ?_))))
  unfold LinPost at HLI
  unfold RevPost
  have hbdR : BdR (L.map (itemS c.E)) := by
    intro x hx
    obtain ⟨y, _, rfl⟩ := List.mem_map.1 hx
    exact itemS_val hv y
  have hRl : (L.map (itemS c.E)).length = len := by rw [List.length_map, hl0]
  rw [show L.length = len from hl0]
  generalize L.map (itemS c.E) = R at *
  have HRB := Lib.hid (fun k => revL_bd hbdR k)
  unfold Ct.val at HLI ⊢
  obtain ⟨ag, bg, og, ng, cg, ak, bk, ok, nk, ck, ae, be, oe, ne, ce, ac, bc, oc, nc, cc, G, K, E, X⟩ := c
  simp only at HLI HN HB0 ⊢
  clear h hL hf hE hv hbdR
  obtain ⟨r, hr⟩ : ∃ r, chkL L = r := ⟨_, rfl⟩
  rw [hr] at HLI ⊢
  clear hr
  go_enter Try.func19, Try.ntmps19
  go_wp2_with fail
  obtain ⟨z0, z1, z2, z3, zf, zl⟩ := HN.out
  simp only at z0 z1 z2 z3
  go_wp2_with fail
  refine (HLI.out _ (HOK.out.keep HB0.out) (HS.out.keep HB0.out)).mono ?_
  rintro e w1 ⟨hb1, hor⟩
  have HB1 := Lib.hid (HB0.out.trans (hb1.mono HB0.out.size))
  have hsz1 : w.heap.size < w1.heap.size := Nat.lt_of_lt_of_le (by simp) hb1.size
  clear hb1 HB0 z0 z1 z2 z3 zf zl HN
  rcases hor with ⟨h0, rfl⟩ | ⟨rfl, v, rfl, ho⟩
  · have k0 : (r == 0) = false := by simpa using h0
    have k1 : (r != 0) = true := by simpa using h0
    have H0 := Lib.hid h0
    clear h0
    go_wp2_with fail
    refine bodyPost_ret (v := .tuple #[.slice none 0 0, .int .i64 0, .int .i64 r]) (by simp [results, Try.results19, go_sem]) rfl ?_
    exact ⟨HB1.out, Or.inl ⟨H0.out, rfl⟩⟩
  · obtain ⟨aq, bq, cq, rfl, S, hbo⟩ := slr_own ho
    have HQ := Lib.hid S
    have hcapq := S.hcap
    clear ho S hbo
    rw [hRl]
    have HQ := Lib.hid (show SlR w1 aq bq 0 len cq R by rw [← hRl]; exact HQ.out)
    go_wp2_with fail
    go_loopw [9, 10, 24] (fun s9 s10 s24 wr => ∃ (k : Nat), k ≤ len ∧ s24 = .int .i64 (k : Int) ∧ s10 = .int .i64 (revL R k).2 ∧ Hid (wr.ownsRow w1.heap.size 3 1 s9 (revL R k).1.length (encI (revL R k).1)) ∧ Hid (Below w1.heap.size w1 wr)) (fun _ _ s24 _ => (len - (intOf s24)).toNat)
    case atStart => exact ⟨0, Nat.zero_le _, rfl, rfl, Lib.hid (World.ownsRow_nil _ _ _ _), Lib.hid (Below.refl _ _)⟩
    case round =>
      obtain ⟨k, hk, rfl, rfl, HO, HB⟩ := hrel
      have hbd := HRB.out k (by omega)
      have HRR := Lib.hid (show revL R (k + 1) = if (R.getD k Rg.zero).r = true then ((revL R k).1 ++ [k], (revL R k).2 + (R.getD k Rg.zero).n) else revL R k from rfl)
      obtain ⟨⟨I, A⟩, hIA⟩ : ∃ q, revL R k = q := ⟨_, rfl⟩
      rw [hIA] at hbd HO HRR ⊢
      simp only at hbd HO HRR ⊢
      obtain ⟨ao, cv, rfl⟩ := own_form HO.out
      by_cases hlt : k < len
      · have hl : (k : Int) < (len : Int) := by omega
        have hkL : k < R.length := by omega
        have S := HQ.out.keep HB.out
        obtain rfl := S.ha (by omega)
        have sb := S.hb (by omega)
        have c0 := S.c0 k hkL
        have c1 := S.c1 k hkL
        have c2 := S.c2 k hkL
        have c3 := S.c3 k hkL
        have c4 := S.c4 k hkL
        have c5 := S.c5 k hkL
        have c6 := S.c6 k hkL
        have hvb := HRB.out (k + 1) (by omega)
        have hx : R.getD k Rg.zero = R[k]'hkL := by simp [List.getD, hkL]
        rw [hx] at HRR
        clear S hx hIA
        generalize R[k]'hkL = x at *
        obtain ⟨xk, xc, xg, xs, xn, xr, xj⟩ := x
        simp only [Nat.zero_add] at c0 c1 c2 c3 c4 c5 c6
        have hszw : w1.heap.size ≤ wr.heap.size := HB.out.size
        have HI := Lib.hid (rg_new wr ⟨xk, xc, xg, xs, xn, xr, xj⟩ 35)
        have HBV := Lib.hid (show Below w1.heap.size w1 (wr.alloc (.cells #[.bool xk, .string xc, .string xg, .string xs, .int .i64 xn, .bool xr, .bool xj] 35)) from HB.out.alloc HB.out.size _)
        have HOV := Lib.hid (HO.out.alloc (.cells #[.bool xk, .string xc, .string xg, .string xs, .int .i64 xn, .bool xr, .bool xj] 35))
        obtain ⟨i0, i1, i2, i3, i4, i5, i6, iff, il⟩ := HI.out
        simp only at i0 i1 i2 i3 i4 i5 i6
        have HNO := Lib.hid (fun g h => (HO.out.lt g h).2)
        clear HO HB
        cases xr with
        | false =>
          have hR := HRR.out
          rw [if_neg (by simp)] at hR
          have HR2 := Lib.hid hR
          clear hR HRR hvb
          go_wp2_with fail
          go_roundw
          case rel => exact ⟨k + 1, by omega, by go_num, by rw [HR2.out], by rw [HR2.out]; exact HOV, HBV⟩
          case measure => simp [intOf]; omega
        | true =>
          have hR := HRR.out
          rw [if_pos rfl] at hR
          have HR2 := Lib.hid hR
          rw [hR] at hvb
          simp only at hvb
          clear hR HRR
          have HO3 := Lib.hid (HOV.out.alloc (.cells #[.int .i64 (k : Int)] 3))
          have HB3 := Lib.hid (HBV.out.alloc (show w1.heap.size ≤ _ by simp; omega) (.cells #[.int .i64 (k : Int)] 3))
          have hce := one_cell (wr.alloc (.cells #[.bool xk, .string xc, .string xg, .string xs, .int .i64 xn, .bool true, .bool xj] 35)) (.int .i64 (k : Int)) 3
          rw [World.size_alloc] at hce
          have HCE := Lib.hid hce
          have HOL := Lib.hid (fun g h => HOV.out.lt g h)
          have HXV := Lib.hid (show RgAt ((wr.alloc (.cells #[.bool xk, .string xc, .string xg, .string xs, .int .i64 xn, .bool true, .bool xj] 35)).alloc (.cells #[.int .i64 (k : Int)] 3)) wr.heap.size _ from HI.out.keep ((Below.refl _ _).alloc (Nat.le_refl _) _))
          have HKX := Lib.hid (show ∀ g, Value.ownBlock (.slice ao I.length cv) = some g → g ≠ wr.heap.size from fun g h e => by have := HNO.out g h; omega)
          clear HOV HBV HI i0 i1 i2 i3 i4 i5 i6 iff il
          obtain ⟨i0, i1, i2, i3, i4, i5, i6, iff, il⟩ := HXV.out
          simp only at i0 i1 i2 i3 i4 i5 i6
          go_wp2_with (at_builtin; go_loud (refine wpList_append_blk _ rfl _ _ 44 rfl w1.heap.size 3 iz (.int .i64 0) 1 8 Try.underlying44 hi hz0 hz1 hz2 rfl (by decide) _ _ _ rfl HO3.out ⟨wr.heap.size + 1, 0, none⟩ 1 1 [.int .i64 (k : Int)] rfl rfl HCE.out ?n1 ?n2 ?n3 ?n4 (by decide) ?_))
          case n1 => first | rfl | (intro u hu; simp only [List.mem_cons, List.not_mem_nil, or_false] at hu; rcases hu with rfl <;> rfl)
          case n2 => unfold maxLen; omega
          case n3 => omega
          case n4 => first | omega | (simp; omega)
          intro v' w7 ho hg hbk
          have HO7 := Lib.hid (show w7.ownsRow w1.heap.size 3 1 v' (I ++ [k]).length (encI (I ++ [k])) by rw [List.length_append, List.length_singleton, encI_snoc]; exact ho)
          have HB7 := Lib.hid (HB3.out.grown hg (by simp; omega) (fun g h => (HOL.out g h).1))
          have HX7 := Lib.hid (HXV.out.grown hg (fun e => HKX.out _ e.symm rfl))
          clear ho hg hbk HO3 HB3 HCE HOL HXV i0 i1 i2 i3 i4 i5 i6 iff il
          obtain ⟨i0, i1, i2, i3, i4, i5, i6, iff, il⟩ := HX7.out
          simp only at i0 i1 i2 i3 i4 i5 i6
          have k2 : IntKind.i64.wrap (A + xn) = A + xn := IntWalk.i64_in _ (by omega)
          go_wp2_with fail
          go_roundw
          case rel => exact ⟨k + 1, by omega, by go_num, by rw [HR2.out], by rw [HR2.out]; exact HO7, HB7⟩
          case measure => simp [intOf]; omega
      · obtain rfl : k = len := by omega
        have hl : ¬ (k : Int) < (k : Int) := by omega
        go_wp2_with fail
        refine bodyPost_ret (v := .tuple #[.slice ao I.length cv, .int .i64 A, .int .i64 0]) (by simp [results, Try.results19, go_sem]) rfl ?_
        have HB9 := HB1.out.trans (HB.out.mono (Nat.le_of_lt hsz1))
        refine ⟨HB9, ?_⟩
        exact ⟨_, rfl, own_low HO.out (Nat.le_of_lt hsz1)⟩
end Go.Proofs.Ytlleebgkglbelaa
