/- Contract of layer 20: Lost. -/
import Derived.Test.YtlleebgkglbelaaLin
import Derived.Lib.QuietBelow
set_option linter.unusedSimpArgs false
set_option linter.unusedVariables false
namespace Go.Proofs.Ytlleebgkglbelaa
open Go.RowKit

/-- what marks cost -/
def lostS (E : List El) : List It → Int
  | [] => 0
  | x :: t => (itemS E (bareI x)).n - (itemS E x).n + lostS E t
theorem lostS_snoc (E : List El) : ∀ (L : List It) (x : It), lostS E (L ++ [x]) = lostS E L + ((itemS E (bareI x)).n - (itemS E x).n)
  | [], x => by simp [lostS]
  | y :: t, x => by rw [List.cons_append, lostS, lostS_snoc E t x, lostS]; omega
/-- values of elements are within bounds -/
def ValE (E : List El) : Prop := ∀ x ∈ E, 0 ≤ x.n ∧ x.n ≤ 1000000000
theorem chnO_mem {L : List El} : ∀ (n : Nat) (o : Option El), (∀ x, o = some x → x ∈ L) → ∀ y ∈ chnO L n o, y ∈ L
  | 0, _, _, y, h => by simp [chnO] at h
  | n + 1, none, _, y, h => by simp [chnO] at h
  | n + 1, some x, ho, y, h => by
    rw [chnO, List.mem_cons] at h
    rcases h with rfl | h
    · exact ho _ rfl
    · exact chnO_mem n _ (fun z hz => getE_mem hz) y h
theorem lowE_val {L : List El} (hv : ValE L) (s : ByteArray) (k : Int) : 0 ≤ (lowE L s k).1.n ∧ (lowE L s k).1.n ≤ 1000000000 := by
  unfold lowE
  have hz : (0 : Int) ≤ El.zero.n ∧ El.zero.n ≤ 1000000000 := by simp [El.zero]
  split
  · exact hz
  · split
    · exact hz
    · split
      · exact hz
      · rename_i h0 h1 h2
        have hj : k.toNat < (lowL L s).length := by omega
        have : (lowL L s).getD k.toNat El.zero = (lowL L s)[k.toNat]'hj := by simp [List.getD, hj]
        simp only [this]
        exact hv _ (chnO_mem _ _ (fun x hx => getE_mem hx) _ (List.getElem_mem hj))
theorem perfE_val {L : List El} (hv : ValE L) (x : It) : 0 ≤ (perfE L x).1.n ∧ (perfE L x).1.n ≤ 1000000000 := by
  unfold perfE
  have hz : (0 : Int) ≤ El.zero.n ∧ El.zero.n ≤ 1000000000 := by simp [El.zero]
  split
  · exact hz
  · split
    · exact lowE_val hv _ _
    · split
      · exact hz
      · exact hz
theorem itemS_val {L : List El} (hv : ValE L) (x : It) : 0 ≤ (itemS L x).n ∧ (itemS L x).n ≤ 1000000000 := by
  unfold itemS
  split
  · exact perfE_val hv x
  · simp
theorem lostS_bd {L : List El} (hv : ValE L) : ∀ (M : List It), -1000000000 * (M.length : Int) ≤ lostS L M ∧ lostS L M ≤ 1000000000 * (M.length : Int)
  | [] => by simp [lostS]
  | x :: t => by
    have h1 := itemS_val hv x
    have h2 := itemS_val hv (bareI x)
    have h3 := lostS_bd hv t
    rw [lostS, List.length_cons]
    omega
theorem fld_n (k r j : Bool) (c g s : ByteArray) (n : Int) (W : World) : (Instr.field 35 (.agg #[.bool k, .string c, .string g, .string s, .int .i64 n, .bool r, .bool j]) 4).run Try.prog W = .ok (.int .i64 n) W := by kernel_rfl
set_option maxHeartbeats 4000000 in
set_option maxRecDepth 100000 in
theorem lost_any {w : World} {c : Ct} (h : CtOk w c) (hE : c.E.length ≤ 1000000) (hv : ValE c.E) {a : Option Addr} {b off len cap : Nat} {L : List It} (hL : SlX w a b off len cap L) (hf : fitC L) (hm : len ≤ 1000) :
    Calls Try.prog 18 #[c.val, .slice a len cap] w fun e w' => e = .returned (.tuple #[.int .i64 (if chkL L = 0 then lostS c.E L else 0), .int .i64 (chkL L)]) ∧ Below w.heap.size w w' := by
  have hl0 := hL.hl
  have HOK := Lib.hid h
  have HS := Lib.hid hL
  have HCK := Lib.hid (fun W (hW : SlX W a b off len cap L) => check_any hW hf)
  have HIT := Lib.hid (fun W (x : It) (hW : CtOk W c) (hx : x.c.size ≤ maxLen) => item_any hW hE x hx)
  have HFU := Lib.hid (fun W (x : It) (hW : CtOk W c) (hx : x.c.size ≤ maxLen) => full_any hW hE x hx)
  have HF := Lib.hid (show ∀ (k : Nat) (h : k < L.length), (L[k]'h).c.size ≤ maxLen from fun k h => hf k h)
  have HV := Lib.hid (fun x => itemS_val hv x)
  have HLB := Lib.hid (fun M => lostS_bd hv M)
  have HN := Lib.hid (ct_new w c 27)
  have HB0 := Lib.hid (show Below w.heap.size w (w.alloc (.cells #[.slice c.ag c.ng c.cg, .slice c.ak c.nk c.ck, .slice c.ae c.ne c.ce, .slice c.ac c.nc c.cc] 27)) from (by repeat (first | with_reducible exact Below.refl _ _ | (with_reducible refine Below.setCell ?_ (by first | exact Nat.le_refl _ | omega | (simp; done) | (simp; omega)) _) | (with_reducible refine Below.alloc ?_ (by first | exact Nat.le_refl _ | omega | (simp; done) | (simp; omega)) _) | with_reducible refine Below.drew ?_ | with_reducible refine bel_drewN ?_ _ | (with_reducible refine bel_by (by with_reducible assumption) (by first | exact Nat.le_refl _ | omega | (simp; done) | (simp; omega)) ?_))))
  unfold RgPost at HIT HFU
  obtain ⟨M, hM⟩ : ∃ M, lostS c.E L = M := ⟨_, rfl⟩
  rw [hM]
  have HM := Lib.hid hM
  unfold Ct.val at HIT HFU ⊢
  obtain ⟨ag, bg, og, ng, cg, ak, bk, ok, nk, ck, ae, be, oe, ne, ce, ac, bc, oc, nc, cc, G, K, E, X⟩ := c
  simp only at HIT HFU HN HB0 HM HV HLB ⊢
  clear h hL hf hE hM hv
  obtain ⟨r, hr⟩ : ∃ r, chkL L = r := ⟨_, rfl⟩
  rw [hr] at HCK ⊢
  clear hr
  by_cases h0 : r = 0
  · subst h0
    rw [if_pos rfl]
    go_enter Try.func18, Try.ntmps18
    go_wp2_with fail
    refine (HCK.out _ (HS.out.keep HB0.out)).mono ?_
    rintro e w1 ⟨rfl, hb1⟩
    have HB1 := Lib.hid (HB0.out.trans (hb1.mono HB0.out.size))
    have HN1 := Lib.hid (HN.out.keep hb1)
    have HN1l := HN1.out.lt
    clear hb1 HB0 HN
    go_wp2_with fail
    go_loopw [7, 17] (fun s7 s17 wr => ∃ (k : Nat), k ≤ len ∧ s17 = .int .i64 (k : Int) ∧ s7 = .int .i64 (lostS E (L.take k)) ∧ Hid (Below w.heap.size w wr) ∧ Hid (CtAt wr w.heap.size _)) (fun _ s17 _ => (len - (intOf s17)).toNat)
    case atStart => exact ⟨0, Nat.zero_le _, rfl, by simp [lostS], HB1, HN1⟩
    case round =>
      obtain ⟨k, hk, rfl, rfl, HB, HNr⟩ := hrel
      clear HB1 HN1 HN1l
      by_cases hlt : k < len
      · have hl : (k : Int) < (len : Int) := by omega
        have hkL : k < L.length := by omega
        have S := HS.out.keep HB.out
        obtain rfl := S.ha (by omega)
        have sb := S.hb (by omega)
        have c0 := S.c0 k hkL
        have c1 := S.c1 k hkL
        have c2 := S.c2 k hkL
        have c3 := S.c3 k hkL
        have c4 := S.c4 k hkL
        have hfx := HF.out k hkL
        have HX := Lib.hid (show lostS E (L.take (k + 1)) = lostS E (L.take k) + ((itemS E (bareI (L[k]'hkL))).n - (itemS E (L[k]'hkL)).n) by
          rw [List.take_succ_eq_append_getElem hkL, lostS_snoc])
        have hb3 := HLB.out (L.take k)
        have hln : (L.take k).length = k := by rw [List.length_take]; omega
        rw [hln] at hb3
        clear S hln
        generalize L[k]'hkL = x at *
        obtain ⟨A, hA⟩ : ∃ A, lostS E (L.take k) = A := ⟨_, rfl⟩
        rw [hA] at hb3 HX ⊢
        obtain ⟨y, hy⟩ : ∃ y, itemS E x = y := ⟨_, rfl⟩
        obtain ⟨z, hz⟩ : ∃ z, itemS E (bareI x) = z := ⟨_, rfl⟩
        have hvy := HV.out x
        have hvz := HV.out (bareI x)
        rw [hy] at hvy
        rw [hz] at hvz
        have HIX := Lib.hid (fun W hW => HIT.out W x hW hfx)
        have HFX := Lib.hid (fun W hW => HFU.out W x hW hfx)
        simp only [hy, hz] at HIX HFX HX
        clear hy hz hA hfx
        obtain ⟨xc, xd, xr, xv, xj⟩ := x
        obtain ⟨yk, yc, yg, ys, yn, yr, yj⟩ := y
        obtain ⟨zk, zc, zg, zs, zn, zr, zj⟩ := z
        simp only [It.val, Rg.val] at c0 c1 c2 c3 c4 HIX HFX HX hvy hvz
        have hszw : w.heap.size ≤ wr.heap.size := HB.out.size
        have HI := Lib.hid (it_new wr ⟨xc, xd, xr, xv, xj⟩ 29)
        have HBV := Lib.hid (show Below w.heap.size w (wr.alloc (.cells #[.string xc, .int .i64 xd, .bool xr, .bool xv, .bool xj] 29)) from HB.out.alloc HB.out.size _)
        have HNV := Lib.hid (show CtAt (wr.alloc (.cells #[.string xc, .int .i64 xd, .bool xr, .bool xv, .bool xj] 29)) _ _ from HNr.out.keep ((Below.refl _ _).alloc (Nat.le_refl _) _))
        have HOKV := Lib.hid (HOK.out.keep HBV.out)
        clear HNr HB
        have hVs : wr.heap.size < (wr.alloc (.cells #[.string xc, .int .i64 xd, .bool xr, .bool xv, .bool xj] 29)).heap.size := by simp
        go_upto_region 8 with fail
        generalize (wr.alloc (.cells #[.string xc, .int .i64 xd, .bool xr, .bool xv, .bool xj] 29)) = V at *
        obtain ⟨i0, i1, i2, i3, i4, iff, il⟩ := HI.out
        obtain ⟨z0, z1, z2, z3, zf, zl⟩ := HNV.out
        simp only at i0 i1 i2 i3 i4 z0 z1 z2 z3
        have a0 := fun d os => cell_regrown i0 d os
        have a1 := fun d os => cell_regrown i1 d os
        have a2 := fun d os => cell_regrown i2 d os
        have a3 := fun d os => cell_regrown i3 d os
        have a4 := fun d os => cell_regrown i4 d os
        have b0 := fun d os => cell_regrown z0 d os
        have b1 := fun d os => cell_regrown z1 d os
        have b2 := fun d os => cell_regrown z2 d os
        have b3 := fun d os => cell_regrown z3 d os
        have cQ1 := fun (d : Nat) (os : Array Obj) => Calls.regrown_of (HFX.out (Sort.grow (redrawn V d) os) (HOKV.out.keep (below_regrown V d os)))
        have cQ2 := fun (d : Nat) (os : Array Obj) => Calls.regrown_of (HIX.out (Sort.grow (redrawn V d) os) (HOKV.out.keep (below_regrown V d os)))
        have k1 : IntKind.i64.wrap (zn - yn) = zn - yn := IntWalk.i64_in _ (by omega)
        have k2 : IntKind.i64.wrap (A + (zn - yn)) = A + (zn - yn) := IntWalk.i64_in _ (by omega)
        clear c0 c1 c2 c3 c4 i0 i1 i2 i3 i4 z0 z1 z2 z3
        have hfd := fld_n
        refine wp_region_quiet_below (by kernel_rfl) (by kernel_rfl) ?_
        repeat (quiet_step (first | with_reducible exact cQ1 _ _ | with_reducible exact cQ2 _ _))
        refine wpQuiet_nil ?_
        intro _ hw'
        obtain ⟨⟨dq, osq⟩, hw''⟩ := hw'
        subst hw''
        have HBI := below_regrown V dq osq
        have HB7 := Lib.hid (HBV.out.trans (HBI.mono HBV.out.size))
        have HN7 := Lib.hid (HNV.out.keep HBI)
        generalize Sort.grow (redrawn V dq) osq = w7 at *
        clear HBI cQ1 cQ2 a0 a1 a2 a3 a4 b0 b1 b2 b3
        go_wp2_with fail
        go_roundw
        case rel => exact ⟨k + 1, by omega, by go_num, by rw [HX.out], HB7, HN7⟩
        case measure => simp [intOf]; omega
      · obtain rfl : k = len := by omega
        have hl : ¬ (k : Int) < (k : Int) := by omega
        have hMM := HM.out
        rw [List.take_of_length_le (by omega)] at *
        rw [hMM]
        clear hMM
        go_wp2_with fail
        refine bodyPost_ret (v := .tuple #[.int .i64 M, .int .i64 0]) (by simp [results, Try.results18, go_sem]) rfl ?_
        exact ⟨rfl, HB.out⟩
  · have k0 : (r == 0) = false := by simpa using h0
    have k1 : (r != 0) = true := by simpa using h0
    rw [if_neg h0]
    clear h0
    go_enter Try.func18, Try.ntmps18
    go_wp2_with fail
    refine (HCK.out _ (HS.out.keep HB0.out)).mono ?_
    rintro e w1 ⟨rfl, hb1⟩
    have HB1 := Lib.hid (HB0.out.trans (hb1.mono HB0.out.size))
    clear hb1 HB0 HN
    go_wp2_with fail
    refine bodyPost_ret (v := .tuple #[.int .i64 0, .int .i64 r]) (by simp [results, Try.results18, go_sem]) rfl ?_
    exact ⟨rfl, HB1.out⟩
end Go.Proofs.Ytlleebgkglbelaa
