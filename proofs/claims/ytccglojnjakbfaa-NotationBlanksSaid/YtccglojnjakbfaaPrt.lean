/- Contracts of layer 19: marksOf, Print. -/
import Derived.Test.YtccglojnjakbfaaChx
import Derived.Test.YtccglojnjakbfaaBld
set_option linter.unusedSimpArgs false
set_option linter.unusedVariables false
namespace Go.Proofs.Ytccglojnjakbfaa
open Go.RowKit

def mkL (x : It) : List UInt8 := List.replicate x.d.toNat 60 ++ ((if x.r = true then [63] else []) ++ (if x.v = true then [42] else []))
def prtS : List It → List UInt8
  | [] => []
  | x :: t => x.c.data.toList ++ (mkL x ++ ((if x.j = true then [43] else if t = [] then [] else [32]) ++ prtS t))
theorem rep_one (n : Nat) : (⟨(Lib.repeatL [60] n).toArray⟩ : ByteArray) = bs (List.replicate n 60) := by
  unfold bs
  congr 2
  induction n with
  | zero => rfl
  | succ n ih => rw [Lib.repeatL, ih]; rfl
theorem it_of {k : Nat} {w : World} {x : It} {T : TypeId} (h : w.heap[k]? = some (.cells #[.string x.c, .int .i64 x.d, .bool x.r, .bool x.v, .bool x.j] T (0, 0))) : ItAt w k x := by
  refine ⟨?_, ?_, ?_, ?_, ?_, fun j => ?_, (Array.getElem?_eq_some_iff.1 h).1⟩
  all_goals first | (simp [World.cell?, h]; done) | (simp [World.frozen?, h]; done)
set_option maxHeartbeats 1000000 in
set_option maxRecDepth 100000 in
theorem marks_any (x : It) (n : Nat) (hd : x.d = (n : Int)) (hn : n ≤ 1000) (w : World) :
    Calls Try.prog 29 #[x.val] w fun e w' => e = .returned (.string (bs (mkL x))) ∧ Below w.heap.size w w' := by
  have HR := Lib.hid (fun W => Try.strings_Repeat ⟨#[60]⟩ n W (by omega) (by rw [show (⟨#[60]⟩ : ByteArray).size = 1 from rfl]; omega))
  have HI := Lib.hid (it_new w x 49)
  have HB := Lib.hid (show Below w.heap.size w (w.alloc (.cells #[.string x.c, .int .i64 x.d, .bool x.r, .bool x.v, .bool x.j] 49)) from (by repeat (first | with_reducible exact Below.refl _ _ | (with_reducible refine Below.setCell ?_ (by first | exact Nat.le_refl _ | omega | (simp; done) | (simp; omega)) _) | (with_reducible refine Below.alloc ?_ (by first | exact Nat.le_refl _ | omega | (simp; done) | (simp; omega)) _) | with_reducible refine Below.drew ?_ | with_reducible refine bel_drewN ?_ _ | (with_reducible refine bel_by (by with_reducible assumption) (by first | exact Nat.le_refl _ | omega | (simp; done) | (simp; omega)) ?_))))
  have HM := Lib.hid (show mkL x = List.replicate n 60 ++ ((if x.r = true then [63] else []) ++ (if x.v = true then [42] else [])) by unfold mkL; rw [hd]; rfl)
  obtain ⟨c, d, r, v, j⟩ := x
  simp only at hd HI HB HM ⊢
  subst hd
  have hR2 := HR.out
  simp only [show (⟨#[60]⟩ : ByteArray).data.toList = [60] from rfl, rep_one] at hR2
  have HR2 := Lib.hid hR2
  clear HR hR2
  unfold It.val
  generalize hP : bs (List.replicate n 60) = P at *
  have HP := Lib.hid hP
  have hps : P.size ≤ 1000 := by rw [← hP, bs_size, List.length_replicate]; exact hn
  have hps1 : (⟨#[63]⟩ : ByteArray).size = 1 := rfl
  have hps2 : (⟨#[42]⟩ : ByteArray).size = 1 := rfl
  have hps3 : (P ++ (⟨#[63]⟩ : ByteArray)).size ≤ 1001 := by rw [ByteArray.size_append, hps1]; omega
  clear hP
  go_enter Try.func29, Try.ntmps29
  go_wp2_with fail
  obtain ⟨z0, z1, z2, z3, z4, zf, zl⟩ := HI.out
  go_wp2_with fail
  refine (HR2.out _).mono ?_
  rintro e w1 ⟨rfl, hb1⟩
  have HB1 := Lib.hid (show Below w.heap.size w w1 from HB.out.trans (hb1.mono (by simp)))
  have hI1 := HI.out.keep hb1
  clear z0 z1 z2 z3 z4 zf zl hb1 HB HI
  obtain ⟨z0, z1, z2, z3, z4, zf, zl⟩ := hI1
  cases r <;> cases v
  all_goals
    go_wp2_with fail
    go_ret
    refine ⟨ret_str ?_, HB1.out⟩
    rw [HM.out, ← bs_append, HP.out]
    apply bs_inj
    simp [bs]
theorem prt_cut {L : List It} {k : Nat} (h : k < L.length) : prtS (L.drop k) = (L[k]'h).c.data.toList ++ (mkL (L[k]'h) ++ ((if (L[k]'h).j = true then [43] else if k + 1 = L.length then [] else [32]) ++ prtS (L.drop (k + 1)))) := by
  rw [List.drop_eq_getElem_cons h, prtS]
  congr 4
  have : (L.drop (k + 1) = []) = (k + 1 = L.length) := by
    rw [List.drop_eq_nil_iff]
    exact propext ⟨fun h1 => by omega, fun h1 => by omega⟩
  simp only [this]
theorem code_size {s : ByteArray} (h : codeS s = true) : 1 ≤ s.size ∧ s.size ≤ 8 := by
  unfold codeS at h
  simp only [Bool.and_eq_true, decide_eq_true_eq] at h
  exact h.1.1
theorem err_zero {L : List It} (h : errE L = 0) : L.length ≤ 30 ∧ ∀ x ∈ L, codeS x.c = true ∧ 0 ≤ x.d ∧ x.d ≤ 9 := by
  unfold errE at h
  by_cases h1 : L.length > 30
  · rw [if_pos h1] at h; exact absurd h (by decide)
  · rw [if_neg h1] at h
    cases h2 : L.any badC with
    | true => rw [h2, if_pos rfl] at h; exact absurd h (by decide)
    | false =>
      rw [h2, if_neg (by simp)] at h
      cases h3 : L.any badD with
      | true => rw [h3, if_pos rfl] at h; exact absurd h (by decide)
      | false =>
        refine ⟨by omega, fun x hx => ?_⟩
        rw [List.any_eq_false] at h2 h3
        have a1 := h2 x hx
        have a2 := h3 x hx
        unfold badC at a1
        unfold badD at a2
        simp at a1 a2
        exact ⟨a1, by omega, by omega⟩
theorem chk_zero {L : List It} (h : chkL L = 0) : errE L = 0 ∧ lastJ L = false := by
  unfold chkL at h
  by_cases h0 : errE L = 0
  · rw [if_pos h0] at h
    refine ⟨h0, ?_⟩
    cases hj : lastJ L with
    | true => rw [hj] at h; exact absurd h (by decide)
    | false => rfl
  · rw [if_neg h0] at h; exact absurd h h0
theorem mk_len {x : It} (h1 : 0 ≤ x.d) (h2 : x.d ≤ 9) : (mkL x).length ≤ 11 := by
  unfold mkL
  rw [List.length_append, List.length_append, List.length_replicate]
  have : (if x.r = true then [(63 : UInt8)] else []).length ≤ 1 := by split <;> simp
  have : (if x.v = true then [(42 : UInt8)] else []).length ≤ 1 := by split <;> simp
  omega
/-- what Print gives -/
def PrtPost (w : World) (L : List It) (e : Ending) (w' : World) : Prop :=
  e = .returned (.tuple #[.string (if chkL L = 0 then bs (prtS L) else ⟨#[]⟩), .int .i64 (chkL L)]) ∧ Below w.heap.size w w'
set_option maxHeartbeats 4000000 in
set_option maxRecDepth 100000 in
theorem print_any {w : World} {a : Option Addr} {b off len cap : Nat} {L : List It} (h : SlX w a b off len cap L) (hf : fitC L) :
    Calls Try.prog 16 #[.slice a len cap] w (PrtPost w L) := by
  have hl0 := h.hl
  have HA := Lib.hid (check_any h hf)
  have HS := Lib.hid h
  have hle : len ≤ 9223372036854775807 := by have := h.hcap; have := h.hmax; unfold maxLen at this; omega
  clear h hf
  unfold PrtPost
  by_cases h0 : chkL L = 0
  · rw [if_pos h0]
    obtain ⟨he, _⟩ := chk_zero h0
    obtain ⟨hln, hgd⟩ := err_zero he
    have HG := Lib.hid hgd
    have hlm : len ≤ 30 := by omega
    rw [h0] at HA ⊢
    clear he hgd h0 hln
    go_enter Try.func16, Try.ntmps16
    go_wp2_with fail
    refine HA.out.mono ?_
    rintro e w1 ⟨rfl, hb1⟩
    have HB1 := Lib.hid (show Below w.heap.size w (w1.alloc (.cells #[.pointer none, .slice none 0 0] 58)) from hb1.alloc hb1.size _)
    have HBL1 := Lib.hid (bld_new w1)
    have hz1 : w.heap.size ≤ w1.heap.size := hb1.size
    clear hb1 HA
    obtain ⟨g, hg⟩ : ∃ g, g = w1.heap.size := ⟨_, rfl⟩
    have HGE := Lib.hid (show w.heap.size ≤ g by omega)
    rw [← hg] at HBL1
    go_wp2_with fail
    rw [← hg]
    go_loopw [15] (fun s15 wr => ∃ (k : Nat) (acc : List UInt8), k ≤ len ∧ s15 = .int .i64 (k : Int) ∧ Hid (Bld g g acc wr) ∧ Hid (Below w.heap.size w wr) ∧ Hid (acc ++ prtS (L.drop k) = prtS L) ∧ Hid (acc.length ≤ 30 * k)) (fun s15 _ => (len - (intOf s15)).toNat)
    case atStart => exact ⟨0, [], Nat.zero_le _, rfl, HBL1, HB1, Lib.hid (by simp), Lib.hid (by simp)⟩
    case round =>
      obtain ⟨k, acc, hk, rfl, HBL, HB, HE, HN⟩ := hrel
      have hgr : g < wr.heap.size := HBL.out.lt
      clear hg hz1 HB1 HBL1
      by_cases hlt : k < len
      · have hl : (k : Int) < (len : Int) := by omega
        have hkL : k < L.length := by omega
        have S := HS.out.keep HB.out
        obtain rfl := S.ha (by omega)
        have sb := S.hb (by omega)
        have c0 := S.c0 k hkL
        have c1 := S.c1 k hkL
        have c2 := S.c2 k hkL
        have c3 := S.c3 k hkL
        have c4 := S.c4 k hkL
        clear S
        obtain ⟨hcode, hd0, hd9⟩ := HG.out _ (List.getElem_mem hkL)
        have HCS := Lib.hid (code_size hcode)
        have HMS := Lib.hid (mk_len hd0 hd9)
        have HMK := Lib.hid (fun W => marks_any (L[k]'hkL) ((L[k]'hkL).d.toNat) (by omega) (by omega) W)
        have HE2 := Lib.hid (show acc ++ ((L[k]'hkL).c.data.toList ++ (mkL (L[k]'hkL) ++ ((if (L[k]'hkL).j = true then [43] else if k + 1 = L.length then [] else [32]) ++ prtS (L.drop (k + 1))))) = prtS L by rw [← HE.out, prt_cut hkL])
        clear hcode hd0 hd9 HE
        generalize L[k]'hkL = x at *
        obtain ⟨xc, xd, xr, xv, xj⟩ := x
        simp only at c0 c1 c2 c3 c4 HCS HE2
        have HMD := Lib.hid (bs_data (mkL ⟨xc, xd, xr, xv, xj⟩))
        have HML := Lib.hid (show (bs (mkL ⟨xc, xd, xr, xv, xj⟩)).size ≤ 11 by rw [bs_size]; exact HMS.out)
        generalize mkL ⟨xc, xd, xr, xv, xj⟩ = M at *
        unfold It.val at HMK
        simp only at HMK
        have HWV := Lib.hid (show (wr.alloc (.cells #[.string xc, .int .i64 xd, .bool xr, .bool xv, .bool xj] 49)).heap[wr.heap.size]? = some (.cells #[.string xc, .int .i64 xd, .bool xr, .bool xv, .bool xj] 49 (0, 0)) from heap_alloc_new wr _)
        have HBA := Lib.hid (show Below wr.heap.size wr (wr.alloc (.cells #[.string xc, .int .i64 xd, .bool xr, .bool xv, .bool xj] 49)) from (Below.refl _ _).alloc (Nat.le_refl _) _)
        go_wp2_with fail
        have HBLV := Lib.hid (Bld.keep HBL.out HBA.out)
        have HBV := Lib.hid (HB.out.trans (HBA.out.mono HB.out.size))
        generalize (wr.alloc (.cells #[.string xc, .int .i64 xd, .bool xr, .bool xv, .bool xj] 49)) = V at *
        clear c0 c1 c2 c3 c4 sb HBL HB HBA
        obtain ⟨z0, z1, z2, z3, z4, zf, zl⟩ := it_of (x := ⟨xc, xd, xr, xv, xj⟩) HWV.out
        go_wp2_with fail
        refine (put_any HBLV.out xc (by have := HN.out; have := HCS.out; omega) (by omega)).mono ?_
        rintro e w2 ⟨rfl, hb2, hbw2, ho2⟩
        have HBL2 := Lib.hid hb2
        have HB2 := Lib.hid (HBV.out.trans (hbw2.mono HGE.out))
        have hW2 := it_others (x := ⟨xc, xd, xr, xv, xj⟩) HWV.out (by decide) (by omega) ho2
        have HW2 := Lib.hid hW2
        have hz2 : V.heap.size ≤ w2.heap.size := hbw2.size
        clear z0 z1 z2 z3 z4 zf hb2 hbw2 ho2 HBLV HBV HWV
        obtain ⟨z0, z1, z2, z3, z4, zf, zl2⟩ := it_of hW2
        clear hW2
        go_wp2_with fail
        refine (HMK.out _).mono ?_
        rintro e w3 ⟨rfl, hb3⟩
        have HBL3 := Lib.hid (Bld.keep HBL2.out hb3)
        have HB3 := Lib.hid (HB2.out.trans (hb3.mono HB2.out.size))
        have HW3 := Lib.hid (show w3.heap[wr.heap.size]? = some (.cells #[.string xc, .int .i64 xd, .bool xr, .bool xv, .bool xj] 49 (0, 0)) by rw [hb3.block _ zl2]; exact HW2.out)
        have hz3 : w2.heap.size ≤ w3.heap.size := hb3.size
        clear z0 z1 z2 z3 z4 zf hb3 HBL2 HB2 HW2
        go_wp2_with fail
        refine (put_any HBL3.out (bs M) (by rw [List.length_append, list_size]; have := HN.out; have := HCS.out; have := HML.out; omega) (by omega)).mono ?_
        rintro e w4 ⟨rfl, hb4, hbw4, ho4⟩
        rw [HMD.out] at hb4
        have HBL4 := Lib.hid hb4
        have HB4 := Lib.hid (HB3.out.trans (hbw4.mono HGE.out))
        have hW4 := it_others (x := ⟨xc, xd, xr, xv, xj⟩) HW3.out (by decide) (by omega) ho4
        have hz4 : w3.heap.size ≤ w4.heap.size := hbw4.size
        clear hb4 hbw4 ho4 HBL3 HB3 HW3
        obtain ⟨z0, z1, z2, z3, z4, zf, zl4⟩ := it_of hW4
        clear hW4
        simp only at z4
        have HN4 := Lib.hid (show ((acc ++ xc.data.toList) ++ M).length ≤ 30 * k + 20 by
          rw [List.length_append, List.length_append, list_size]
          have := HN.out; have := HCS.out; have := HML.out
          rw [bs_size] at this
          omega)
        cases xj with
        | true =>
          go_wp2_with fail
          refine (putb_any HBL4.out 43 (by have := HN4.out; omega) (by omega)).mono ?_
          rintro e w5 ⟨rfl, hb5, hbw5, ho5⟩
          have HB5 := Lib.hid (HB4.out.trans (hbw5.mono HGE.out))
          go_wp2_with fail
          go_roundw
          case rel =>
            refine ⟨k + 1, _, by omega, by go_num, Lib.hid hb5, HB5, Lib.hid ?_, Lib.hid ?_⟩
            · have := HE2.out
              rw [← this]; simp
            · have := HN4.out
              rw [List.length_append, List.length_singleton]; omega
          case measure => simp [intOf]; omega
        | false =>
          by_cases hlast : k + 1 = len
          · obtain ⟨n1, hn1⟩ : ∃ n1, len = n1 + 1 := ⟨len - 1, by omega⟩
            have g3 : (len : Int) - 1 = (k : Int) := by omega
            have g5 : IntKind.i64.wrap ((len : Int) - 1) = (k : Int) := by rw [g3]; exact IntWalk.i64_in _ (by omega)
            have g6 : IntKind.i64.wrap (k : Int) = (k : Int) := IntWalk.i64_in _ (by omega)
            have g7 : decide ((k : Int) < (k : Int)) = false := by simp
            have HLA := Lib.hid hlast
            clear hlast hn1
            go_wp2_with fail
            go_roundw
            case rel =>
              have hla := HLA.out
              refine ⟨k + 1, _, by omega, by go_num, HBL4, HB4, Lib.hid ?_, Lib.hid ?_⟩
              · have := HE2.out
                rw [← this, if_pos (show k + 1 = L.length by omega)]; simp
              · have := HN4.out
                omega
            case measure => have hla := HLA.out; simp [intOf]; omega
          · obtain ⟨n1, hn1⟩ : ∃ n1, len = n1 + 1 := ⟨len - 1, by omega⟩
            have g3 : (len : Int) - 1 = (n1 : Int) := by omega
            have g5 : IntKind.i64.wrap ((len : Int) - 1) = (n1 : Int) := by rw [g3]; exact IntWalk.i64_in _ (by omega)
            have g6 : IntKind.i64.wrap (n1 : Int) = (n1 : Int) := IntWalk.i64_in _ (by omega)
            have g7 : (k : Int) < (n1 : Int) := by omega
            have HLA := Lib.hid hlast
            clear hlast hn1
            go_wp2_with fail
            refine (putb_any HBL4.out 32 (by have := HN4.out; omega) (by omega)).mono ?_
            rintro e w5 ⟨rfl, hb5, hbw5, ho5⟩
            have HB5 := Lib.hid (HB4.out.trans (hbw5.mono HGE.out))
            go_wp2_with fail
            go_roundw
            case rel =>
              have hla := HLA.out
              refine ⟨k + 1, _, by omega, by go_num, Lib.hid hb5, HB5, Lib.hid ?_, Lib.hid ?_⟩
              · have := HE2.out
                rw [← this, if_neg (show ¬ k + 1 = L.length by omega)]; simp
              · have := HN4.out
                rw [List.length_append, List.length_singleton]; omega
            case measure => simp [intOf]; omega
      · obtain rfl : k = len := by omega
        have hl : ¬ (k : Int) < (k : Int) := by omega
        have HE2 := Lib.hid (show acc = prtS L by
          have := HE.out
          rw [List.drop_eq_nil_of_le (by omega)] at this
          simpa [prtS] using this)
        clear HE
        go_wp2_with fail
        refine (text_any HBL.out (by omega)).mono ?_
        rintro e w2 ⟨rfl, _, hb2⟩
        have HB2 := Lib.hid (HB.out.trans (hb2.mono HGE.out))
        rw [HE2.out]
        go_wp2_with fail
        refine bodyPost_ret (v := .tuple #[.string (bs (prtS L)), .int .i64 0]) (by simp [results, Try.results16, go_sem]) rfl ?_
        exact ⟨rfl, HB2.out⟩
  · rw [if_neg h0]
    have k0 : (chkL L == 0) = false := by simpa using h0
    have k1 : (chkL L != 0) = true := by simpa using h0
    clear h0
    generalize chkL L = r at *
    go_enter Try.func16, Try.ntmps16
    go_wp2_with fail
    refine HA.out.mono ?_
    rintro e w1 ⟨rfl, hb1⟩
    go_wp2_with fail
    refine bodyPost_ret (v := .tuple #[.string ⟨#[]⟩, .int .i64 r]) (by simp [results, Try.results16, go_sem]) rfl ?_
    exact ⟨rfl, hb1⟩
end Go.Proofs.Ytccglojnjakbfaa
