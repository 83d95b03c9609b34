/- The reference of rankings: Places and Refine. -/
import Derived.Test.YtigibomcaecbdaaGreatRqg
import Derived.Test.YtigibomcaecbdaaGreatRmd
import Derived.Test.YtigibomcaecbdaaGreatRfp
set_option linter.unusedSimpArgs false
set_option linter.unusedVariables false
namespace Go.Proofs.YtigibomcaecbdaaGreat
open Go.RowKit Go.Sort

/-- how many of the first k stand ahead of i, by a test -/
def cntD (d : Nat → Nat → Bool) (i k : Nat) : Nat := (List.range k).countP fun j => d j i
theorem cntD_step (d : Nat → Nat → Bool) (i k : Nat) : cntD d i (k + 1) = cntD d i k + if d k i = true then 1 else 0 := by
  unfold cntD
  rw [List.range_succ, List.countP_append, List.countP_singleton]
theorem cntD_le (d : Nat → Nat → Bool) (i k : Nat) : cntD d i k ≤ k := by
  have := List.countP_le_length (p := fun j => d j i) (l := List.range k)
  unfold cntD
  rw [List.length_range] at this
  exact this
def plcD (d : Nat → Nat → Bool) (n : Nat) : List Int := (List.range n).map fun i => 1 + (cntD d i n : Int)
theorem plcD_len (d : Nat → Nat → Bool) (n : Nat) : (plcD d n).length = n := by simp [plcD]
theorem plcD_step (d : Nat → Nat → Bool) {i n : Nat} (h : i < n) : (plcD d n).take (i + 1) = (plcD d n).take i ++ [1 + (cntD d i n : Int)] := by
  rw [List.take_succ_eq_append_getElem (by rw [plcD_len]; exact h)]
  simp [plcD]
def aheadD (C : List (List (Int × Int))) (k i : Nat) : Bool := decide (ahC (C.getD k []) (C.getD i []) < 0)
theorem plcD_ahead (C : List (List (Int × Int))) : plcL ahC C = plcD (aheadD C) C.length := plc_ahead C
def refD (P : List Int) (C : List (List (Int × Int))) (k i : Nat) : Bool := decide (refC P C k i < 0)
theorem plcD_ref (P : List Int) (C : List (List (Int × Int))) (n : Nat) : plcL (refC P C) (List.range n) = plcD (refD P C) n := rfl
theorem refD_lt {P : List Int} {C : List (List (Int × Int))} {k i : Nat} (h : P.getD k 0 < P.getD i 0) : refD P C k i = true := by
  refine decide_eq_true ?_
  unfold refC cmpI ordI
  rw [if_neg (by omega), if_pos h]
  omega
theorem refD_eq {P : List Int} {C : List (List (Int × Int))} {k i : Nat} (h : P.getD k 0 = P.getD i 0) : refD P C k i = aheadD C k i := by
  unfold refD aheadD refC
  rw [if_pos h]
theorem refD_gt {P : List Int} {C : List (List (Int × Int))} {k i : Nat} (h : P.getD i 0 < P.getD k 0) : refD P C k i = false := by
  refine decide_eq_false ?_
  unfold refC cmpI ordI
  rw [if_neg (by omega), if_neg (by omega), if_neg (by omega)]
  omega
def RPlcPost (w : World) (n : Nat) (P : List Int) (e : Ending) (w' : World) : Prop :=
  ∃ a b cap, e = .returned (.slice a n cap) ∧ SlI w' a b 0 n cap P ∧ Below w.heap.size w w'
set_option maxHeartbeats 8000000 in
set_option maxRecDepth 100000 in
theorem rplaces_any {a : Option Addr} {b off len cap : Nat} {M : List Rw} {w : World} (h : SlR w a b off len cap M) (hn : len ≤ 1000000) :
    Calls Tryz.prog 22 #[.slice a len cap] w (RPlcPost w len (plcD (aheadD (crit M)) len)) := by
  have hl := h.sl.hl
  have hcap := h.sl.hcap
  have hmax := h.sl.hmax
  unfold maxLen at hmax
  have HM := Lib.hid (fun (W : World) (hB : Below w.heap.size w W) (i k : Nat) (hi : i < len) (hk : k < len) => rahead_any (h.keep hB) hi hk)
  clear h hl
  obtain ⟨dd, hdd⟩ : ∃ dd, aheadD (crit M) = dd := ⟨_, rfl⟩
  rw [hdd]
  have HD := Lib.hid hdd
  clear hdd
  obtain ⟨i0, hi0, hz0, hz1, hz2⟩ := info_parts infoI
  go_enter Tryz.func22, Tryz.ntmps22
  go_wp2_with fail
  have hown0 : (w.alloc (.cells #[] 3)).ownsRow w.heap.size 3 1 (.slice (some ⟨w.heap.size, 0, none⟩) 0 0) 0 [] := World.ownsRow_made w #[] 0 (Nat.le_refl _) (Nat.zero_le _) (by simp)
  have HO0 := Lib.hid hown0
  have HB0 := Lib.hid (show Below w.heap.size w (w.alloc (.cells #[] 3)) from (Below.refl _ _).alloc (Nat.le_refl _) _)
  clear hown0
  go_loopw [3, 4, 5, 6] (fun s3 s4 s5 s6 wr => ∃ (i : Nat) (v u1 u2 : Value), i ≤ len ∧ s3 = v ∧ s4 = .int .i64 (i : Int) ∧ s5 = u1 ∧ s6 = u2 ∧ Hid (wr.ownsRow w.heap.size 3 1 v i (((plcD dd len).take i).map (Value.int .i64))) ∧ Hid (Below w.heap.size w wr)) (fun _ s4 _ _ _ => (len - (intOf s4)).toNat)
  case atStart => exact ⟨0, _, _, _, Nat.zero_le _, rfl, rfl, rfl, rfl, Lib.hid (by simpa using HO0.out), HB0⟩
  case round =>
    clear HO0 HB0
    obtain ⟨i, v, u1, u2, hi, hv3, rfl, h1, h2, HO, HB⟩ := hrel
    replace hv3 := hv3.symm
    replace h1 := h1.symm
    replace h2 := h2.symm
    subst hv3 h1 h2
    by_cases hlt : i < len
    · have l1 : (i : Int) < (len : Int) := by omega
      have HZ := Lib.hid (plcD_step dd hlt)
      go_wp2_with fail
      go_loopw [5, 6] (fun s5 s6 wi => ∃ (k : Nat), k ≤ len ∧ s5 = .int .i64 (1 + (cntD dd i k : Int)) ∧ s6 = .int .i64 (k : Int) ∧ Hid (wi.ownsRow w.heap.size 3 1 v i (((plcD dd len).take i).map (Value.int .i64))) ∧ Hid (Below w.heap.size w wi)) (fun _ s6 _ => (len - (intOf s6)).toNat)
      case atStart => exact ⟨0, Nat.zero_le _, rfl, rfl, HO, HB⟩
      case round =>
        clear HO HB
        obtain ⟨k, hk, rfl, rfl, HO, HB⟩ := hrel
        have n1 := cntD_le dd i k
        by_cases hltk : k < len
        · have l2 : (k : Int) < (len : Int) := by omega
          have HST := Lib.hid (cntD_step dd i k)
          obtain ⟨m, hm⟩ : ∃ m, cntD dd i k = m := ⟨_, rfl⟩
          rw [hm] at HST n1 ⊢
          clear hm
          have HC1 := Lib.hid (HM.out _ HB.out k i hltk hlt)
          rw [show decide (ahC ((crit M).getD k []) ((crit M).getD i []) < 0) = dd k i from by rw [← HD.out]; rfl] at HC1
          obtain ⟨y, hy⟩ : ∃ y, dd k i = y := ⟨_, rfl⟩
          rw [hy] at HC1 HST
          clear hy
          go_wp2_with fail
          refine (HC1.out).mono ?_
          rintro e w4 ⟨rfl, hb⟩
          have HO4 := Lib.hid (own_below HO.out hb)
          have HB4 := Lib.hid (HB.out.trans (hb.mono HB.out.size))
          clear hb HO HB HC1
          cases y with
          | true =>
            have HS2 := Lib.hid (show cntD dd i (k + 1) = m + 1 by rw [HST.out]; simp)
            go_wp2_with fail
            go_roundw
            case rel => exact ⟨k + 1, by omega, by rw [HS2.out]; go_num, by go_num, HO4, HB4⟩
            case measure => simp [intOf]; omega
          | false =>
            have HS2 := Lib.hid (show cntD dd i (k + 1) = m by rw [HST.out]; simp)
            go_wp2_with fail
            go_roundw
            case rel => exact ⟨k + 1, by omega, by rw [HS2.out], by go_num, HO4, HB4⟩
            case measure => simp [intOf]; omega
        · obtain rfl : k = len := by omega
          have l2 : ¬ (k : Int) < (k : Int) := by omega
          obtain ⟨x, hx⟩ : ∃ x : Int, 1 + (cntD dd i k : Int) = x := ⟨_, rfl⟩
          rw [hx] at HZ ⊢
          have HBA := Lib.hid (HB.out.alloc HB.out.size (.cells #[.int .i64 x] 3))
          clear hx n1
          go_wp2_with (at_builtin; refine wpList_append_own _ rfl _ _ 31 rfl w.heap.size 3 i0 (.int .i64 0) 1 8 Tryz.underlying31 hi0 hz0 hz1 hz2 rfl (by decide) _ i (((plcD dd k).take i).map (Value.int .i64)) rfl (HO.out.alloc _) ⟨wr.heap.size, 0, none⟩ 1 1 [.int .i64 x] rfl rfl (new1 wr x _) (one1 x) ?n2 ?n3 ?n4 ?_)
          case n2 => unfold maxLen; omega
          case n3 => omega
          case n4 => have := HBA.out.size; simpa using this
          intro v1 w1 ho hg1 _
          have HO1 := Lib.hid (show w1.ownsRow w.heap.size 3 1 v1 (i + 1) (((plcD dd k).take (i + 1)).map (Value.int .i64)) by
            rw [HZ.out, List.map_append]
            first | exact ho | (rw [List.map_take]; exact ho))
          have HB1 := Lib.hid (HBA.out.grown hg1 HBA.out.size (fun k hk => ((HO.out.lt k hk).1)))
          clear ho hg1 HBA HO HB
          go_wp2_with fail
          go_roundw
          case rel => exact ⟨i + 1, _, _, _, by omega, rfl, by go_num, rfl, rfl, HO1, HB1⟩
          case measure => simp [intOf]; omega
    · obtain rfl : i = len := by omega
      have l1 : ¬ (i : Int) < (i : Int) := by omega
      have e1 : (plcD dd i).take i = plcD dd i := List.take_of_length_le (by rw [plcD_len]; exact Nat.le_refl _)
      rw [e1] at HO
      obtain ⟨ra, rb, rc, hv, hs, _, _⟩ := own_sl (enc := Value.int .i64) (plcD_len dd i) HO.out
      subst hv
      have HS := Lib.hid hs
      clear hs HO e1
      go_wp2
      go_ret
      exact ⟨ra, rb, rc, rfl, HS.out, HB.out⟩
set_option maxHeartbeats 8000000 in
set_option maxRecDepth 100000 in
theorem rrefine_any {ap a : Option Addr} {gp op cp b off len cap : Nat} {P : List Int} {M : List Rw} {w : World} (hP : SlI w ap gp op len cp P) (h : SlR w a b off len cap M) (hn : len ≤ 1000000) :
    Calls Tryz.prog 29 #[.slice ap len cp, .slice a len cap] w (RPlcPost w len (plcD (refD P (crit M)) len)) := by
  have hl := h.sl.hl
  have hcap := h.sl.hcap
  have hmax := h.sl.hmax
  unfold maxLen at hmax
  have hlp := hP.hl
  have hcp := hP.hcap
  have hmp := hP.hmax
  unfold maxLen at hmp
  have HM := Lib.hid (fun (W : World) (hB : Below w.heap.size w W) (i k : Nat) (hi : i < len) (hk : k < len) => rahead_any (h.keep hB) hi hk)
  have HPC := Lib.hid (fun (W : World) (hB : Below w.heap.size w W) (j : Nat) (hj : j < len) => (show W.cell? ⟨gp, op + j, none⟩ = some (.int .i64 (P.getD j 0)) by
    have := (hP.keep hB).cell j (by omega)
    simpa [List.getD, show j < P.length by omega] using this))
  have HPA := Lib.hid (fun (h0 : 0 < len) => hP.ha h0)
  have HPL := Lib.hid (fun (h0 : 0 < len) => hP.hb h0)
  clear h hl hP hlp
  obtain ⟨dd, hdd⟩ : ∃ dd, refD P (crit M) = dd := ⟨_, rfl⟩
  rw [hdd]
  have HD := Lib.hid hdd
  clear hdd
  obtain ⟨i0, hi0, hz0, hz1, hz2⟩ := info_parts infoI
  go_enter Tryz.func29, Tryz.ntmps29
  go_wp2_with fail
  have hown0 : (w.alloc (.cells #[] 3)).ownsRow w.heap.size 3 1 (.slice (some ⟨w.heap.size, 0, none⟩) 0 0) 0 [] := World.ownsRow_made w #[] 0 (Nat.le_refl _) (Nat.zero_le _) (by simp)
  have HO0 := Lib.hid hown0
  have HB0 := Lib.hid (show Below w.heap.size w (w.alloc (.cells #[] 3)) from (Below.refl _ _).alloc (Nat.le_refl _) _)
  clear hown0
  go_loopw [5, 6, 7, 8] (fun s3 s4 s5 s6 wr => ∃ (i : Nat) (v u1 u2 : Value), i ≤ len ∧ s3 = v ∧ s4 = .int .i64 (i : Int) ∧ s5 = u1 ∧ s6 = u2 ∧ Hid (wr.ownsRow w.heap.size 3 1 v i (((plcD dd len).take i).map (Value.int .i64))) ∧ Hid (Below w.heap.size w wr)) (fun _ s4 _ _ _ => (len - (intOf s4)).toNat)
  case atStart => exact ⟨0, _, _, _, Nat.zero_le _, rfl, rfl, rfl, rfl, Lib.hid (by simpa using HO0.out), HB0⟩
  case round =>
    clear HO0 HB0
    obtain ⟨i, v, u1, u2, hi, hv3, rfl, h1, h2, HO, HB⟩ := hrel
    replace hv3 := hv3.symm
    replace h1 := h1.symm
    replace h2 := h2.symm
    subst hv3 h1 h2
    by_cases hlt : i < len
    · have l1 : (i : Int) < (len : Int) := by omega
      have HZ := Lib.hid (plcD_step dd hlt)
      go_wp2_with fail
      go_loopw [7, 8] (fun s5 s6 wi => ∃ (k : Nat), k ≤ len ∧ s5 = .int .i64 (1 + (cntD dd i k : Int)) ∧ s6 = .int .i64 (k : Int) ∧ Hid (wi.ownsRow w.heap.size 3 1 v i (((plcD dd len).take i).map (Value.int .i64))) ∧ Hid (Below w.heap.size w wi)) (fun _ s6 _ => (len - (intOf s6)).toNat)
      case atStart => exact ⟨0, Nat.zero_le _, rfl, rfl, HO, HB⟩
      case round =>
        clear HO HB
        obtain ⟨k, hk, rfl, rfl, HO, HB⟩ := hrel
        have n1 := cntD_le dd i k
        by_cases hltk : k < len
        · have l2 : (k : Int) < (len : Int) := by omega
          have HST := Lib.hid (cntD_step dd i k)
          obtain ⟨m, hm⟩ : ∃ m, cntD dd i k = m := ⟨_, rfl⟩
          rw [hm] at HST n1 ⊢
          clear hm
          obtain rfl := HPA.out (by omega)
          have HPB : gp < w.heap.size := HPL.out (by omega)
          have x1 := HPC.out _ HB.out k hltk
          have x2 := HPC.out _ HB.out i hlt
          have HLT := Lib.hid (fun (hh : P.getD k 0 < P.getD i 0) => (show dd k i = true by rw [← HD.out]; exact refD_lt hh))
          have HGT := Lib.hid (fun (hh : P.getD i 0 < P.getD k 0) => (show dd k i = false by rw [← HD.out]; exact refD_gt hh))
          have HC1 := Lib.hid (fun (hh : P.getD k 0 = P.getD i 0) (W : World) (hW : Below w.heap.size w W) => (show Calls Tryz.prog 50 #[.slice a len cap, .int .i64 (k : Int), .int .i64 (i : Int)] W fun e w' => e = .returned (.bool (dd k i)) ∧ Below W.heap.size W w' by
            have hc := HM.out W hW k i hltk hlt
            rw [show decide (ahC ((crit M).getD k []) ((crit M).getD i []) < 0) = dd k i from by rw [← HD.out, refD_eq hh]; rfl] at hc
            exact hc))
          obtain ⟨p, hp⟩ : ∃ p, P.getD k 0 = p := ⟨_, rfl⟩
          obtain ⟨q, hq⟩ : ∃ q, P.getD i 0 = q := ⟨_, rfl⟩
          rw [hp] at x1 HLT HGT HC1
          rw [hq] at x2 HLT HGT HC1
          clear hp hq
          obtain ⟨y, hy⟩ : ∃ y, dd k i = y := ⟨_, rfl⟩
          rw [hy] at HC1 HST HLT HGT
          clear hy
          rcases Int.lt_trichotomy p q with hpq | hpq | hpq
          · obtain rfl : y = true := HLT.out hpq
            have k1 : decide (p < q) = true := decide_eq_true hpq
            clear HC1 HLT HGT
            go_wp2_with fail
            go_quiet (fail)
            have HO4 := Lib.hid (own_below HO.out (bel_drewN (Below.refl _ _) nq))
            have HB4 := Lib.hid (bel_drewN HB.out nq)
            generalize wr.drewN nq = w4 at *
            have HS2 := Lib.hid (show cntD dd i (k + 1) = m + 1 by rw [HST.out]; simp)
            go_wp2_with fail
            go_roundw
            case rel => exact ⟨k + 1, by omega, by rw [HS2.out]; go_num, by go_num, HO4, HB4⟩
            case measure => simp [intOf]; omega
          · subst hpq
            have k1 : decide (p < p) = false := by simp
            have k2 : (p == p) = true := by simp
            have HC2 := Lib.hid (HC1.out rfl)
            clear HC1 HLT HGT
            go_wp2_with fail
            go_region_held3 (fun w' => w'.cell? ⟨gp, op + k, none⟩ = some (.int .i64 p) ∧ w'.cell? ⟨gp, op + i, none⟩ = some (.int .i64 p))
              ((first | exact ⟨x1, x2⟩ | exact z))
              ((first | (go_at_call 50; refine (HC2.out _ (by first | exact HB.out | exact HB.out.drew)).mono ?_; rintro e w4 ⟨rfl, hb⟩; (try (with_reducible replace hb := undrew hb)); have z := And.intro ((hb.cell (p := ⟨gp, op + k, none⟩) (Nat.lt_of_lt_of_le HPB HB.out.size)).trans x1) ((hb.cell (p := ⟨gp, op + i, none⟩) (Nat.lt_of_lt_of_le HPB HB.out.size)).trans x2))))
            have HO4 := Lib.hid (own_below HO.out hb)
            have HB4 := Lib.hid (HB.out.trans (hb.mono HB.out.size))
            clear z hb HO HB HC2 x1 x2
            cases y with
            | true =>
              have HS2 := Lib.hid (show cntD dd i (k + 1) = m + 1 by rw [HST.out]; simp)
              go_wp2_with fail
              go_roundw
              case rel => exact ⟨k + 1, by omega, by rw [HS2.out]; go_num, by go_num, HO4, HB4⟩
              case measure => simp [intOf]; omega
            | false =>
              have HS2 := Lib.hid (show cntD dd i (k + 1) = m by rw [HST.out]; simp)
              go_wp2_with fail
              go_roundw
              case rel => exact ⟨k + 1, by omega, by rw [HS2.out], by go_num, HO4, HB4⟩
              case measure => simp [intOf]; omega
          · obtain rfl : y = false := HGT.out hpq
            have k1 : decide (p < q) = false := decide_eq_false (by omega)
            have k2 : (p == q) = false := by rw [beq_eq_false_iff_ne]; omega
            clear HC1 HLT HGT
            go_wp2_with fail
            go_quiet (fail)
            have HO4 := Lib.hid (own_below HO.out (bel_drewN (Below.refl _ _) nq))
            have HB4 := Lib.hid (bel_drewN HB.out nq)
            generalize wr.drewN nq = w4 at *
            have HS2 := Lib.hid (show cntD dd i (k + 1) = m by rw [HST.out]; simp)
            go_wp2_with fail
            go_roundw
            case rel => exact ⟨k + 1, by omega, by rw [HS2.out], by go_num, HO4, HB4⟩
            case measure => simp [intOf]; omega
        · obtain rfl : k = len := by omega
          have l2 : ¬ (k : Int) < (k : Int) := by omega
          obtain ⟨x, hx⟩ : ∃ x : Int, 1 + (cntD dd i k : Int) = x := ⟨_, rfl⟩
          rw [hx] at HZ ⊢
          have HBA := Lib.hid (HB.out.alloc HB.out.size (.cells #[.int .i64 x] 3))
          clear hx n1
          go_wp2_with (at_builtin; refine wpList_append_own _ rfl _ _ 31 rfl w.heap.size 3 i0 (.int .i64 0) 1 8 Tryz.underlying31 hi0 hz0 hz1 hz2 rfl (by decide) _ i (((plcD dd k).take i).map (Value.int .i64)) rfl (HO.out.alloc _) ⟨wr.heap.size, 0, none⟩ 1 1 [.int .i64 x] rfl rfl (new1 wr x _) (one1 x) ?n2 ?n3 ?n4 ?_)
          case n2 => unfold maxLen; omega
          case n3 => omega
          case n4 => have := HBA.out.size; simpa using this
          intro v1 w1 ho hg1 _
          have HO1 := Lib.hid (show w1.ownsRow w.heap.size 3 1 v1 (i + 1) (((plcD dd k).take (i + 1)).map (Value.int .i64)) by
            rw [HZ.out, List.map_append]
            first | exact ho | (rw [List.map_take]; exact ho))
          have HB1 := Lib.hid (HBA.out.grown hg1 HBA.out.size (fun k hk => ((HO.out.lt k hk).1)))
          clear ho hg1 HBA HO HB
          go_wp2_with fail
          go_roundw
          case rel => exact ⟨i + 1, _, _, _, by omega, rfl, by go_num, rfl, rfl, HO1, HB1⟩
          case measure => simp [intOf]; omega
    · obtain rfl : i = len := by omega
      have l1 : ¬ (i : Int) < (i : Int) := by omega
      have e1 : (plcD dd i).take i = plcD dd i := List.take_of_length_le (by rw [plcD_len]; exact Nat.le_refl _)
      rw [e1] at HO
      obtain ⟨ra, rb, rc, hv, hs, _, _⟩ := own_sl (enc := Value.int .i64) (plcD_len dd i) HO.out
      subst hv
      have HS := Lib.hid hs
      clear hs HO e1
      go_wp2
      go_ret
      exact ⟨ra, rb, rc, rfl, HS.out, HB.out⟩
end Go.Proofs.YtigibomcaecbdaaGreat
