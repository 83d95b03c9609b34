/- The reference's Violated. -/
import Derived.Test.YtpcdbnlljdfogaaGre
import Derived.Test.YtpcdbnlljdfogaaRris
set_option linter.unusedSimpArgs false
set_option linter.unusedVariables false
namespace Go.Proofs.Ytpcdbnlljdfogaa
open Go.RowKit

def hitV (V : List Int) (k : Int) (e : Int × Int) : Bool := decide (e.2 = k) && V.contains e.1
def nV (g : Gph) (V : List Int) (k : Nat) : Nat := (g.E.filter (hitV V (k : Int))).length
def roomV (g : Gph) (V : List Int) : Nat → Int
  | 0 => 0
  | k + 1 => roomV g V k + min (nV g V k : Int) (atI g.R (k : Int))
def violB (g : Gph) (V : List Int) : Bool := decide (sumA g.L V > roomV g V g.R.length)
theorem flt_take {p : Int × Int → Bool} {E : List (Int × Int)} {k : Nat} (hk : k < E.length) : ((E.take (k + 1)).filter p).length = ((E.take k).filter p).length + (if p (E[k]'hk) = true then 1 else 0) := by
  rw [List.take_succ_eq_append_getElem hk, List.filter_append, List.length_append]
  congr 1
  by_cases h : p (E[k]'hk) = true
  · simp [h]
  · simp [h]
theorem roomV_le {g : Gph} {V : List Int} (hR : ∀ x ∈ g.R, 0 ≤ x ∧ x ≤ 1000) : ∀ k, 0 ≤ roomV g V k ∧ roomV g V k ≤ 1000 * (k : Int)
  | 0 => by simp [roomV]
  | k + 1 => by
    have ih := roomV_le hR (V := V) k
    have h : 0 ≤ atI g.R (k : Int) ∧ atI g.R (k : Int) ≤ 1000 := by
      unfold atI
      rw [Int.toNat_natCast, List.getD_eq_getElem?_getD]
      cases hg : g.R[k]? with
      | none => simp
      | some v => exact hR v (List.mem_of_getElem? hg)
    unfold roomV
    have := Int.min_le_right (nV g V k : Int) (atI g.R (k : Int))
    have h4 : 0 ≤ min (nV g V k : Int) (atI g.R (k : Int)) := by rw [Int.le_min]; omega
    omega
set_option maxHeartbeats 16000000 in
set_option maxRecDepth 100000 in
theorem vld_any (g : Gph) (w : World) (hg : GpAt w g) (hc : chk g = 0) {a : Option Addr} {b off len cap : Nat} {V : List Int} (hV : SlI w a b off len cap V) (hr : Rises g.L.length V) (hlv : V.length ≤ 64) :
    Calls Try.prog 30 #[g.val, .slice a len cap] w fun e w' => e = .returned (.bool (violB g V)) ∧ Below w.heap.size w w' := by
  obtain ⟨l1, l2, l3, hL, hR, hE, hN⟩ := chk_ok hc
  have HB := Lib.hid ((Below.refl w.heap.size w).alloc (Nat.le_refl _) (gBox g))
  have HGB := Lib.hid (gb_new w g 25)
  have HG := Lib.hid (fun W (h : Below w.heap.size w W) => hg.keep h)
  have HV := Lib.hid (fun W (h : Below w.heap.size w W) => hV.keep h)
  have hl := hV.hl
  have HL := Lib.hid (fun A => sumA_le hL A)
  have HR := Lib.hid (fun k => roomV_le hR (V := V) k)
  have HRr := Lib.hid hR
  have HE := Lib.hid hE
  have HVr := Lib.hid hr.1
  have HVd := Lib.hid (show violB g V = decide (sumA g.L V > roomV g V g.R.length) from rfl)
  have HRs := Lib.hid (show ∀ k, roomV g V (k + 1) = roomV g V k + min (nV g V k : Int) (atI g.R (k : Int)) from fun k => rfl)
  have HNd := Lib.hid (show ∀ k : Nat, nV g V k = (g.E.filter (hitV V (k : Int))).length from fun k => rfl)
  clear hg hV hr hL hR hE hN hc
  unfold gBox at HB HGB
  unfold Gph.val
  generalize violB g V = vb at *
  obtain ⟨nl, hnl⟩ : ∃ y, y = g.L.length := ⟨_, rfl⟩
  obtain ⟨nr, hnr⟩ : ∃ y, y = g.R.length := ⟨_, rfl⟩
  obtain ⟨ne, hne⟩ : ∃ y, y = g.E.length := ⟨_, rfl⟩
  obtain ⟨g0, g1, g2, gl⟩ := HGB.out
  rw [← hnl, ← hnr, ← hne] at g0 g1 g2 HB
  rw [← hnl, ← hnr, ← hne]
  rw [← hnl] at l1 HVr
  rw [← hnr] at l2 HVd
  rw [← hne] at l3
  have Hnl := Lib.hid hnl
  have Hnr := Lib.hid hnr
  have Hne := Lib.hid hne
  obtain ⟨W1, hW1⟩ : ∃ y, y = w.alloc (.cells #[.slice g.aL nl g.cL, .slice g.aR nr g.cR, .slice g.aE ne g.cE] 25) := ⟨_, rfl⟩
  rw [hnl, hnr, hne] at hW1
  rw [← hnl, ← hnr, ← hne] at hW1
  have HW1 := Lib.hid hW1
  have HGW := Lib.hid (show GbAt W1 w.heap.size g by rw [hW1, hnl, hnr, hne]; exact HGB.out)
  have HB1 := Lib.hid (show Below w.heap.size w W1 by rw [hW1]; exact HB.out)
  clear hW1 HGB HB g0 g1 g2 gl
  clear hnl hnr hne
  go_enter Try.func30, Try.ntmps30
  go_wp2_with fail
  rw [← HW1.out]
  clear HW1
  go_loopw [5, 6] (fun s5 s6 wq => ∃ (m : Nat), s5 = .int .i64 (sumA g.L (V.take m)) ∧ s6 = .int .i64 (m : Int) ∧ m ≤ len ∧ Hid (GbAt wq w.heap.size g) ∧ Hid (Below w.heap.size w wq)) (fun _ s6 _ => (len - (intOf s6)).toNat)
  case atStart => exact ⟨0, by simp [sumA], rfl, Nat.zero_le _, HGW, HB1⟩
  case round =>
    clear HGW HB1
    obtain ⟨m, rfl, rfl, hm, HGW, HB⟩ := hrel
    obtain ⟨g0, g1, g2, gl⟩ := HGW.out
    rw [← Hnl.out] at g0
    rw [← Hnr.out] at g1
    rw [← Hne.out] at g2
    by_cases hlt : m < len
    · have hlz : (m : Int) < (len : Int) := by omega
      have hmV : m < V.length := by omega
      have HS := Lib.hid (HV.out wr HB.out)
      have ha := HS.out.ha (by omega)
      have hbb := HS.out.hb (by omega)
      have hcc := HS.out.hcap
      have hmm := HS.out.hmax
      unfold maxLen at hmm
      have c0 := HS.out.cell m hmV
      have hx := HVr.out _ (List.getElem_mem hmV)
      obtain ⟨u, hu⟩ : ∃ u : Nat, V[m]'hmV = (u : Int) := ⟨(V[m]'hmV).toNat, by omega⟩
      rw [hu] at c0 hx
      have HGr := Lib.hid (HG.out wr HB.out)
      have huL : u < g.L.length := by have := Hnl.out; omega
      have haL : g.aL = some ⟨g.bL, g.oL, none⟩ := HGr.out.l.ha (by omega)
      have bL := HGr.out.l.hb (by omega)
      have hcL := HGr.out.l.hcap
      have hmL := HGr.out.l.hmax
      unfold maxLen at hmL
      rw [← Hnl.out] at hcL
      have d0 := HGr.out.l.cell u huL
      have hst := sumA_take (l := g.L) hmV
      rw [hu, atI_get huL] at hst
      have hb1 := HL.out (V.take m)
      have hb2 := HL.out (V.take (m + 1))
      rw [List.length_take] at hb1 hb2
      have huz : (u : Int) < (nl : Int) := by omega
      rw [haL] at g0
      generalize g.L[u]'huL = lu at *
      generalize hs2 : sumA g.L (V.take (m + 1)) = s2 at *
      generalize sumA g.L (V.take m) = s1 at *
      have hs1 : IntKind.i64.wrap (s1 + lu) = s1 + lu := IntWalk.i64_in _ (by omega)
      obtain rfl := ha
      have HB2 := Lib.hid (fun nq => bel_drewN HB.out nq)
      have HG2 := Lib.hid (fun nq => HGW.out.keep (bel_drewN (Below.refl _ _) nq))
      have hs2' := hs2.symm
      clear HS HGr hu hs2 HGW HB hb1 hb2
      go_wp2_with fail
      go_quiet (fail)
      go_wp2_with fail
      have HB3 := Lib.hid (HB2.out nq)
      have HG3 := Lib.hid (HG2.out nq)
      go_roundw
      case rel => exact ⟨m + 1, by rw [← hs2', hst], by go_num, by omega, HG3, HB3⟩
      case measure => simp [intOf]; omega
    · have hlz : ¬ (m : Int) < (len : Int) := by omega
      have hmv : V.take m = V := List.take_of_length_le (by omega)
      rw [hmv]
      have hbV := HL.out V
      obtain ⟨sv, hsv⟩ : ∃ y, y = sumA g.L V := ⟨_, rfl⟩
      rw [← hsv] at HVd hbV ⊢
      clear hsv hmv hlt
      have HGW0 := HGW
      have HB0 := HB
      clear HGW HB g0 g1 g2 gl
      go_wp2_with fail
      go_loopw [7, 8, 9, 10] (fun s7 s8 _ _ wq => ∃ (k : Nat), s7 = .int .i64 (roomV g V k) ∧ s8 = .int .i64 (k : Int) ∧ k ≤ nr ∧ Hid (GbAt wq w.heap.size g) ∧ Hid (Below w.heap.size w wq)) (fun _ s8 _ _ _ => (nr - (intOf s8)).toNat)
      case atStart => exact ⟨0, rfl, rfl, Nat.zero_le _, HGW0, HB0⟩
      case round =>
        clear HGW0 HB0
        obtain ⟨k, rfl, rfl, hk, HGW, HB⟩ := hrel
        obtain ⟨g0, g1, g2, gl⟩ := HGW.out
        rw [← Hnl.out] at g0
        rw [← Hnr.out] at g1
        rw [← Hne.out] at g2
        have hrk := HR.out k
        obtain ⟨rk, hrk2⟩ : ∃ y, y = roomV g V k := ⟨_, rfl⟩
        rw [← hrk2] at hrk ⊢
        have Hrk := Lib.hid hrk2
        clear hrk2
        by_cases hlt : k < nr
        · have hlz : (k : Int) < (nr : Int) := by omega
          have HGW0 := HGW
          have HB0 := HB
          clear HGW HB
          go_wp2_with fail
          go_loopw [9, 10] (fun s9 s10 wq => ∃ (i : Nat), s9 = .int .i64 ((((g.E.take i).filter (hitV V (k : Int))).length : Nat) : Int) ∧ s10 = .int .i64 (i : Int) ∧ i ≤ ne ∧ Hid (GbAt wq w.heap.size g) ∧ Hid (Below w.heap.size w wq)) (fun _ s10 _ => (ne - (intOf s10)).toNat)
          case atStart => exact ⟨0, by simp, rfl, Nat.zero_le _, HGW0, HB0⟩
          case round =>
            clear HGW0 HB0 g0 g1 g2 gl
            obtain ⟨i, rfl, rfl, hi, HGW, HB⟩ := hrel
            obtain ⟨g0, g1, g2, gl⟩ := HGW.out
            rw [← Hnl.out] at g0
            rw [← Hnr.out] at g1
            rw [← Hne.out] at g2
            have hcl : ((g.E.take i).filter (hitV V (k : Int))).length ≤ i := Nat.le_trans (List.length_filter_le _ _) (by rw [List.length_take]; exact Nat.min_le_left _ _)
            by_cases hlt2 : i < ne
            · have hlz2 : (i : Int) < (ne : Int) := by omega
              have hiE : i < g.E.length := by have := Hne.out; omega
              have HGr := Lib.hid (HG.out wr HB.out)
              have haE : g.aE = some ⟨g.bE, g.oE, none⟩ := HGr.out.e.ha (by omega)
              have bE := HGr.out.e.hb (by omega)
              have hcE := HGr.out.e.hcap
              have hmE := HGr.out.e.hmax
              unfold maxLen at hmE
              rw [← Hne.out] at hcE
              have d0 := HGr.out.e.c0 i hiE
              have d1 := HGr.out.e.c1 i hiE
              have hft := flt_take (p := hitV V (k : Int)) hiE
              have HHs := Lib.hid (rhas_any (HV.out wr HB.out) (g.E[i]'hiE).1)
              have hhit : hitV V (k : Int) (g.E[i]'hiE) = (decide ((g.E[i]'hiE).2 = (k : Int)) && V.contains (g.E[i]'hiE).1) := rfl
              rw [haE] at g2
              clear haE
              generalize hitV V (k : Int) (g.E[i]'hiE) = ht at *
              generalize (g.E[i]'hiE).1 = eu at *
              generalize (g.E[i]'hiE).2 = ev at *
              generalize V.contains eu = hv at *
              obtain ⟨c1, hc1⟩ : ∃ y, y = ((g.E.take (i + 1)).filter (hitV V (k : Int))).length := ⟨_, rfl⟩
              rw [← hc1] at hft
              have Hc1 := Lib.hid hc1
              clear hc1
              obtain ⟨c0, hc0⟩ : ∃ y, y = ((g.E.take i).filter (hitV V (k : Int))).length := ⟨_, rfl⟩
              rw [← hc0] at hft hcl ⊢
              have Hc0 := Lib.hid hc0
              clear hc0 HGr hiE
              by_cases q1 : ev = (k : Int)
              · have p1 : (ev == (k : Int)) = true := by simpa using q1
                rw [decide_eq_true q1, Bool.true_and] at hhit
                subst hhit
                clear q1
                cases ht with
                | true =>
                  have hcn : c1 = c0 + 1 := by simpa using hft
                  clear hft
                  go_wp2_with fail
                  refine HHs.out.mono ?_
                  rintro e w6 ⟨rfl, hw6⟩
                  replace hw6 := hw6.symm
                  subst hw6
                  go_wp2_with fail
                  go_roundw
                  case rel => exact ⟨i + 1, by rw [← Hc1.out, hcn]; go_num, by go_num, by omega, HGW, HB⟩
                  case measure => simp [intOf]; omega
                | false =>
                  have hcn : c1 = c0 := by simpa using hft
                  clear hft
                  go_wp2_with fail
                  refine HHs.out.mono ?_
                  rintro e w6 ⟨rfl, hw6⟩
                  replace hw6 := hw6.symm
                  subst hw6
                  go_wp2_with fail
                  go_roundw
                  case rel => exact ⟨i + 1, by rw [← Hc1.out, hcn], by go_num, by omega, HGW, HB⟩
                  case measure => simp [intOf]; omega
              · have p1 : (ev == (k : Int)) = false := by simpa using q1
                rw [decide_eq_false q1, Bool.false_and] at hhit
                subst hhit
                have hcn : c1 = c0 := by simpa using hft
                clear hft q1
                go_wp2_with fail
                go_roundw
                case rel => exact ⟨i + 1, by rw [← Hc1.out, hcn], by go_num, by omega, HGW, HB⟩
                case measure => simp [intOf]; omega
            · have hlz2 : ¬ (i : Int) < (ne : Int) := by omega
              have hfin : ((g.E.take i).filter (hitV V (k : Int))).length = nV g V k := by
                rw [HNd.out k, List.take_of_length_le (by rw [← Hne.out]; omega)]
              rw [hfin] at hcl ⊢
              have hrs := HRs.out k
              have hrk1 := HR.out (k + 1)
              rw [← Hrk.out] at hrs
              obtain ⟨r1, hr1⟩ : ∃ y, y = roomV g V (k + 1) := ⟨_, rfl⟩
              rw [← hr1] at hrs hrk1
              have Hr1 := Lib.hid hr1
              have hkR : k < g.R.length := by have := Hnr.out; omega
              have HGr := Lib.hid (HG.out wr HB.out)
              have haR : g.aR = some ⟨g.bR, g.oR, none⟩ := HGr.out.r.ha (by omega)
              have bR := HGr.out.r.hb (by omega)
              have hcR := HGr.out.r.hcap
              have hmR := HGr.out.r.hmax
              unfold maxLen at hmR
              rw [← Hnr.out] at hcR
              have d0 := HGr.out.r.cell k hkR
              rw [atI_get hkR] at hrs
              have hrx := HRr.out _ (List.getElem_mem hkR)
              rw [haR] at g1
              clear haR
              generalize g.R[k]'hkR = rv at *
              generalize nV g V k = nv at *
              clear hr1 hkR HGr hfin
              have hnw : IntKind.i64.wrap (rk + min (nv : Int) rv) = rk + min (nv : Int) rv := IntWalk.i64_in _ (by omega)
              go_wp2_with fail
              exact ⟨⟨k + 1, by rw [← Hr1.out, hrs], by go_num, by omega, HGW, HB⟩, by simp [intOf]; omega⟩
        · have hlz : ¬ (k : Int) < (nr : Int) := by omega
          have hkn : k = nr := by omega
          have hfv : vb = decide (sv > rk) := by rw [HVd.out, Hrk.out, hkn]
          have hfv' := hfv.symm
          clear hfv
          go_wp2_with fail
          go_ret
          exact ⟨ret_bool (by first | exact hfv' | (simp [← hfv']; done)), HB.out⟩
end Go.Proofs.Ytpcdbnlljdfogaa
