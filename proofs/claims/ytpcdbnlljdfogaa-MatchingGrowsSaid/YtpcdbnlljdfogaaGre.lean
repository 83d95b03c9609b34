/- Greatest: the edges that a greatest flow can be made to use, one after the other. -/
import Derived.Test.YtpcdbnlljdfogaaStl
set_option linter.unusedSimpArgs false
set_option linter.unusedVariables false
namespace Go.Proofs.Ytpcdbnlljdfogaa
open Go.RowKit

def greO (H : List Int) (A : List (List Int)) (F : Nat) : Nat → Nat → List Int → List Int → Option (List Int)
  | 0, _, _, M => some M
  | n + 1, i, R, M => match settleP H R A i F with
    | some (b, R') => greO H A F n (i + 1) R' (if b = true then M ++ [(i : Int)] else M)
    | none => none
theorem gre_step {H : List Int} {A : List (List Int)} {F n i : Nat} {R M Mf : List Int} (h : greO H A F (n + 1) i R M = some Mf) :
    ∃ b R', settleP H R A i F = some (b, R') ∧ greO H A F n (i + 1) R' (if b = true then M ++ [(i : Int)] else M) = some Mf := by
  unfold greO at h
  cases hp : settleP H R A i F with
  | none => rw [hp] at h; cases h
  | some q =>
    obtain ⟨b, R'⟩ := q
    rw [hp] at h
    exact ⟨b, R', rfl, h⟩
def greG (g : Gph) (F K : Nat) : Option (List Int) := (fillG g F K).bind fun R => greO (netH g) (arcsA (netH g) (g.L.length + g.R.length + 2)) F g.E.length 0 R []
structure NtLt (D nb : Nat) (N : Nt) : Prop where
  nb : nb < D
  h : 0 < N.H.length → N.bH < D
  r : 0 < N.R.length → N.bR < D
  o : ∀ k, N.row = some k → k < D
  a : N.bA < D
  i : ∀ r ∈ N.A, 0 < r.L.length → r.b < D
theorem NtO.lt {w : World} {B nb : Nat} {N : Nt} (h : NtO w B nb N) : NtLt w.heap.size nb N :=
  ⟨h.at_.lt, h.at_.h.hb, h.at_.r.hb, fun k hk => (World.ownsRow.lt h.own k hk).2, h.at_.al, fun r hr => (h.at_.i r hr).hb⟩
theorem NtLt.room {D nb : Nat} {N : Nt} {R : List Int} (h : NtLt D nb N) (hl : R.length = N.R.length) : NtLt D nb (N.room R) := by
  refine ⟨h.nb, h.h, fun hh => h.r ?_, fun k hk => h.o k ?_, h.a, h.i⟩
  · rw [← hl]; exact hh
  · show (Value.slice N.aR N.R.length N.cR).ownBlock = some k
    rw [← hl]; exact hk
theorem NtO.low {w w' : World} {B D nb : Nat} {N : Nt} (h : NtO w B nb N) (l : NtLt D nb N) (hB : Below D w w') : NtO w' B nb N := by
  refine ⟨?_, h.own.low hB l.o, h.nb, h.hb, h.rb⟩
  exact { c0 := (hB.cell (p := ⟨nb, 0, none⟩) l.nb).trans h.at_.c0, c1 := (hB.cell (p := ⟨nb, 1, none⟩) l.nb).trans h.at_.c1, c2 := (hB.cell (p := ⟨nb, 2, none⟩) l.nb).trans h.at_.c2, c3 := (hB.cell (p := ⟨nb, 3, none⟩) l.nb).trans h.at_.c3, c4 := (hB.cell (p := ⟨nb, 4, none⟩) l.nb).trans h.at_.c4, lt := Nat.lt_of_lt_of_le h.at_.lt hB.size, h := h.at_.h.low l.h hB, r := h.at_.r.low l.r hB, al := Nat.lt_of_lt_of_le h.at_.al hB.size, ac := h.at_.ac, at_ := fun k hk => (hB.cell (p := ⟨N.bA, N.oA + k, none⟩) l.a).trans (h.at_.at_ k hk), i := fun r hr => (h.at_.i r hr).low (l.i r hr) hB }
set_option maxHeartbeats 8000000 in
set_option maxRecDepth 100000 in
theorem gre_no (g : Gph) (w : World) (hg : GpAt w g) (hc : chk g ≠ 0) :
    Calls Try.prog 17 #[g.val] w fun e w' => e = .returned (.tuple #[.slice none 0 0, .int .i64 (chk g)]) ∧ Below w.heap.size w w' := by
  have HB := Lib.hid ((Below.refl w.heap.size w).alloc (Nat.le_refl _) (gBox g))
  have HCk := Lib.hid (check_any g _ (hg.keep HB.out))
  have hz : (chk g != 0) = true := by simpa using hc
  have hs0 : w.heap.size ≤ (w.alloc (gBox g)).heap.size := HB.out.size
  clear hg hc
  unfold Gph.val at HCk ⊢
  unfold gBox at HB HCk hs0
  generalize chk g = f at *
  go_enter Try.func17, Try.ntmps17
  go_wp2_with fail
  refine HCk.out.mono ?_
  rintro e w1 ⟨rfl, hb1⟩
  have HB1 := Lib.hid (HB.out.trans (hb1.mono hs0))
  clear hb1
  go_wp2_with fail
  go_ret2
  exact ⟨rfl, HB1.out⟩
set_option maxHeartbeats 8000000 in
set_option maxRecDepth 100000 in
theorem gre_any (g : Gph) (w : World) (hg : GpAt w g) (hc : chk g = 0) (F K : Nat) (Mf : List Int) (hp : greG g F K = some Mf) :
    Calls Try.prog 17 #[g.val] w fun e w' => ∃ v, e = .returned (.tuple #[v, .int .i64 0]) ∧ OwI w' w.heap.size v Mf.length Mf ∧ Below w.heap.size w w' := by
  obtain ⟨Rf, hf, hp⟩ := Option.bind_eq_some_iff.1 hp
  have HB := Lib.hid ((Below.refl w.heap.size w).alloc (Nat.le_refl _) (gBox g))
  have HGB := Lib.hid (gb_new w g 25)
  have HCk := Lib.hid (check_any g _ (hg.keep HB.out))
  rw [hc] at HCk
  have HFi := Lib.hid (fun W (hW : Below w.heap.size w W) => fil_any g W (hg.keep hW) hc F K Rf hf)
  have hs0 : w.heap.size ≤ (w.alloc (gBox g)).heap.size := HB.out.size
  have hlE := (chk_ok hc).2.2.1
  have HP := Lib.hid hp
  clear hg hc hf hp
  unfold Gph.val at HCk HFi ⊢
  unfold gBox at HB HCk hs0
  obtain ⟨i0, hi0, hz0, hz1, hz2⟩ := info_parts infoI
  go_enter Try.func17, Try.ntmps17
  go_wp2_with fail
  refine HCk.out.mono ?_
  rintro e w1 ⟨rfl, hb1⟩
  have HB1 := Lib.hid (HB.out.trans (hb1.mono hs0))
  have HGB1 := Lib.hid (HGB.out.keep hb1)
  have HF1 := Lib.hid (HFi.out w1 HB1.out)
  have hs1 : w.heap.size ≤ w1.heap.size := HB1.out.size
  clear hb1 HB HGB HCk HFi hs0
  obtain ⟨g0, g1, g2, gl⟩ := HGB1.out
  go_wp2_with fail
  refine HF1.out.mono ?_
  rintro e w2 ⟨nb, N, rfl, hN, hNo, hW, hR, hb2⟩
  subst hR
  have HN := Lib.hid hN
  have HNo := Lib.hid hNo
  have HW := Lib.hid hW
  have HB2 := Lib.hid (HB1.out.trans (hb2.mono hs1))
  have hs2 : w.heap.size ≤ w2.heap.size := HB2.out.size
  have HGB2 := Lib.hid (HGB1.out.keep hb2)
  have HLt := Lib.hid hN.lt
  have hHl := netH_len g
  have hrl : N.R.length = 2 * (g.E.length + g.L.length + g.R.length) := by rw [← hW.hr, hNo.h, hHl]
  have HHe := Lib.hid (show N.H.length % 2 = 0 by rw [hNo.h]; omega)
  rw [← hNo.a, ← hNo.h] at HP
  have HHR := Lib.hid hW.hr
  have HRow := Lib.hid (fun k (hk : N.row = some k) => Nat.le_trans hs1 (World.ownsRow.lt hN.own k hk).1)
  clear hN hNo hW hb2 g0 g1 g2 gl HF1 hHl
  obtain ⟨g0, g1, g2, gl⟩ := HGB2.out
  obtain ⟨ne, hne⟩ : ∃ y, y = g.E.length := ⟨_, rfl⟩
  rw [← hne] at g2 HP hlE hrl
  have hrl2 : 2 * ne ≤ N.R.length := by omega
  clear hne hrl g0 g1
  have HN0 := Lib.hid (show NtO w2 w1.heap.size nb (N.room N.R) from HN.out)
  have HW0 := Lib.hid (show NtWf (N.room N.R) from HW.out)
  have HM0 := Lib.hid (show OwI w2 w2.heap.size (.slice none 0 0) ([] : List Int).length [] from World.ownsRow_nil _ _ _ _)
  go_wp2_with fail
  go_loopw [6, 7, 18] (fun s6 _ s18 wq => ∃ (i : Nat) (Rk M : List Int) (vM : Value), s6 = vM ∧ s18 = .int .i64 (i : Int) ∧ i ≤ ne ∧ Hid (greO N.H N.arcs F (ne - i) i Rk M = some Mf) ∧ Hid (Rk.length = N.R.length) ∧ Hid (NtO wq w1.heap.size nb (N.room Rk)) ∧ Hid (NtWf (N.room Rk)) ∧ Hid (OwI wq w2.heap.size vM M.length M) ∧ Hid (M.length ≤ i) ∧ Hid (Below w.heap.size w wq) ∧ Hid (w2.heap.size ≤ wq.heap.size)) (fun _ _ s18 _ => (ne - (intOf s18)).toNat)
  case atStart => exact ⟨0, N.R, [], _, rfl, rfl, Nat.zero_le _, HP, Lib.hid rfl, HN0, HW0, HM0, Lib.hid (Nat.le_refl _), HB2, Lib.hid (Nat.le_refl _)⟩
  case round =>
    clear HP HN0 HW0 HM0 HB2 HGB2 HN HW g2 gl
    obtain ⟨i, Rk, M, vM, rfl, rfl, hi, HP, HL, HNk, HWk, HM, HMl, HB, HS⟩ := hrel
    by_cases hlt : i < ne
    · have hlz : (i : Int) < (ne : Int) := by omega
      have hp := HP.out
      rw [show ne - i = (ne - i - 1) + 1 by omega] at hp
      obtain ⟨b, R', hb, hn⟩ := gre_step hp
      have HSt := Lib.hid (stl_any (N.room Rk) nb w1.heap.size F wr HNk.out HWk.out HHe.out i (by show _ < Rk.length; rw [HL.out]; omega) b R' hb)
      have HPn := Lib.hid hn
      have hwr := HB.out.size
      have hwr2 := HS.out
      have HRk := Lib.hid (fun k (hk : (N.room Rk).row = some k) => show w.heap.size ≤ k ∧ k < w2.heap.size by
        have e : (N.room Rk).row = N.row := by show (Value.slice N.aR Rk.length N.cR).ownBlock = _; rw [HL.out]
        rw [e] at hk
        exact ⟨HRow.out k hk, HLt.out.o k hk⟩)
      clear hp hb hn HP HNk HWk
      go_wp2_with fail
      refine HSt.out.mono ?_
      rintro e w3 ⟨rfl, hN3, hW3, hg3⟩
      have HN3 := Lib.hid (show NtO w3 w1.heap.size nb (N.room R') from hN3)
      have HW3 := Lib.hid (show NtWf (N.room R') from hW3)
      have HL3 := Lib.hid (show R'.length = N.R.length by
        have h2 : N.H.length = R'.length := hW3.hr
        rw [← h2]
        exact HHR.out)
      have HB3 := Lib.hid (HB.out.trans (Gby.below hg3 hwr (fun k hk => (HRk.out k hk).1)))
      have HM3 := Lib.hid (World.ownsRow.kept HM.out hg3 (by
        cases hv : u6.ownBlock with
        | none => exact .inl rfl
        | some k => exact .inr (fun e => by have h1 := (World.ownsRow.lt HM.out k hv).1; have h2 := (HRk.out k e.symm).2; omega)))
      have hs3 := hg3.size
      have HS3 := Lib.hid (Nat.le_trans hwr2 hs3)
      clear hN3 hW3 hg3 HSt HM HB HRk HS HL
      have hs23 := HS3.out
      have hwr3 := HB3.out.size
      have hml := HMl.out
      cases b with
      | false =>
        have HPf := Lib.hid (show greO N.H N.arcs F (ne - (i + 1)) (i + 1) R' M = some Mf by have := HPn.out; rw [if_neg (by decide)] at this; rw [show ne - (i + 1) = ne - i - 1 by omega]; exact this)
        have HMl2 := Lib.hid (show M.length ≤ i + 1 by omega)
        clear HPn HMl
        go_wp2_with fail
        go_roundw
        case rel => exact ⟨i + 1, R', M, _, rfl, by go_num, by omega, HPf, HL3, HN3, HW3, HM3, HMl2, HB3, HS3⟩
        case measure => simp [intOf]; omega
      | true =>
        have HPf := Lib.hid (show greO N.H N.arcs F (ne - (i + 1)) (i + 1) R' (M ++ [(i : Int)]) = some Mf by have := HPn.out; rw [if_pos rfl] at this; rw [show ne - (i + 1) = ne - i - 1 by omega]; exact this)
        have HMl2 := Lib.hid (show (M ++ [(i : Int)]).length ≤ i + 1 by rw [List.length_append]; simp; omega)
        have HMa := Lib.hid (World.ownsRow.alloc HM3.out (.cells #[.int .i64 (i : Int)] 3))
        have HMb := Lib.hid (fun k hk => (World.ownsRow.lt HM3.out k hk).1)
        clear HPn HMl HM3
        go_wp2_with (first | (at_builtin; refine wpList_append_evry _ rfl _ _ 22 rfl w2.heap.size 3 i0 (.int .i64 0) 1 8 Try.underlying22 hi0 hz0 hz1 hz2 rfl (by decide) _ _ _ rfl HMa.out (some ⟨w3.heap.size, 0, none⟩) 1 1 [.int .i64 (i : Int)] rfl ?qc1 ?qc2 ?qc3 ?qc4 ?qc5 ?qc6 ?qc7 ?_) | go_in)
        case qc1 => simp
        case qc2 => exact fun h => by cases h
        case qc3 =>
          intro ad ha jj u hu
          obtain rfl := Option.some.inj ha
          cases jj with
          | zero => simp at hu; subst hu; rw [Addr.add_lit]; simp [go_sem]
          | succ jj => simp at hu
        case qc4 => intro u hu; simp at hu; subst hu; rfl
        case qc5 => unfold maxLen; omega
        case qc6 => omega
        case qc7 => simp; omega
        intro v7 w7 hown hgrow
        have HM7 := Lib.hid (show OwI w7 w2.heap.size v7 (M ++ [(i : Int)]).length (M ++ [(i : Int)]) by
          have e : (M ++ [(i : Int)]).map (Value.int .i64) = M.map (Value.int .i64) ++ [.int .i64 (i : Int)] := by simp
          show w7.ownsRow _ _ _ _ _ ((M ++ [(i : Int)]).map (Value.int .i64))
          rw [e, List.length_append]
          exact hown)
        have hb7 : Below w2.heap.size w3 w7 := ((Below.refl w2.heap.size w3).alloc hs23 (.cells #[.int .i64 (i : Int)] 3)).grown hgrow (by simp; omega) HMb.out
        have HN7 := Lib.hid (HN3.out.low (HLt.out.room HL3.out) hb7)
        have HB7 := Lib.hid (HB3.out.trans (hb7.mono hs2))
        have HS7 := Lib.hid (Nat.le_trans hs23 hb7.size)
        clear hown hgrow hb7 HMa HMb HN3 HB3 HS3
        go_wp2_with fail
        go_roundw
        case rel => exact ⟨i + 1, R', _, _, rfl, by go_num, by omega, HPf, HL3, HN7, HW3, HM7, HMl2, HB7, HS7⟩
        case measure => simp [intOf]; omega
    · have hlz : ¬ (i : Int) < (ne : Int) := by omega
      have hin : i = ne := by omega
      have hMf : M = Mf := by
        have := HP.out
        rw [hin, Nat.sub_self] at this
        simpa [greO] using this
      have HMf := Lib.hid ((hMf ▸ HM.out : OwI wr w2.heap.size u6 Mf.length Mf).mono hs2)
      clear hin hMf HP
      go_wp2_with fail
      go_ret2
      exact ⟨_, rfl, HMf.out, HB.out⟩
end Go.Proofs.Ytpcdbnlljdfogaa
