/- The reference's Equal, of two lists that are the same, offsets and all. -/
import Derived.Test.YtohalocbghhenaaGreatDoorWf
set_option linter.unusedSimpArgs false
set_option linter.unusedVariables false
namespace Go.Proofs.YtohalocbghhenaaGreatDoor
open Go.RowKit

theorem undrew {W w1 : World} (h : Below W.drew.heap.size W.drew w1) : Below W.heap.size W w1 := ⟨h.os, h.tape, h.output, h.size, h.block⟩
def EqC (n : Nat) : Prop := ∀ (c : Cls), c.count < n → ∀ (w : World) (F G : Nat → Prop) (a a' : Option Addr) (b o cap b' o' cap' : Nat), SlC w F a b o c.len cap c → SlC w G a' b' o' c.len cap' c →
    Calls Tryz.prog 51 #[.slice a c.len cap, .slice a' c.len cap', .bool true] w fun e w' => e = .returned (.bool true) ∧ Below w.heap.size w w'
set_option maxHeartbeats 8000000 in
set_option maxRecDepth 100000 in
theorem smr_any (n : Nat) (IH : Hid (EqC n)) (wd : ByteArray) (xs : List Tk) (bl : Bool) (k : Cls) (av : Int) (hk : k.count < n) (w : World) (F G : Nat → Prop) (aa ak aa' ak' : Option Addr) (ba oa la ca bk ok ck ba' oa' la' ca' bk' ok' ck' : Nat)
    (hx : SlT w aa ba oa la ca xs) (hc : SlC w F ak bk ok k.len ck k) (hx' : SlT w aa' ba' oa' la' ca' xs) (hc' : SlC w G ak' bk' ok' k.len ck' k) :
    Calls Tryz.prog 77 #[.agg #[.string wd, .slice aa la ca, .bool bl, .slice ak k.len ck, .int .i64 av], .agg #[.string wd, .slice aa' la' ca', .bool bl, .slice ak' k.len ck', .int .i64 av], .bool true] w fun e w' => e = .returned (.bool true) ∧ Below w.heap.size w w' := by
  have HS := Lib.hid (fun W (h : SlC W (fun x => F x ∧ x < w.heap.size) ak bk ok k.len ck k) (h' : SlC W (fun x => G x ∧ x < w.heap.size) ak' bk' ok' k.len ck' k) => IH.out k hk W _ _ _ _ _ _ _ _ _ _ h h')
  have HX := Lib.hid hx
  have HX' := Lib.hid hx'
  have HK := Lib.hid hc.here
  have HK' := Lib.hid hc'.here
  have hl := hx.hl
  have hl' := hx'.hl
  obtain rfl : la' = la := by omega
  have hm := hx.hmax
  have hcp := hx.hcap
  have hcp' := hx'.hcap
  unfold maxLen at hm
  clear hx hc hx' hc' IH
  have HB := Lib.hid (show Below w.heap.size w ((w.alloc (.cells #[.string wd, .slice aa la' ca, .bool bl, .slice ak k.len ck, .int .i64 av] 25)).alloc (.cells #[.string wd, .slice aa' la' ca', .bool bl, .slice ak' k.len ck', .int .i64 av] 25)) from (by repeat (first | with_reducible exact Below.refl _ _ | (with_reducible refine Below.setCell ?_ (by first | exact Nat.le_refl _ | omega | (simp; done) | (simp; omega)) _) | (with_reducible refine Below.alloc ?_ (by first | exact Nat.le_refl _ | omega | (simp; done) | (simp; omega)) _) | with_reducible refine Below.drew ?_ | with_reducible refine bel_drewN ?_ _ | (with_reducible refine bel_by (by with_reducible assumption) (by first | exact Nat.le_refl _ | omega | (simp; done) | (simp; omega)) ?_))))
  have HCA := Lib.hid ((cl_new w wd (.slice aa la' ca) (.slice ak k.len ck) bl av 25).keep ((Below.refl _ _).alloc (Nat.le_refl _) (.cells #[.string wd, .slice aa' la' ca', .bool bl, .slice ak' k.len ck', .int .i64 av] 25)))
  have HCB := Lib.hid (cl_new (w.alloc (.cells #[.string wd, .slice aa la' ca, .bool bl, .slice ak k.len ck, .int .i64 av] 25)) wd (.slice aa' la' ca') (.slice ak' k.len ck') bl av 25)
  simp only [World.size_alloc] at HCB
  have hsz : ((w.alloc (.cells #[.string wd, .slice aa la' ca, .bool bl, .slice ak k.len ck, .int .i64 av] 25)).alloc (.cells #[.string wd, .slice aa' la' ca', .bool bl, .slice ak' k.len ck', .int .i64 av] 25)).heap.size = w.heap.size + 1 + 1 := by simp
  go_enter Tryz.func77, Tryz.ntmps77
  go_wp2_with fail
  generalize (w.alloc (.cells #[.string wd, .slice aa la' ca, .bool bl, .slice ak k.len ck, .int .i64 av] 25)).alloc (.cells #[.string wd, .slice aa' la' ca', .bool bl, .slice ak' k.len ck', .int .i64 av] 25) = W at *
  go_loopw [7] (fun s7 wr => ∃ i : Nat, i ≤ la' ∧ s7 = .int .i64 (i : Int) ∧ Hid (Below W.heap.size W wr)) (fun s7 _ => (la' - (intOf s7)).toNat)
  case atStart => exact ⟨0, Nat.zero_le _, rfl, Lib.hid (Below.refl _ _)⟩
  case round =>
    obtain ⟨i, hi, rfl, HBW⟩ := hrel
    have hbs := HBW.out.size
    have HBr := Lib.hid (HB.out.trans (Below.mono HBW.out HB.out.size))
    obtain ⟨c0, c1, c2, c3, c4, cf, cl⟩ := HCA.out.low HBW.out (by omega)
    obtain ⟨d0, d1, d2, d3, d4, df, dl⟩ := HCB.out.low HBW.out (by omega)
    by_cases hlt : i < la'
    · have hlz : (i : Int) < (la' : Int) := by omega
      have hiL : i < xs.length := by omega
      have HXr := Lib.hid (HX.out.keep HBr.out)
      have HXr' := Lib.hid (HX'.out.keep HBr.out)
      obtain rfl := HXr.out.ha (by omega)
      obtain rfl := HXr'.out.ha (by omega)
      have bb := HXr.out.hb (by omega)
      have bb' := HXr'.out.hb (by omega)
      have p0 := HXr.out.c0 i hiL
      have p1 := HXr.out.c1 i hiL
      have p2 := HXr.out.c2 i hiL
      have p3 := HXr.out.c3 i hiL
      have q0 := HXr'.out.c0 i hiL
      have q1 := HXr'.out.c1 i hiL
      have q2 := HXr'.out.c2 i hiL
      have q3 := HXr'.out.c3 i hiL
      generalize xs[i]'hiL = x at *
      obtain ⟨xk, xt, xn, xa⟩ := x
      simp only at p0 p1 p2 p3 q0 q1 q2 q3
      have HB2 := Lib.hid (show Below W.heap.size W (((wr.alloc (.cells #[.int .i64 xk, .string xt, .int .i64 xn, .int .i64 xa] 51)).alloc (.cells #[.int .i64 xk, .string xt, .int .i64 xn, .int .i64 xa] 51))) from (HBW.out.alloc hbs _).alloc (by simp; omega) _)
      clear HXr HXr' HBr
      go_wp2_with fail
      go_region
      all_goals
        clear p0 p1 p2 p3 q0 q1 q2 q3
        have HBD := Lib.hid (HB2.out.trans (Below.mono ((Below.refl _ _).drew) HB2.out.size))
        go_wp2_with fail
        go_roundw
        case rel => exact ⟨i + 1, by omega, by go_num, HBD⟩
        case measure => simp [intOf]; omega
    · have hlz : ¬ (i : Int) < (la' : Int) := by omega
      obtain rfl : i = la' := by omega
      go_wp2_with fail
      refine (HS.out _ (HK.out.low (fun x hx => hx.2) HBr.out) (HK'.out.low (fun x hx => hx.2) HBr.out)).mono ?_
      rintro e w2 ⟨rfl, hb2⟩
      have HB2 := Lib.hid (HBr.out.trans (Below.mono hb2 HBr.out.size))
      clear hb2 c0 c1 c2 c3 c4 cf cl d0 d1 d2 d3 d4 df dl
      go_wp2_with fail
      go_ret
      exact ⟨rfl, HB2.out⟩
set_option maxHeartbeats 8000000 in
set_option maxRecDepth 100000 in
theorem eqs_any : ∀ n : Nat, n ≤ 4611686018427387904 → EqC n
  | 0, _ => fun _ h => absurd h (Nat.not_lt_zero _)
  | n + 1, hn => fun c hc w F G a a' b o cap b' o' cap' hA hA' => by
    have HG := Lib.hid (fun wd xs bl k av hk W aa ak aa' ak' ba oa la ca bk ok ck ba' oa' la' ca' bk' ok' ck' hx hc hx' hc' => smr_any n (Lib.hid (eqs_any n (by omega))) wd xs bl k av hk W (fun x => F x ∧ x < w.heap.size) (fun x => G x ∧ x < w.heap.size) aa ak aa' ak' ba oa la ca bk ok ck ba' oa' la' ca' bk' ok' ck' hx hc hx' hc')
    have HA := Lib.hid hA.here
    have HA' := Lib.hid hA'.here
    have HM := Lib.hid (fun i wd xs bl k a r => @drop_count c i wd xs bl k a r)
    have hlc : c.len ≤ 4611686018427387904 := by have := kidsN_le c 0; omega
    obtain ⟨N, hN⟩ : ∃ N, c.count = N := ⟨_, rfl⟩
    obtain ⟨l, hl⟩ : ∃ l, c.len = l := ⟨_, rfl⟩
    rw [hN] at HM hc
    rw [hl] at HA HA' hlc ⊢
    have HLN := Lib.hid hl
    clear hA hA' hN hl
    go_enter Tryz.func51, Tryz.ntmps51
    go_wp2_with fail
    go_loopw [7] (fun s7 wr => ∃ i : Nat, i ≤ l ∧ s7 = .int .i64 (i : Int) ∧ Hid (Below w.heap.size w wr)) (fun s7 _ => (l - (intOf s7)).toNat)
    case atStart => exact ⟨0, Nat.zero_le _, rfl, Lib.hid (Below.refl _ _)⟩
    case round =>
      obtain ⟨i, hi, rfl, HB⟩ := hrel
      by_cases hlt : i < l
      · have hlz : (i : Int) < (l : Int) := by omega
        have SA := HA.out.low (fun x hx => hx.2) HB.out
        have SA' := HA'.out.low (fun x hx => hx.2) HB.out
        obtain ⟨rfl, bb, _⟩ := SA.2.2.2.1 (by omega)
        obtain ⟨rfl, bbb, _⟩ := SA'.2.2.2.1 (by omega)
        obtain ⟨wd, xs, bl, kd, av, rest, aa, xb, oa, la, ca, ak, bk, ok, ck, hd, c0, c1, c2, c3, c4, SX, _, SK⟩ := AtC.get i (by rw [HLN.out]; exact hlt) SA.2.2.2.2
        obtain ⟨wd', xs', bl', kd', av', rest', aa', xb', oa', la', ca', ak', bk', ok', ck', hd', d0, d1, d2, d3, d4, SX', _, SK'⟩ := AtC.get i (by rw [HLN.out]; exact hlt) SA'.2.2.2.2
        rw [hd] at hd'
        simp only [Cls.cons.injEq] at hd'
        obtain ⟨rfl, rfl, rfl, rfl, rfl, rfl⟩ := hd'
        have hkc := HM.out _ _ _ _ _ _ _ hd
        have hbs := HB.out.size
        have HSX := Lib.hid SX
        have HSX' := Lib.hid SX'
        have HSK := Lib.hid SK
        have HSK' := Lib.hid SK'
        have HCC := Lib.hid (fun W (hb : Below wr.heap.size wr W) => HG.out wd xs bl kd av (by omega) W aa ak aa' ak' xb oa la ca bk ok ck xb' oa' la' ca' bk' ok' ck' (HSX.out.keep hb) (HSK.out.low (fun x hx => Nat.lt_of_lt_of_le hx.2 hbs) hb) (HSX'.out.keep hb) (HSK'.out.low (fun x hx => Nat.lt_of_lt_of_le hx.2 hbs) hb))
        generalize kd.len = y at *
        clear SA SA' SX SX' SK SK' hd HG HM HSX HSX' HSK HSK'
        have hBB : Below wr.heap.size wr wr := Below.refl _ _
        go_wp2_with fail
        go_cut [19, 20, 21, 22, 23, 24, 25, 26, 27, 28, 29] (fun s19 s20 s21 s22 s23 s24 s25 s26 s27 s28 s29 wx => s29 = .bool false ∧ Hid (Below wr.heap.size wr wx))
        case first =>
          go_region_held3 (fun w' => w'.cell? ⟨b, o + i * 5, none⟩ = some (.string wd) ∧ w'.cell? ⟨b, o + i * 5 + 1, none⟩ = some (.slice aa la ca) ∧ w'.cell? ⟨b, o + i * 5 + 2, none⟩ = some (.bool bl) ∧ w'.cell? ⟨b, o + i * 5 + 3, none⟩ = some (.slice ak y ck) ∧ w'.cell? ⟨b, o + i * 5 + 4, none⟩ = some (.int .i64 av) ∧ w'.cell? ⟨b', o' + i * 5, none⟩ = some (.string wd) ∧ w'.cell? ⟨b', o' + i * 5 + 1, none⟩ = some (.slice aa' la' ca') ∧ w'.cell? ⟨b', o' + i * 5 + 2, none⟩ = some (.bool bl) ∧ w'.cell? ⟨b', o' + i * 5 + 3, none⟩ = some (.slice ak' y ck') ∧ w'.cell? ⟨b', o' + i * 5 + 4, none⟩ = some (.int .i64 av))
            ((first | (simp [go_sem, c0, c1, c2, c3, c4, d0, d1, d2, d3, d4]; done)))
            (first
              | (go_at_call 77; (refine (HCC.out _ ?tab).mono ?_); (case tab => exact (by repeat (first | with_reducible exact Below.refl _ _ | (with_reducible refine Below.setCell ?_ (by first | exact Nat.le_refl _ | omega | (simp; done) | (simp; omega)) _) | (with_reducible refine Below.alloc ?_ (by first | exact Nat.le_refl _ | omega | (simp; done) | (simp; omega)) _) | with_reducible refine Below.drew ?_ | with_reducible refine bel_drewN ?_ _ | (with_reducible refine bel_by (by with_reducible assumption) (by first | exact Nat.le_refl _ | omega | (simp; done) | (simp; omega)) ?_)))); rintro e v1 ⟨rfl, hb⟩; (repeat (with_reducible replace hb := undrew hb)); have c0 := (hb.cell (p := ⟨b, o + i * 5, none⟩) bb).trans c0; have c1 := (hb.cell (p := ⟨b, o + i * 5 + 1, none⟩) bb).trans c1; have c2 := (hb.cell (p := ⟨b, o + i * 5 + 2, none⟩) bb).trans c2; have c3 := (hb.cell (p := ⟨b, o + i * 5 + 3, none⟩) bb).trans c3; have c4 := (hb.cell (p := ⟨b, o + i * 5 + 4, none⟩) bb).trans c4; have d0 := (hb.cell (p := ⟨b', o' + i * 5, none⟩) bbb).trans d0; have d1 := (hb.cell (p := ⟨b', o' + i * 5 + 1, none⟩) bbb).trans d1; have d2 := (hb.cell (p := ⟨b', o' + i * 5 + 2, none⟩) bbb).trans d2; have d3 := (hb.cell (p := ⟨b', o' + i * 5 + 3, none⟩) bbb).trans d3; have d4 := (hb.cell (p := ⟨b', o' + i * 5 + 4, none⟩) bbb).trans d4; have hBB := hBB.trans (Below.mono (B' := wr.heap.size) hb (by first | exact Nat.le_refl _ | exact hBB.size)); clear hb))
          all_goals
            go_wp2_with fail
            go_meet
            exact ⟨rfl, Lib.hid (by repeat (first | with_reducible exact Below.refl _ _ | (with_reducible refine Below.setCell ?_ (by first | exact Nat.le_refl _ | omega | (simp; done) | (simp; omega)) _) | (with_reducible refine Below.alloc ?_ (by first | exact Nat.le_refl _ | omega | (simp; done) | (simp; omega)) _) | with_reducible refine Below.drew ?_ | with_reducible refine bel_drewN ?_ _ | (with_reducible refine bel_by (by with_reducible assumption) (by first | exact Nat.le_refl _ | omega | (simp; done) | (simp; omega)) ?_)))⟩
        obtain ⟨rfl, HBC⟩ := hcut
        generalize wc = w1 at *
        have HB1 := Lib.hid (bel_by HBC.out (by omega) HB.out)
        clear c0 c1 c2 c3 c4 d0 d1 d2 d3 d4 HBC HCC hBB
        go_wp2_with fail
        go_roundw
        case rel => exact ⟨i + 1, by omega, by go_num, HB1⟩
        case measure => simp [intOf]; omega
      · have hlz : ¬ (i : Int) < (l : Int) := by omega
        obtain rfl : i = l := by omega
        go_wp2_with fail
        go_ret
        exact ⟨rfl, HB.out⟩
end Go.Proofs.YtohalocbghhenaaGreatDoor
