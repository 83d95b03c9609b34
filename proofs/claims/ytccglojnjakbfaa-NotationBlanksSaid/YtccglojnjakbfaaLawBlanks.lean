/- The law of NotationBlanks. -/
import Derived.Test.YtccglojnjakbfaaAwk
import Derived.Test.YtccglojnjakbfaaBlkP
import Derived.Test.YtccglojnjakbfaaSme
import Derived.Test.YtccglojnjakbfaaRhx
import Derived.Deep.RegionWith
set_option linter.unusedSimpArgs false
set_option linter.unusedVariables false
namespace Go.Proofs.Ytccglojnjakbfaa
open Go.RowKit

theorem small_fitB {L : List It} (h : smB L = true) : fitC L := fun k hk => by have := (smB_fit h).2 k hk; omega
theorem u64_ge (x : Int) : 0 ≤ IntKind.u64.wrap x := by
  simp [IntKind.wrap, IntKind.bits, IntKind.signed]; omega
theorem prt_pos {L : List It} (h : chkL L = 0) (hne : L ≠ []) : 0 < (prtS L).length := by
  obtain ⟨x, t, rfl⟩ := List.exists_cons_of_ne_nil hne
  have hx := ok_of_err (chk_zero h).1 x (by simp)
  have := List.length_pos_iff.2 (okI_ne hx)
  rw [prtS]
  simp only [List.length_append]
  omega
theorem place_at (at_ : Int) (n : Nat) (h0 : 0 < n) (h1 : n ≤ 1000) :
    ∃ u kN : Nat, IntKind.u64.wrap at_ = (u : Int) ∧ IntKind.u64.wrap (n : Int) = (n : Int) ∧ kN < n ∧ wrap64 ((u : Int) % (n : Int)) = (kN : Int) ∧ IntKind.i64.wrap ((u : Int) % (n : Int)) = (kN : Int) := by
  have hkl : (IntKind.u64.wrap at_).toNat % n < n := Nat.mod_lt _ h0
  refine ⟨(IntKind.u64.wrap at_).toNat, (IntKind.u64.wrap at_).toNat % n, by have := u64_ge at_; omega, IntWalk.u64_in _ (by omega), hkl, ?_, ?_⟩
  · rw [show (((IntKind.u64.wrap at_).toNat : Int) % (n : Int)) = (((IntKind.u64.wrap at_).toNat % n : Nat) : Int) from (Int.natCast_emod _ n).symm]
    exact IntWalk.wrap64_in _ (by omega)
  · rw [show (((IntKind.u64.wrap at_).toNat : Int) % (n : Int)) = (((IntKind.u64.wrap at_).toNat % n : Nat) : Int) from (Int.natCast_emod _ n).symm]
    exact IntWalk.i64_in _ (by omega)
theorem ext_take (T : ByteArray) (k : Nat) : (T.extract 0 k).data.toList = T.data.toList.take k := by
  rw [ByteArray.data_extract]; simp
theorem ext_drop (T : ByteArray) (k : Nat) : (T.extract k T.size).data.toList = T.data.toList.drop k := by
  rw [ByteArray.data_extract, Array.toList_extract]; show List.take _ _ = _; rw [List.take_of_length_le]; rw [List.length_drop, list_size]; exact Nat.le_refl _
theorem ext_size' (T : ByteArray) (k : Nat) (h : k ≤ T.size) (h1 : T.size ≤ 1000) : (T.extract 0 k ++ ⟨#[32]⟩ ++ T.extract k T.size).size ≤ 1000000 := by
  rw [ByteArray.size_append, ByteArray.size_append, ByteArray.size_extract, ByteArray.size_extract]
  show _ + 1 + _ ≤ _
  omega
theorem ext_size (T : ByteArray) (k : Nat) (h : k < T.size) (h1 : T.size ≤ 1000) : (T.extract 0 k ++ ⟨#[32]⟩ ++ T.extract k T.size).size ≤ 1000000 := ext_size' T k (Nat.le_of_lt h) h1
theorem FtAt.drew {w : World} {b : Nat} {c a : Int} (h : FtAt w b c a) : FtAt w.drew b c a := ⟨h.c0, h.c1, h.f, h.lt⟩
/-- what a reading leaves, wherever its fault was made -/
def BkR (w3 : World) (v : Value) (n : Nat) (L : List It) (x y : Int) (g : Nat) (wx : World) : Prop :=
  FtAt wx g x y ∧ (∃ a b c, v = .slice a n c ∧ SlX wx a b 0 n c L) ∧ Below w3.heap.size w3 wx
theorem slx_own3 {w : World} {base e : Nat} {v : Value} {L : List It} (h : w.ownsRow base e 5 v L.length (flatX L)) : ∃ a b c, v = .slice a L.length c ∧ SlX w a b 0 L.length c L := by
  obtain ⟨a, b, c, h1, h2, _⟩ := slx_own h
  exact ⟨a, b, c, h1, h2⟩
theorem FtAt.put {w : World} {b : Nat} {c a : Int} (h : FtAt w b c a) (x y : Int) : FtAt ((w.setCell ⟨b, 0, none⟩ (.int .i64 x)).setCell ⟨b, 1, none⟩ (.int .i64 y)) b x y := by
  obtain ⟨h0, h1, hf, hl⟩ := h
  refine ⟨?_, ?_, fun k => by rw [World.frozen?_setCell, World.frozen?_setCell]; exact hf k, by simp; exact hl⟩
  · rw [World.cell?_setCell_other _ _ _ _ (by simp)]; exact World.cell?_setCell_same _ _ _ h0
  · exact World.cell?_setCell_same _ _ _ (by rw [World.cell?_setCell_other _ _ _ _ (by simp)]; exact h1)
theorem cut_a {w3 w4 : World} {v : Value} {L : List It} {T : TypeId} {E n : Nat} (hn : L.length = n) (ho : w4.ownsRow w3.drew.heap.size E 5 v L.length (flatX L)) (hb : Below w3.drew.heap.size w3.drew w4) (x y : Int) :
    BkR w3 v n L x y w4.heap.size (w4.alloc (.cells #[.int .i64 x, .int .i64 y] T)) := by
  subst hn
  have hb' := undrewP hb
  exact ⟨ft_new w4 x y T, slx_own3 (ho.alloc _), hb'.alloc hb'.size _⟩
theorem cut_b {w3 w4 : World} {v : Value} {L : List It} {T : TypeId} {E n : Nat} (hn : L.length = n) (ho : w4.ownsRow (w3.alloc (.cells #[.int .i64 0, .int .i64 0] T)).drew.heap.size E 5 v L.length (flatX L)) (hb : Below (w3.alloc (.cells #[.int .i64 0, .int .i64 0] T)).drew.heap.size (w3.alloc (.cells #[.int .i64 0, .int .i64 0] T)).drew w4) (x y : Int) :
    BkR w3 v n L x y w3.heap.size ((w4.setCell ⟨w3.heap.size, 0, none⟩ (.int .i64 x)).setCell ⟨w3.heap.size, 1, none⟩ (.int .i64 y)) := by
  subst hn
  have hb' := undrewP hb
  have hft := ((ft_new w3 0 0 T).keep hb').put x y
  have hsz : (w3.alloc (.cells #[.int .i64 0, .int .i64 0] T)).drew.heap.size = w3.heap.size + 1 := by show (w3.alloc _).heap.size = _; simp
  have hlow : Below w3.heap.size w3 w4 := ((Below.refl w3.heap.size w3).alloc (Nat.le_refl _) (.cells #[.int .i64 0, .int .i64 0] T)).trans (hb'.mono (by simp))
  have far : ∀ k, v.ownBlock = some k → k ≠ w3.heap.size := fun k hk e => by have := (ho.lt k hk).1; omega
  refine ⟨hft, slx_own3 (own_far (own_far ho ⟨w3.heap.size, 0, none⟩ far _) ⟨w3.heap.size, 1, none⟩ far _), ?_⟩
  exact (hlow.setCell (p := ⟨w3.heap.size, 0, none⟩) (Nat.le_refl _) _).setCell (p := ⟨w3.heap.size, 1, none⟩) (Nat.le_refl _) _
set_option maxHeartbeats 4000000 in
set_option maxRecDepth 100000 in
theorem law_blanks (w : World) {a : Option Addr} {b off len cap : Nat} {L : List It} (h : SlX w a b off len cap L) (at_ : Int) (hat : -9223372036854775808 ≤ at_ ∧ at_ ≤ 9223372036854775807) :
    Calls Try.prog 9 #[.slice a len cap, .int .i64 at_] w fun e w' => e = .returned (.bool true) ∧ Below w.heap.size w w' := by
  have HA := Lib.hid (awake_any w)
  have HS := Lib.hid h
  have hl0 := h.hl
  have HM := Lib.hid (fun W (hW : SlX W a b off len cap L) => small_any hW)
  clear h
  cases hsm : smB L with
  | false =>
    rw [hsm] at HM
    clear hsm
    go_enter Try.func9, Try.ntmps9
    go_wp2_with fail
    refine HA.out.mono ?_
    rintro e w1 ⟨rfl, hb1⟩
    have HM1 := Lib.hid (HM.out _ (HS.out.keep hb1))
    have HB1 := Lib.hid hb1
    clear hb1
    go_wp2_with fail
    refine HM1.out.mono ?_
    rintro e w1' ⟨rfl, rfl⟩
    go_wp2_with fail
    go_ret
    exact ⟨rfl, HB1.out⟩
  | true =>
    have hfit := small_fitB hsm
    have hl60 := (smB_fit hsm).1
    have HK := Lib.hid (fun W (hW : SlX W a b off len cap L) => check_any hW hfit)
    have HP := Lib.hid (fun W (hW : SlX W a b off len cap L) => print_any hW hfit)
    unfold PrtPost at HP
    rw [hsm] at HM
    clear hsm hfit
    by_cases hz : len = 0
    · have q0 : ((len : Int) == 0) = true := by simp [hz]
      subst hz
      go_enter Try.func9, Try.ntmps9
      go_wp2_with fail
      refine HA.out.mono ?_
      rintro e w1 ⟨rfl, hb1⟩
      have HM1 := Lib.hid (HM.out _ (HS.out.keep hb1))
      have HB1 := Lib.hid hb1
      clear hb1
      go_wp2_with fail
      refine HM1.out.mono ?_
      rintro e w1' ⟨rfl, rfl⟩
      go_wp2_with fail
      go_ret
      exact ⟨rfl, HB1.out⟩
    · have q0 : ((len : Int) == 0) = false := by simp; omega
      by_cases h0 : chkL L = 0
      · have hne : L ≠ [] := by rintro rfl; simp at hl0; omega
        have hsz := prt_len h0
        have hsp := prt_pos h0 hne
        have HQA := Lib.hid (blk_around h0 hne)
        have HQI := Lib.hid (fun k c => blk_in h0 (k := k) (c := c))
        have HCK := Lib.hid (show chkL L = 0 from h0)
        rw [h0] at HP HK
        rw [if_pos rfl] at HP
        obtain ⟨T, hT⟩ : ∃ T, bs (prtS L) = T := ⟨_, rfl⟩
        have hTs : T.size = (prtS L).length := by rw [← hT, bs_size]
        have hTd : prtS L = T.data.toList := by rw [← hT, bs_data]
        have HTD := Lib.hid hTd
        rw [hTd] at HQA HQI
        obtain ⟨n, hn⟩ : ∃ n, T.size = n := ⟨_, rfl⟩
        rw [hT] at HP
        rw [← hTs, hn] at hsz hsp
        have HN := Lib.hid hn
        obtain ⟨u, kN, hu, Hnu, hkl, Hkw, Hkw2⟩ := place_at at_ n hsp hsz
        rw [← hn] at hkl Hnu Hkw Hkw2 hsz hsp
        have hnz : ¬ (T.size : Int) = 0 := by omega
        clear hTs hTd hT h0 hn HN
        go_enter Try.func9, Try.ntmps9
        go_wp2_with fail
        refine HA.out.mono ?_
        rintro e w1 ⟨rfl, hb1⟩
        have HS1 := Lib.hid (HS.out.keep hb1)
        have HM1 := Lib.hid (HM.out _ HS1.out)
        have HK1 := Lib.hid (HK.out _ HS1.out)
        have HB1 := Lib.hid hb1
        clear hb1 HM HK HA HS
        go_wp2_with fail
        refine HM1.out.mono ?_
        rintro e w1' ⟨rfl, rfl⟩
        clear HM1
        go_wp2_with fail
        refine HK1.out.mono ?_
        rintro e w2 ⟨rfl, hb2⟩
        have HS2 := Lib.hid (HS1.out.keep hb2)
        have HP2 := Lib.hid (HP.out _ HS2.out)
        have HB2 := Lib.hid (HB1.out.trans (hb2.mono HB1.out.size))
        clear hb2 HP HK1 HS1 HB1
        go_wp2_with fail
        refine HP2.out.mono ?_
        rintro e w3 ⟨rfl, hb3⟩
        have HS3 := Lib.hid (HS2.out.keep hb3)
        have HB3 := Lib.hid (HB2.out.trans (hb3.mono HB2.out.size))
        clear hb3 HP2 HS2 HB2
        go_wp2_with fail
        clear hu Hnu Hkw Hkw2 hnz
        go_loop [7] (fun s7 => ∃ k : Nat, k ≤ T.size ∧ s7 = .int .i64 (k : Int)) (fun s7 => (T.size - (intOf s7)).toNat)
        case atStart => exact ⟨kN, by omega, rfl⟩
        case round =>
          obtain ⟨k, hk, rfl⟩ := hrel
          by_cases hlt : k < T.size
          · have hl : (k : Int) < (T.size : Int) := by omega
            have g1 : decide ((k : Int) < (T.size : Int)) = true := decide_eq_true hl
            obtain ⟨c, hc⟩ : ∃ c, T[k]'hlt = c := ⟨_, rfl⟩
            have HC := Lib.hid hc
            by_cases h32 : c = 32
            · -- a blank
              subst h32
              have e1 : (((T[k]'hlt).toNat : Int) != 32) = false := by rw [hc]; rfl
              have e2 : (((T[k]'hlt).toNat : Int) != 43) = true := by rw [hc]; rfl
              have e3 : (((T[k]'hlt).toNat : Int) == 43) = false := by rw [hc]; rfl
              have hget : T.data.toList[k]? = some 32 := by rw [list_get T k hlt, hc]
              obtain ⟨p4, p5⟩ := HQI.out k 32 hget (by decide)
              rw [if_neg (by decide)] at p4 p5
              have hx1 : (T.extract 0 k ++ ⟨#[32]⟩ ++ T.extract k T.size).data.toList = T.data.toList.take k ++ [32] ++ T.data.toList.drop k := by
                rw [ByteArray.data_append, ByteArray.data_append, Array.toList_append, Array.toList_append, ext_take, ext_drop]
              have hx2 : (T.extract 0 (k + 1) ++ ⟨#[32]⟩ ++ T.extract (k + 1) T.size).data.toList = T.data.toList.take (k + 1) ++ [32] ++ T.data.toList.drop (k + 1) := by
                rw [ByteArray.data_append, ByteArray.data_append, Array.toList_append, Array.toList_append, ext_take, ext_drop]
              rw [← hx1] at p4
              rw [← hx2] at p5
              have HQ4 := Lib.hid (fun W => parse_any (T.extract 0 k ++ ⟨#[32]⟩ ++ T.extract k T.size) (ext_size T k hlt hsz) W)
              have HQ5 := Lib.hid (fun W => parse_any (T.extract 0 (k + 1) ++ ⟨#[32]⟩ ++ T.extract (k + 1) T.size) (ext_size' T (k + 1) hlt hsz) W)
              rw [p4] at HQ4
              rw [p5] at HQ5
              unfold ParPost fV at HQ4 HQ5
              simp only [List.length_nil] at HQ4 HQ5
              have kw : IntKind.i64.wrap ((k : Int) + 1) = (k : Int) + 1 := IntWalk.i64_in _ (by omega)
              have b0 : 0 ≤ (k : Int) := by omega
              have b1 : (k : Int) ≤ (T.size : Int) := by omega
              have b2 : 0 ≤ (k : Int) + 1 := by omega
              have b3 : (k : Int) + 1 ≤ (T.size : Int) := by omega
              have hkn : ((k : Int) == (T.size : Int)) = false := by simp; omega
              clear hc HC HQA HQI p4 p5 hx1 hx2 hget
              go_upto_region 14 with fail
              go_cut [10, 11] (fun s10 s11 wx => ∃ (v : Value) (g : Nat), s10 = v ∧ s11 = .pointer (some ⟨g, 0, none⟩) ∧ BkR w3 v len L 0 0 g wx)
              case first =>
                go_region_with (go_at_call 11; first | (refine (HQ4.out w3.drew).mono ?_; rintro e w4 ⟨v4, rfl, ho4, hb4⟩) | (refine (HQ4.out (w3.alloc (.cells #[.int .i64 0, .int .i64 0] 26)).drew).mono ?_; rintro e w4 ⟨v4, rfl, ho4, hb4⟩; obtain ⟨f0, f1, ff, fl⟩ := (FtAt.drew (ft_new w3 0 0 26)).keep hb4))
                all_goals
                  go_wp2_with fail
                  go_meet
                  first
                    | exact ⟨v4, _, rfl, rfl, cut_a hl0 ho4 hb4 _ _⟩
                    | exact ⟨v4, _, rfl, rfl, cut_b hl0 ho4 hb4 _ _⟩
              case rest =>
                obtain ⟨v4, g4, rfl, rfl, hf4, ⟨a4, b4, c4, rfl, sl4⟩, hb4⟩ := hcut
                have HF4 := Lib.hid hf4
                have HX4 := Lib.hid sl4
                have HS4 := Lib.hid (HS3.out.keep hb4)
                have HB4 := Lib.hid (HB3.out.trans (hb4.mono HB3.out.size))
                clear hf4 sl4 hb4 HS3 HB3 HQ4
                generalize wc = wd at *
                go_upto_region 15 with fail
                go_cut [12, 13] (fun s12 s13 wx => ∃ (v : Value) (g : Nat), s12 = v ∧ s13 = .pointer (some ⟨g, 0, none⟩) ∧ BkR wd v len L 0 0 g wx)
                case first =>
                  go_region_with (go_at_call 11; first | (refine (HQ5.out wd.drew).mono ?_; rintro e w5 ⟨v5, rfl, ho5, hb5⟩) | (refine (HQ5.out (wd.alloc (.cells #[.int .i64 0, .int .i64 0] 26)).drew).mono ?_; rintro e w5 ⟨v5, rfl, ho5, hb5⟩; obtain ⟨f0, f1, ff, fl⟩ := (FtAt.drew (ft_new wd 0 0 26)).keep hb5))
                  all_goals
                    go_wp2_with fail
                    go_meet
                    first
                      | exact ⟨v5, _, rfl, rfl, cut_a hl0 ho5 hb5 _ _⟩
                      | exact ⟨v5, _, rfl, rfl, cut_b hl0 ho5 hb5 _ _⟩
                case rest =>
                  obtain ⟨v5, g5, rfl, rfl, hf5, ⟨a5, b5, c5, rfl, sl5⟩, hb5⟩ := hcut
                  generalize wc = we at *
                  have HF5 := Lib.hid hf5
                  have HF6 := Lib.hid (HF4.out.keep hb5)
                  have HX5 := Lib.hid sl5
                  have HX6 := Lib.hid (HX4.out.keep hb5)
                  have HS5 := Lib.hid (HS4.out.keep hb5)
                  have HB5 := Lib.hid (HB4.out.trans (hb5.mono HB4.out.size))
                  clear hf5 sl5 hb5 HS4 HB4 HQ5 HX4 HF4
                  obtain ⟨p0, p1, pf, pl⟩ := HF6.out
                  obtain ⟨r0, r1, rf, rl⟩ := HF5.out
                  have HM5 := Lib.hid (same_any HX6.out HS5.out)
                  have HM6 := Lib.hid (fun W (h : Below we.heap.size we W) => same_any (HX5.out.keep h) (HS5.out.keep h))
                  rw [decide_eq_true rfl] at HM5 HM6
                  clear HX5 HX6 HS5 HF5 HF6
                  go_wp2_with fail
                  refine HM5.out.mono ?_
                  rintro e w6 ⟨rfl, hb6⟩
                  have HM7 := Lib.hid (HM6.out _ hb6)
                  have HB6 := Lib.hid (HB5.out.trans (hb6.mono HB5.out.size))
                  clear hb6 HM5 HM6 HB5 p0 p1 pf pl r0 r1 rf rl
                  go_wp2_with fail
                  refine HM7.out.mono ?_
                  rintro e w7 ⟨rfl, hb7⟩
                  have HB7 := Lib.hid (HB6.out.trans (hb7.mono HB6.out.size))
                  go_wp2_with fail
                  go_ret
                  exact ⟨by first | rfl | simp, HB7.out⟩
            · by_cases h43 : c = 43
              · -- a plus
                subst h43
                have e1 : (((T[k]'hlt).toNat : Int) != 32) = true := by rw [hc]; rfl
                have e2 : (((T[k]'hlt).toNat : Int) != 43) = false := by rw [hc]; rfl
                have e3 : (((T[k]'hlt).toNat : Int) == 43) = true := by rw [hc]; rfl
                have hget : T.data.toList[k]? = some 43 := by rw [list_get T k hlt, hc]
                obtain ⟨p4, p5⟩ := HQI.out k 43 hget (by decide)
                rw [if_pos rfl] at p4 p5
                rw [show ((k + 1 : Nat) : Int) = (k : Int) + 1 from rfl] at p4 p5
                have hx1 : (T.extract 0 k ++ ⟨#[32]⟩ ++ T.extract k T.size).data.toList = T.data.toList.take k ++ [32] ++ T.data.toList.drop k := by
                  rw [ByteArray.data_append, ByteArray.data_append, Array.toList_append, Array.toList_append, ext_take, ext_drop]
                have hx2 : (T.extract 0 (k + 1) ++ ⟨#[32]⟩ ++ T.extract (k + 1) T.size).data.toList = T.data.toList.take (k + 1) ++ [32] ++ T.data.toList.drop (k + 1) := by
                  rw [ByteArray.data_append, ByteArray.data_append, Array.toList_append, Array.toList_append, ext_take, ext_drop]
                rw [← hx1] at p4
                rw [← hx2] at p5
                have HQ4 := Lib.hid (fun W => parse_any (T.extract 0 k ++ ⟨#[32]⟩ ++ T.extract k T.size) (ext_size T k hlt hsz) W)
                have HQ5 := Lib.hid (fun W => parse_any (T.extract 0 (k + 1) ++ ⟨#[32]⟩ ++ T.extract (k + 1) T.size) (ext_size' T (k + 1) hlt hsz) W)
                rw [p4] at HQ4
                rw [p5] at HQ5
                unfold ParPost fV at HQ4 HQ5
                simp only [List.length_nil] at HQ4 HQ5
                have kw : IntKind.i64.wrap ((k : Int) + 1) = (k : Int) + 1 := IntWalk.i64_in _ (by omega)
                have b0 : 0 ≤ (k : Int) := by omega
                have b1 : (k : Int) ≤ (T.size : Int) := by omega
                have b2 : 0 ≤ (k : Int) + 1 := by omega
                have b3 : (k : Int) + 1 ≤ (T.size : Int) := by omega
                have hkn : ((k : Int) == (T.size : Int)) = false := by simp; omega
                clear hc HC HQA HQI p4 p5 hx1 hx2 hget
                go_upto_region 14 with fail
                go_cut [10, 11] (fun s10 s11 wx => ∃ (v : Value) (g : Nat), s10 = v ∧ s11 = .pointer (some ⟨g, 0, none⟩) ∧ BkR w3 v 0 [] 2 ((k : Int) + 1) g wx)
                case first =>
                  go_region_with (go_at_call 11; first | (refine (HQ4.out w3.drew).mono ?_; rintro e w4 ⟨v4, rfl, ho4, hb4⟩) | (refine (HQ4.out (w3.alloc (.cells #[.int .i64 0, .int .i64 0] 26)).drew).mono ?_; rintro e w4 ⟨v4, rfl, ho4, hb4⟩; obtain ⟨f0, f1, ff, fl⟩ := (FtAt.drew (ft_new w3 0 0 26)).keep hb4))
                  all_goals
                    go_wp2_with fail
                    go_meet
                    first
                      | exact ⟨v4, _, rfl, rfl, cut_a (by rfl) ho4 hb4 _ _⟩
                      | exact ⟨v4, _, rfl, rfl, cut_b (by rfl) ho4 hb4 _ _⟩
                case rest =>
                  obtain ⟨v4, g4, rfl, rfl, hf4, ⟨a4, b4, c4, rfl, sl4⟩, hb4⟩ := hcut
                  have HF4 := Lib.hid hf4
                  have HX4 := Lib.hid sl4
                  have HS4 := Lib.hid (HS3.out.keep hb4)
                  have HB4 := Lib.hid (HB3.out.trans (hb4.mono HB3.out.size))
                  clear hf4 sl4 hb4 HS3 HB3 HQ4
                  generalize wc = wd at *
                  go_upto_region 15 with fail
                  go_cut [12, 13] (fun s12 s13 wx => ∃ (v : Value) (g : Nat), s12 = v ∧ s13 = .pointer (some ⟨g, 0, none⟩) ∧ BkR wd v 0 [] 2 ((k : Int) + 1) g wx)
                  case first =>
                    go_region_with (go_at_call 11; first | (refine (HQ5.out wd.drew).mono ?_; rintro e w5 ⟨v5, rfl, ho5, hb5⟩) | (refine (HQ5.out (wd.alloc (.cells #[.int .i64 0, .int .i64 0] 26)).drew).mono ?_; rintro e w5 ⟨v5, rfl, ho5, hb5⟩; obtain ⟨f0, f1, ff, fl⟩ := (FtAt.drew (ft_new wd 0 0 26)).keep hb5))
                    all_goals
                      go_wp2_with fail
                      go_meet
                      first
                        | exact ⟨v5, _, rfl, rfl, cut_a (by rfl) ho5 hb5 _ _⟩
                        | exact ⟨v5, _, rfl, rfl, cut_b (by rfl) ho5 hb5 _ _⟩
                  case rest =>
                    obtain ⟨v5, g5, rfl, rfl, hf5, ⟨a5, b5, c5, rfl, sl5⟩, hb5⟩ := hcut
                    generalize wc = we at *
                    have HF5 := Lib.hid hf5
                    have HF6 := Lib.hid (HF4.out.keep hb5)
                    have HX5 := Lib.hid sl5
                    have HX6 := Lib.hid (HX4.out.keep hb5)
                    have HS5 := Lib.hid (HS4.out.keep hb5)
                    have HB5 := Lib.hid (HB4.out.trans (hb5.mono HB4.out.size))
                    clear hf5 sl5 hb5 HS4 HB4 HQ5 HX4 HF4
                    obtain ⟨p0, p1, pf, pl⟩ := HF6.out
                    obtain ⟨r0, r1, rf, rl⟩ := HF5.out
                    have kq : ((k : Int) + 1 == (k : Int) + 1) = true := by simp
                    clear HX5 HX6 HS5 HF5 HF6
                    go_wp2_with fail
                    go_ret
                    exact ⟨by first | rfl | simp, HB5.out⟩
              · have e1 : (((T[k]'hlt).toNat : Int) != 32) = true := by
                  rw [hc]; simp; intro e; apply h32; apply UInt8.toNat_inj.1; exact Int.ofNat_inj.1 e
                have e2 : (((T[k]'hlt).toNat : Int) != 43) = true := by
                  rw [hc]; simp; intro e; apply h43; apply UInt8.toNat_inj.1; exact Int.ofNat_inj.1 e
                clear hc h32 h43
                go_wp2_with fail
                go_round
                case rel => exact ⟨k + 1, by omega, by go_num⟩
                case measure => simp [intOf]; omega
          · obtain rfl : k = T.size := by omega
            have hl : ¬ (T.size : Int) < (T.size : Int) := by omega
            clear HQI
            have HQR := Lib.hid (fun W => parse_any (⟨#[32, 32]⟩ ++ T ++ ⟨#[32]⟩) (by rw [ByteArray.size_append, ByteArray.size_append]; show 2 + T.size + 1 ≤ _; omega) W)
            rw [show (⟨#[32, 32]⟩ ++ T ++ ⟨#[32]⟩ : ByteArray).data.toList = [32, 32] ++ T.data.toList ++ [32] by rw [ByteArray.data_append, ByteArray.data_append, Array.toList_append, Array.toList_append], HQA.out] at HQR
            unfold ParPost fV at HQR
            simp only at HQR
            clear HQA
            go_wp2_with fail
            refine (HQR.out _).mono ?_
            rintro e w4 ⟨v, rfl, ho, hb4⟩
            obtain ⟨a4, b4, c4, rfl, sl4, _⟩ := slx_own ho
            have HB4 := Lib.hid (show Below w.heap.size w (w4.alloc (.cells #[.int .i64 0, .int .i64 0] 26)) from (HB3.out.trans (hb4.mono HB3.out.size)).alloc (Nat.le_trans HB3.out.size hb4.size) _)
            have HS4 := Lib.hid (sl4.keep ((Below.refl _ _).alloc (Nat.le_refl _) (.cells #[.int .i64 0, .int .i64 0] 26)))
            have HS5 := Lib.hid ((HS3.out.keep hb4).keep ((Below.refl _ _).alloc (Nat.le_refl _) (.cells #[.int .i64 0, .int .i64 0] 26)))
            have HSM := Lib.hid (same_any HS4.out HS5.out)
            rw [decide_eq_true rfl, hl0] at HSM
            clear ho hb4 sl4 HQR HS4 HS5
            go_wp2_with fail
            refine HSM.out.mono ?_
            rintro e w5 ⟨rfl, hb5⟩
            have HB5 := Lib.hid (HB4.out.trans (hb5.mono HB4.out.size))
            go_wp2_with fail
            go_ret
            exact ⟨by first | rfl | simp, HB5.out⟩
      · have k1 : (chkL L != 0) = true := by simpa using h0
        clear h0
        go_enter Try.func9, Try.ntmps9
        go_wp2_with fail
        refine HA.out.mono ?_
        rintro e w1 ⟨rfl, hb1⟩
        have HS1 := Lib.hid (HS.out.keep hb1)
        have HM1 := Lib.hid (HM.out _ HS1.out)
        have HK1 := Lib.hid (HK.out _ HS1.out)
        have HB1 := Lib.hid hb1
        clear hb1 HM HK HA HS
        go_wp2_with fail
        refine HM1.out.mono ?_
        rintro e w1' ⟨rfl, rfl⟩
        clear HM1
        go_wp2_with fail
        refine HK1.out.mono ?_
        rintro e w2 ⟨rfl, hb2⟩
        have HB2 := Lib.hid (HB1.out.trans (hb2.mono HB1.out.size))
        go_wp2_with fail
        go_ret
        exact ⟨by first | rfl | simp, HB2.out⟩
end Go.Proofs.Ytccglojnjakbfaa
