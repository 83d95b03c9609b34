/- The law of NotationChains. -/
import Derived.Test.YtccglojnjakbfaaAwk
import Derived.Test.YtccglojnjakbfaaRcs
import Derived.Test.YtccglojnjakbfaaSpt
import Derived.Test.YtccglojnjakbfaaSme
import Derived.Test.YtccglojnjakbfaaRhx
set_option linter.unusedSimpArgs false
set_option linter.unusedVariables false
namespace Go.Proofs.Ytccglojnjakbfaa
open Go.RowKit

theorem sizeI (w : World) : (Go.sizeOf 3).run Try.prog w = .ok 1 w := by kernel_rfl
theorem part0 (w : World) (x y : Int) : (part 3 #[.int .i64 x, .int .i64 y] 0).run Try.prog w = .ok (.int .i64 x) w := by kernel_rfl
theorem part1 (w : World) (x y : Int) : (part 3 #[.int .i64 x, .int .i64 y] 1).run Try.prog w = .ok (.int .i64 y) w := by kernel_rfl
theorem run_eqPair (w : World) (a b c d : Int) : (Op.equalIn 10000 42 (.agg #[.int .i64 a, .int .i64 b]) (.agg #[.int .i64 c, .int .i64 d])).run Try.prog w = .ok (a == c && b == d) w := by
  have h1 : ∀ (x y : Int) W, (Op.equalIn 9999 3 (.int .i64 x) (.int .i64 y)).run Try.prog W = .ok (x == y) W := fun x y W => run_equalIn_int W 9998 3 .i64 .i64 x y Try.underlying3
  rw [Op.equalIn]
  have hr : List.range' 0 2 1 = [0, 1] := by decide
  simp only [Sem.run_bind, run_underlying Try.underlying42, Result.andThen_ok, sizeI, Std.Legacy.Range.forIn_eq_forIn_range', Std.Legacy.Range.size, Nat.sub_zero, Nat.add_sub_cancel, Nat.div_one, hr, List.forIn_cons, List.forIn_nil, Nat.mul_one, part0, part1, h1]
  cases h : a == c <;> cases h2 : b == d <;> simp [part1, h1, h2]
theorem small_fitC {L : List It} (h : smB L = true) : fitC L := fun k hk => by have := (smB_fit h).2 k hk; omega
theorem quietC {P : Program} {f : FuncId} {args : Array Value} {w : World} {n : Nat} {v : Value} (h : Calls P f args (w.drewN n) fun e w' => e = .returned v ∧ ∃ m, w' = (w.drewN n).drewN m) : Calls P f args (w.drewN n) fun e w'' => e = .returned v ∧ ∃ m, w'' = w.drewN m :=
  h.mono fun _ _ ⟨he, m, hm⟩ => ⟨he, n + m, by rw [hm, World.drewN_drewN]⟩
/-- a slice of slices of items, cell by cell -/
theorem owm_cells {w : World} {base : Nat} {v : Value} {M : List Lx} (h : OwM w base v M) :
    ∃ (a : Option Addr) (b cap : Nat), v = .slice a M.length cap ∧ (0 < M.length → a = some ⟨b, 0, none⟩ ∧ b < w.heap.size) ∧ ∀ (k : Nat) (hk : k < M.length), w.cell? ⟨b, k, none⟩ = some (M[k]'hk).val := by
  have hcell := h.o
  rcases h.o.2 with ⟨rfl, h0⟩ | ⟨g, cap, cur, rfl, hg, hb, h1, h2, h3, h4⟩
  · exact ⟨none, 0, 0, by rw [h0], fun h => by omega, fun k hk => by omega⟩
  · have hgs : g < w.heap.size := (Array.getElem?_eq_some_iff.1 hb).1
    refine ⟨_, g, cap, rfl, fun _ => ⟨rfl, hgs⟩, fun k hk => ?_⟩
    have e := hcell.cellAt k (by omega)
    rw [e, List.getElem?_map, List.getElem?_eq_getElem hk]
    rfl
set_option maxHeartbeats 4000000 in
set_option maxRecDepth 100000 in
theorem law_chains (w : World) {a : Option Addr} {b off len cap : Nat} {L : List It} (h : SlX w a b off len cap L) :
    Calls Try.prog 7 #[.slice a len cap] w fun e w' => e = .returned (.bool true) ∧ Below w.heap.size w w' := by
  have HA := Lib.hid (awake_any w)
  have HS := Lib.hid h
  have HM := Lib.hid (fun W (hW : SlX W a b off len cap L) => small_any hW)
  have hl0 := h.hl
  clear h
  cases hsm : smB L with
  | false =>
    rw [hsm] at HM
    clear hsm
    go_enter Try.func7, Try.ntmps7
    go_wp2_with fail
    refine HA.out.mono ?_
    rintro e w1 ⟨rfl, hb1⟩
    have HM1 := Lib.hid (HM.out _ (HS.out.keep hb1))
    have HB1 := Lib.hid hb1
    clear hb1
    go_wp2_with fail
    refine HM1.out.mono ?_
    rintro e w1' ⟨rfl, rfl⟩
    go_wp2_with fail
    go_ret
    exact ⟨rfl, HB1.out⟩
  | true =>
    have hl60 := (smB_fit hsm).1
    have HC := Lib.hid (fun W (hW : SlX W a b off len cap L) => rchains_any hW (by omega))
    have HD := Lib.hid (fun W (hW : SlX W a b off len cap L) => chains_any hW (by omega))
    have HT := Lib.hid (fun W (hW : SlX W a b off len cap L) => split_any hW (by omega))
    have HIN := Lib.hid (chnL_in L 0 0 (Nat.le_refl _))
    have hcl := chn_len L 0 0
    unfold ChsPost at HC HD
    unfold SptPost at HT
    rw [hsm] at HM
    generalize chnL 0 0 L = C at *
    clear hsm
    go_enter Try.func7, Try.ntmps7
    go_wp2_with fail
    refine HA.out.mono ?_
    rintro e w1 ⟨rfl, hb1⟩
    have HS1 := Lib.hid (HS.out.keep hb1)
    have HM1 := Lib.hid (HM.out _ HS1.out)
    have HC1 := Lib.hid (HC.out _ HS1.out)
    have HB1 := Lib.hid hb1
    clear hb1 HM HC HA HS
    go_wp2_with fail
    refine HM1.out.mono ?_
    rintro e w1' ⟨rfl, rfl⟩
    go_wp2_with fail
    refine HC1.out.mono ?_
    rintro e w2 ⟨v2, rfl, ho2, hb2⟩
    obtain ⟨a2, b2, c2, rfl, q2⟩ := slq_own ho2
    have HS2 := Lib.hid (HS1.out.keep hb2)
    have HQ2 := Lib.hid q2
    have HD2 := Lib.hid (HD.out _ HS2.out)
    have HB2 := Lib.hid (HB1.out.trans (hb2.mono HB1.out.size))
    clear ho2 q2 hb2 HM1 HC1 HS1 HB1 HD
    go_wp2_with fail
    refine HD2.out.mono ?_
    rintro e w3 ⟨v3, rfl, ho3, hb3⟩
    obtain ⟨a3, b3, c3, rfl, q3⟩ := slq_own ho3
    have HS3 := Lib.hid (HS2.out.keep hb3)
    have HQ3 := Lib.hid (HQ2.out.keep hb3)
    have HR3 := Lib.hid q3
    have HT3 := Lib.hid (HT.out _ HS3.out)
    have HB3 := Lib.hid (HB2.out.trans (hb3.mono HB2.out.size))
    clear ho3 q3 hb3 HS2 HQ2 HD2 HB2 HT
    go_wp2_with fail
    refine HT3.out.mono ?_
    rintro e w4 ⟨v4, M, rfl, hom, hME, hb4⟩
    obtain ⟨a4, b4, c4, rfl, hmb, hmc⟩ := owm_cells hom
    have hML : M.length = C.length := by
      have := congrArg List.length hME
      simpa using this
    have HS4 := Lib.hid (HS3.out.keep hb4)
    have HQ4 := Lib.hid (HQ3.out.keep hb4)
    have HR4 := Lib.hid (HR3.out.keep hb4)
    have HB4 := Lib.hid (HB3.out.trans (hb4.mono HB3.out.size))
    have HMB := Lib.hid hmb
    have HMC := Lib.hid hmc
    have HOK := Lib.hid hom.each
    have HME := Lib.hid hME
    have HML := Lib.hid hML
    rw [hML]
    clear hb4 hom hmb hmc hME hML HS3 HQ3 HR3 HB3 HT3
    go_wp2_with fail
    go_loopw [6] (fun s6 wr => ∃ k m : Nat, k ≤ C.length ∧ s6 = .int .i64 (k : Int) ∧ wr = w4.drewN m) (fun s6 _ => (C.length - (intOf s6)).toNat)
    case atStart => exact ⟨0, 0, Nat.zero_le _, rfl, rfl⟩
    case round =>
      obtain ⟨k, m, hk, rfl, hwr⟩ := hrel
      have HWR := Lib.hid hwr
      have HBW := Lib.hid (show Below w4.heap.size w4 wr by rw [hwr]; exact bel_drewN (Below.refl _ _) m)
      clear hwr
      by_cases hlt : k < C.length
      · have hl : (k : Int) < (C.length : Int) := by omega
        have hkM : k < M.length := by rw [HML.out]; exact hlt
        have HQ5 := HQ4.out.keep HBW.out
        have HR5 := HR4.out.keep HBW.out
        have HS5 := HS4.out.keep HBW.out
        obtain rfl := HQ5.ha (by omega)
        obtain rfl := HR5.ha (by omega)
        obtain ⟨rfl, sb4⟩ := HMB.out (by omega)
        have sb2 := HQ5.hb (by omega)
        have sb3 := HR5.hb (by omega)
        have q0 := HQ5.c0 k hlt
        have q1 := HQ5.c1 k hlt
        have p0 := HR5.c0 k hlt
        have p1 := HR5.c1 k hlt
        have r0 := (HBW.out.cell (p := ⟨b4, k, none⟩) sb4).trans (HMC.out k hkM)
        have sb5 : b4 < wr.heap.size := Nat.lt_of_lt_of_le sb4 HBW.out.size
        have hin := HIN.out _ (List.getElem_mem hlt)
        have hok := (HOK.out _ (List.getElem_mem hkM)).1
        have hrl : (M[k]'hkM).L = cutX L (C[k]'hlt) := by
          have h1 : (M.map Lx.L)[k]? = (C.map (cutX L))[k]? := by rw [HME.out]
          rw [List.getElem?_map, List.getElem?_map, List.getElem?_eq_getElem hkM, List.getElem?_eq_getElem hlt] at h1
          simpa using h1
        generalize M[k]'hkM = r at *
        generalize C[k]'hlt = c at *
        obtain ⟨ci, cj⟩ := c
        obtain ⟨ra, rb, ro, rc, rL⟩ := r
        simp only [Nat.zero_add] at q0 q1 p0 p1 hin hrl
        have hok2 : SlX wr ra rb ro rL.length rc rL := SlX.keep hok HBW.out
        have r1 : wr.cell? ⟨b4, k, none⟩ = some (.slice ra rL.length rc) := r0
        obtain rfl := HS5.ha (by omega)
        have sbx := HS5.hb (by omega)
        have hcap := HS5.hcap
        have hci : ¬ cap = ci := by omega
        have b1' : 0 ≤ (ci : Int) := by omega
        have b2' : (ci : Int) ≤ (cj : Int) := by omega
        have b3' : (cj : Int) ≤ (cap : Int) := by omega
        have HSM := Lib.hid (fun n => same_draws (SlX.keep hok2 (bel_drewN (Below.refl _ _) n)) ((slx_sub HS5 (show ci ≤ cj by omega) (show cj ≤ len by omega)).keep (bel_drewN (Below.refl _ _) n)))
        rw [decide_eq_true (show rL = (L.drop ci).take (cj - ci) from hrl)] at HSM
        have hEq := run_eqPair
        have e1 : ((ci : Int) == (ci : Int)) = true := by simp
        have e2 : ((cj : Int) == (cj : Int)) = true := by simp
        clear hok hok2 r0 hrl hcap hin HQ5 HR5 HS5
        go_wp2_with fail
        go_quiet ((first | (go_at_call 13; with_reducible exact quietC (HSM.out _))))
        go_wp2_with fail
        go_roundw
        case rel => exact ⟨k + 1, m + _, by omega, by go_num, by rw [HWR.out, World.drewN_drewN]⟩
        case measure => simp [intOf]; omega
      · obtain rfl : k = C.length := by omega
        have hl : ¬ (C.length : Int) < (C.length : Int) := by omega
        go_wp2_with fail
        go_ret
        exact ⟨rfl, HB4.out.trans (HBW.out.mono HB4.out.size)⟩
end Go.Proofs.Ytccglojnjakbfaa
