/- preorder.Places and preorder.Ranking. -/
import Derived.Test.YtogdkgcgckdehaaGreatPlcI
import Derived.Test.YtogdkgcgckdehaaGreatPlcR
import Derived.Test.YtogdkgcgckdehaaGreatChk
import Derived.Test.YtogdkgcgckdehaaGreatCpr
import Derived.Test.YtogdkgcgckdehaaGreatInt
set_option linter.unusedSimpArgs false
set_option linter.unusedVariables false
namespace Go.Proofs.YtogdkgcgckdehaaGreat
open Go.RowKit Go.Sort

/-- x ranks ahead of y where this is negative -/
def ahC (x y : List (Int × Int)) : Int := rowC y x
theorem tot_rows (n : Nat) : Tot (fun x y : { r : List (Int × Int) // r.length = n } => ahC x.1 y.1) := by
  have h := tot_cmpF.lex
  refine ⟨fun x y => rowC_three _ _, fun x y => rowC_turn _ _, fun x y z => ?_⟩
  unfold ahC
  rw [rowC_lex y.1 x.1 (by rw [x.2, y.2]), rowC_lex z.1 y.1 (by rw [y.2, z.2]), rowC_lex z.1 x.1 (by rw [x.2, z.2])]
  exact fun h1 h2 => h.trans z.1 y.1 x.1 h2 h1
theorem tot_rw (w : World) (n : Nat) : Tot (fun x y : { r : Rw // r.ok w ∧ r.L.length = n } => ahC x.1.L y.1.L) := by
  have h := tot_rows n
  exact ⟨fun x y => h.three ⟨x.1.L, x.2.2⟩ ⟨y.1.L, y.2.2⟩, fun x y => h.turn ⟨x.1.L, x.2.2⟩ ⟨y.1.L, y.2.2⟩, fun x y z => h.trans ⟨x.1.L, x.2.2⟩ ⟨y.1.L, y.2.2⟩ ⟨z.1.L, z.2.2⟩⟩
theorem plc_crit (M : List Rw) : plcL (fun x y : Rw => ahC x.L y.L) M = plcL ahC (crit M) := by
  unfold plcL befN crit
  rw [List.map_map]
  apply List.map_congr_left
  intro x _
  simp only [Function.comp, List.countP_map]
  rfl
theorem crit_mem {M : List Rw} {r : Rw} (h : r ∈ M) : r.L ∈ crit M := List.mem_map.2 ⟨r, h, rfl⟩
theorem placedR_any {a : Option Addr} {b off len cap : Nat} {M : List Rw} {w : World} (h : SlR w a b off len cap M) (hc : chkL (crit M) = 0) :
    Calls Tryz.prog 23 #[.slice a len cap, .func (.func 24) #[] #[]] w (PlcPost w len (plcL ahC (crit M))) := by
  obtain ⟨c1, _, c3, _⟩ := chk_ok hc
  have hl : len ≤ 1000000 := by rw [← h.sl.hl]; unfold crit at c1; rw [List.length_map] at c1; omega
  rw [← plc_crit]
  exact plcR_on (enc := Rw.val) (p := fun r => r.ok w ∧ r.L.length = headN (crit M)) (fun _ => rfl) (fun r => ⟨_, _, _, rfl⟩) (tot_rw w _) (fun r hr => ⟨h.rows r hr, c3 _ (crit_mem hr)⟩) h.sl hl _ _ (enters_of Tryz.func24 (by kernel_rfl) rfl)
    (fun W hW x y hx hy => ahead_any (hx.1.keep hW) (hy.1.keep hW))
def PlacesPost (w : World) (len : Nat) (P : List Int) (e : Ending) (w' : World) : Prop :=
  ∃ gb, e = .returned (.tuple #[.slice (some ⟨gb, 0, none⟩) len len, .int .i64 0]) ∧ SlI w' (some ⟨gb, 0, none⟩) gb 0 len len P ∧ (w.heap.size ≤ gb ∧ ∀ k, w'.frozen? ⟨gb, k, none⟩ = false) ∧ Below w.heap.size w w'
set_option maxHeartbeats 1000000 in
theorem places_ok {a : Option Addr} {b off len cap : Nat} {M : List Rw} {w : World} (h : SlR w a b off len cap M) (hc : chkL (crit M) = 0) :
    Calls Tryz.prog 7 #[.slice a len cap] w (PlacesPost w len (plcL ahC (crit M))) := by
  have HC := Lib.hid (check_any h)
  have HP := Lib.hid (fun W (hW : Below w.heap.size w W) => placedR_any (h.keep hW) hc)
  rw [hc] at HC
  clear h hc
  generalize plcL ahC (crit M) = P at *
  go_enter Tryz.func7, Tryz.ntmps7
  go_wp2_with fail
  refine HC.out.mono ?_
  rintro e w1 ⟨rfl, hb⟩
  have HB := Lib.hid hb
  clear HC hb
  go_wp2_with fail
  refine (HP.out _ HB.out).mono ?_
  rintro e w2 ⟨gb, rfl, hs, hg, hb⟩
  have HS := Lib.hid hs
  have HG := Lib.hid (And.intro (Nat.le_trans HB.out.size hg.1) hg.2)
  have HB2 := Lib.hid (HB.out.trans (hb.mono HB.out.size))
  clear hs hg hb HB HP
  go_wp2
  go_ret2
  exact ⟨gb, rfl, HS.out, HG.out, HB2.out⟩
set_option maxHeartbeats 1000000 in
theorem places_no {a : Option Addr} {b off len cap : Nat} {M : List Rw} {w : World} (h : SlR w a b off len cap M) {c : Int} (hc : chkL (crit M) = c) (h0 : c ≠ 0) :
    Calls Tryz.prog 7 #[.slice a len cap] w fun e w' => e = .returned (.tuple #[.slice none 0 0, .int .i64 c]) ∧ Below w.heap.size w w' := by
  have HC := Lib.hid (check_any h)
  rw [hc] at HC
  have k0 : (c != 0) = true := by simpa using h0
  have k1 : (c == 0) = false := by simpa using h0
  clear h hc h0
  go_enter Tryz.func7, Tryz.ntmps7
  go_wp2_with fail
  refine HC.out.mono ?_
  rintro e w1 ⟨rfl, hb⟩
  have HB := Lib.hid hb
  clear HC hb
  go_wp2
  go_ret2
  exact ⟨rfl, HB.out⟩
/-- is each number one more than the number of lesser ones -/
def rnkB (P : List Int) : Bool := decide (P = plcL cmpI P)
set_option maxHeartbeats 1000000 in
theorem ranking_any {a : Option Addr} {b off len cap : Nat} {P : List Int} {w : World} (h : SlI w a b off len cap P) (hlen : len ≤ 1000000) :
    Calls Tryz.prog 22 #[.slice a len cap] w fun e w' => e = .returned (.bool (rnkB P)) ∧ Below w.heap.size w w' := by
  have hp := plcI_any (enc := Value.int .i64) (fun _ => rfl) (fun x => ⟨x, rfl⟩) tot_cmpI h hlen 26 #[] (enters_of Tryz.func26 (by kernel_rfl) rfl)
    (fun _ W _ x y => grw_same (cmpI_any x y W))
  have HS := Lib.hid h
  have HP := Lib.hid hp
  clear h hp
  unfold rnkB
  obtain ⟨Q, hQ⟩ : ∃ Q, plcL cmpI P = Q := ⟨_, rfl⟩
  rw [hQ] at HP ⊢
  clear hQ
  go_enter Tryz.func22, Tryz.ntmps22
  go_wp2_with fail
  refine HP.out.mono ?_
  rintro e w1 ⟨gb, rfl, hs, _, hb⟩
  have he := eqI_any (HS.out.keep hb) hs
  have HB := Lib.hid hb
  have HE := Lib.hid he
  clear hs hb he HP
  go_wp2_with fail
  refine HE.out.mono ?_
  rintro e w2 ⟨rfl, hg⟩
  have HB2 := Lib.hid (HB.out.trans (hg.below.mono HB.out.size))
  clear hg HB HE
  go_wp2
  go_ret
  exact ⟨rfl, HB2.out⟩
end Go.Proofs.YtogdkgcgckdehaaGreat
