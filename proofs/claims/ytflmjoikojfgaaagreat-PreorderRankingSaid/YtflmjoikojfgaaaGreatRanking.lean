/- Ranking accepts exactly the lists in which each number is one more than the number of lesser ones: the law. -/
import Derived.Test.YtflmjoikojfgaaaGreatRnk
import Derived.Test.YtflmjoikojfgaaaGreatAwk
set_option linter.unusedSimpArgs false
set_option linter.unusedVariables false
namespace Go.Proofs.YtflmjoikojfgaaaGreat
open Go.RowKit Go.Sort

set_option maxHeartbeats 1000000 in
set_option maxRecDepth 100000 in
theorem ranking_law {a : Option Addr} {b off len cap : Nat} {P : List Int} {w : World} (h : SlI w a b off len cap P) (hI : InI P) :
    Calls Tryz.prog 7 #[.slice a len cap] w fun e w' => e = .returned (.bool true) ∧ Below w.heap.size w w' := by
  have HA := Lib.hid (fun w => awake_any w)
  have hcap := h.hcap
  have hmax := h.hmax
  unfold maxLen at hmax
  have HS := Lib.hid h
  have HI := Lib.hid hI
  clear h hI
  by_cases hl : 20 < len
  · have k1 : (20 : Int) < (len : Int) := by omega
    clear hl
    go_enter Tryz.func7, Tryz.ntmps7
    go_wp2_with fail
    refine (HA.out _).mono ?_
    rintro e w1 ⟨rfl, hb⟩
    have HB := Lib.hid hb
    clear hb HA
    go_wp2
    go_ret
    exact ⟨rfl, HB.out⟩
  · have k1 : ¬ (20 : Int) < (len : Int) := by omega
    have HR := Lib.hid (fun w1 (hB : Below w.heap.size w w1) => ranking_any (HS.out.keep hB) (by omega))
    have HQ := Lib.hid (fun w1 (hB : Below w.heap.size w w1) => rnkr_any (HS.out.keep hB) HI.out (by omega))
    generalize rnkB P = r at *
    have k2 : (r == r) = true := by cases r <;> rfl
    clear hl
    go_enter Tryz.func7, Tryz.ntmps7
    go_wp2_with fail
    refine (HA.out _).mono ?_
    rintro e w1 ⟨rfl, hb⟩
    have HB := Lib.hid hb
    clear hb HA
    go_wp2_with fail
    refine (HR.out _ HB.out).mono ?_
    rintro e w2 ⟨rfl, hb⟩
    have HB2 := Lib.hid (HB.out.trans (hb.mono HB.out.size))
    clear hb HB
    go_wp2_with fail
    refine (HQ.out _ HB2.out).mono ?_
    rintro e w3 ⟨rfl, q, rfl⟩
    have HB3 := Lib.hid (bel_drewN HB2.out q)
    clear HB2 HR HQ
    generalize w2.drewN q = w3 at *
    cases r
    all_goals
      go_wp2
      go_ret
      exact ⟨rfl, HB3.out⟩
end Go.Proofs.YtflmjoikojfgaaaGreat
