/- The law EncodeSkips: its walk. -/
import Derived.Test.YtljeialaefmbmaaRefS
import Derived.Test.YtljeialaefmbmaaAwake
set_option linter.unusedSimpArgs false
set_option linter.unusedVariables false
namespace Go.Proofs.Ytljeialaefmbmaa
open Go.RowKit

set_option maxHeartbeats 2000000 in
set_option maxRecDepth 100000 in
theorem skips_in (s : ByteArray) (a : Int) (hs : s.size ≤ 2000) (h63 : a ≤ 9223372036854775807) (w : World) :
    Calls Try.prog 5 #[.string s, .int .i64 a] w fun e w' => e = .returned (.bool true) ∧ Below w.heap.size w w' := by
  have x0 : ¬ (2000 : Int) < (s.size : Int) := by omega
  have H1 := Lib.hid (fun W => skip_any s a (by omega) h63 W)
  have H2 := Lib.hid (fun W => rskip_any s a (by omega) h63 W)
  have H3 := Lib.hid (fun W => depth_any s (by omega) W)
  have H4 := Lib.hid (fun W => rdepth_any s (by omega) W)
  have H5 := Lib.hid (fun W => valid_any s (by omega) W)
  generalize skipS s a = K at *
  obtain ⟨k1, k2⟩ := K
  generalize depthS s = D at *
  go_enter Try.func5, Try.ntmps5
  go_wp2_with fail
  refine (awake_any _).mono ?_
  rintro e w1 ⟨rfl, hb⟩
  have HB1 := Lib.hid hb
  clear hb
  go_wp2_with fail
  refine (H1.out _).mono ?_
  rintro e w2 ⟨rfl, hb⟩
  have HB2 := Lib.hid (HB1.out.trans (hb.mono HB1.out.size))
  clear hb HB1
  go_wp2_with fail
  refine (H2.out _).mono ?_
  rintro e wx ⟨rfl, rfl⟩
  go_wp2_with fail
  refine (H3.out _).mono ?_
  rintro e w3 ⟨rfl, hb⟩
  have HB3 := Lib.hid (HB2.out.trans (hb.mono HB2.out.size))
  clear hb HB2
  go_wp2_with fail
  refine (H4.out _).mono ?_
  rintro e wx ⟨rfl, rfl⟩
  go_wp2_with fail
  refine (H5.out _).mono ?_
  rintro e w4 ⟨rfl, hb⟩
  have HB4 := Lib.hid (HB3.out.trans (hb.mono HB3.out.size))
  clear hb HB3
  go_wp2_with fail
  refine (H4.out _).mono ?_
  rintro e wx ⟨rfl, rfl⟩
  go_wp2
  go_ret
  exact ⟨by simp, HB4.out⟩
set_option maxHeartbeats 1000000 in
set_option maxRecDepth 100000 in
theorem skips_walk (s : ByteArray) (a : Int) (hs : s.size ≤ 9223372036854775807) (h63 : a ≤ 9223372036854775807) (w : World) :
    Calls Try.prog 5 #[.string s, .int .i64 a] w fun e w' => e = .returned (.bool true) ∧ Below w.heap.size w w' := by
  by_cases h : (2000 : Int) < (s.size : Int)
  · go_enter Try.func5, Try.ntmps5
    go_wp2_with fail
    refine (awake_any _).mono ?_
    rintro e w1 ⟨rfl, hb⟩
    go_wp2
    go_ret
    exact ⟨rfl, hb⟩
  · exact skips_in s a (by omega) h63 w
end Go.Proofs.Ytljeialaefmbmaa
