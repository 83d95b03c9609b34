/- The law IdentChecks: its walk. -/
import Derived.Test.YtpndapbflinhlaaDoorAwake
import Derived.Test.YtpndapbflinhlaaDoorRCode
set_option linter.unusedSimpArgs false
set_option linter.unusedVariables false
namespace Go.Proofs.YtpndapbflinhlaaDoor
open Go.RowKit

set_option maxHeartbeats 2000000 in
set_option maxRecDepth 100000 in
theorem checks_walk (s : ByteArray) (hs : s.size ≤ 9223372036854775807) (n : Int) (w : World) :
    Calls Tryd.prog 3 #[.string s, .int .i64 n] w fun e w' => e = .returned (.bool true) ∧ Below w.heap.size w w' := by
  have H1 := Lib.hid (fun W => name_any s hs W)
  have H2 := Lib.hid (fun W => rname_any s hs W)
  have H3 := Lib.hid (fun W => fed_any s hs W)
  have H4 := Lib.hid (fun W => rfed_any s hs W)
  have H5 := Lib.hid (fun W => code_any s hs W)
  have H6 := Lib.hid (fun W => rcode_any s hs W)
  have H7 := Lib.hid (fun W => title_any s hs W)
  have H8 := Lib.hid (fun W => rtitle_any s hs W)
  have H9 := Lib.hid (fun W => bib_any n W)
  have H10 := Lib.hid (fun W => rbib_any n W)
  generalize nameS s = b1 at *
  generalize fedS s = b2 at *
  generalize codeS s = b3 at *
  generalize titleS s = b4 at *
  generalize bibS n = b5 at *
  go_enter Tryd.func3, Tryd.ntmps3
  go_wp2_with fail
  refine (awake_any _).mono ?_
  rintro e w1 ⟨rfl, hb⟩
  have HB := Lib.hid hb
  clear hb
  go_wp2_with fail
  refine (H1.out _).mono ?_
  rintro e w2 ⟨rfl, rfl⟩
  go_wp2_with fail
  refine (H2.out _).mono ?_
  rintro e w2 ⟨rfl, rfl⟩
  go_wp2_with fail
  refine (H3.out _).mono ?_
  rintro e w2 ⟨rfl, rfl⟩
  go_wp2_with fail
  refine (H4.out _).mono ?_
  rintro e w2 ⟨rfl, rfl⟩
  go_wp2_with fail
  refine (H5.out _).mono ?_
  rintro e w2 ⟨rfl, rfl⟩
  go_wp2_with fail
  refine (H6.out _).mono ?_
  rintro e w2 ⟨rfl, rfl⟩
  go_wp2_with fail
  refine (H7.out _).mono ?_
  rintro e w2 ⟨rfl, rfl⟩
  go_wp2_with fail
  refine (H8.out _).mono ?_
  rintro e w2 ⟨rfl, rfl⟩
  go_wp2_with fail
  refine (H9.out _).mono ?_
  rintro e w2 ⟨rfl, rfl⟩
  go_wp2_with fail
  refine (H10.out _).mono ?_
  rintro e w2 ⟨rfl, rfl⟩
  go_wp2
  go_ret
  exact ⟨rfl, HB.out⟩
end Go.Proofs.YtpndapbflinhlaaDoor
