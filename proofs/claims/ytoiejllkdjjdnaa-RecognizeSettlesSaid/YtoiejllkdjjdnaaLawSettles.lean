/- The law of RecognizeSettles. -/
import Derived.Test.YtoiejllkdjjdnaaAwk
import Derived.Test.YtoiejllkdjjdnaaFit
import Derived.Test.YtoiejllkdjjdnaaRst
import Derived.Test.YtoiejllkdjjdnaaSme
set_option linter.unusedSimpArgs false
set_option linter.unusedVariables false
namespace Go.Proofs.Ytoiejllkdjjdnaa
open Go.RowKit

set_option maxHeartbeats 4000000 in
set_option maxRecDepth 100000 in
theorem law_settles (w : World) {a : Option Addr} {b off len cap : Nat} {L : List It} (h : SlX w a b off len cap L) (i st : Int) (v : Bool) (hst : st ≤ 9223372036854775807) :
    Calls Try.prog 5 #[.slice a len cap, .int .i64 i, .int .i64 st, .bool v] w fun e w' => e = .returned (.bool true) ∧ Below w.heap.size w w' := by
  have HA := Lib.hid (awake_any w)
  have HEX := Lib.hid (fun W => example_any W)
  have HS := Lib.hid h
  have HFI := Lib.hid (fun W (c : Ct) (hc : CtOk W c) (hW : SlX W a b off len cap L) => fits_any hc hW 40)
  have hl0 := h.hl
  have HSE := Lib.hid (fun W (hW : SlX W a b off len cap L) (hf : fitC L) (hm : len ≤ 1000000) => settle_any hW hf hm i st v (fun h0 => chk_d h0) hst)
  have HRE := Lib.hid (fun W (hW : SlX W a b off len cap L) (hf : fitC L) (hm : len ≤ 1000000) => rsettle_any hW hf hm i st v (fun h0 => chk_d h0) hst)
  rw [← set_same] at HRE
  unfold EgPost at HEX
  unfold StlPost at HSE HRE
  obtain ⟨q, hq⟩ : ∃ q, setS L i st v = q := ⟨_, rfl⟩
  rw [hq] at HSE HRE
  obtain ⟨r, M⟩ := q
  simp only at HSE HRE
  clear h hq
  go_enter Try.func5, Try.ntmps5
  go_wp2_with fail
  refine HA.out.mono ?_
  rintro e w1 ⟨rfl, hb1⟩
  have HB1 := Lib.hid hb1
  clear hb1 HA
  go_wp2_with fail
  refine (HEX.out _).mono ?_
  rintro e w2 ⟨c, rfl, hok, hce, hb2⟩
  have HB2 := Lib.hid (HB1.out.trans (hb2.mono HB1.out.size))
  have HS2 := Lib.hid (HS.out.keep HB2.out)
  have HFI2 := Lib.hid (HFI.out w2 c hok HS2.out)
  clear hok hb2 hce HFI
  unfold Ct.val at *
  go_wp2_with fail
  refine HFI2.out.mono ?_
  rintro e w3 ⟨f, rfl, hb3, hff⟩
  have HB3 := Lib.hid (HB2.out.trans (hb3.mono HB2.out.size))
  have HS3 := Lib.hid (HS.out.keep HB3.out)
  have HFF := Lib.hid hff
  clear hb3 hff HFI2
  cases f with
  | false =>
    go_wp2_with fail
    go_ret
    exact ⟨rfl, HB3.out⟩
  | true =>
    obtain ⟨_, hlen, hcs⟩ := HFF.out (by simp)
    have hfit : fitC L := fun k hk => by have := hcs _ (List.getElem_mem hk); omega
    have hm : len ≤ 1000000 := by omega
    have HSE3 := Lib.hid (HSE.out w3 HS3.out hfit hm)
    have HRE3 := Lib.hid (fun W hW => HRE.out W hW hfit hm)
    clear hlen hcs hfit hm HFF HSE HRE
    go_wp2_with fail
    refine HSE3.out.mono ?_
    rintro e w4 ⟨hb4, h4⟩
    have HB4 := Lib.hid (HB3.out.trans (hb4.mono HB3.out.size))
    have HS4 := Lib.hid (HS.out.keep HB4.out)
    have HRE4 := Lib.hid (HRE3.out w4 HS4.out)
    clear hb4 HSE3 HRE3
    rcases h4 with ⟨h0, rfl⟩ | ⟨rfl, g4, c4, rfl, s4, _⟩
    · have H0 := Lib.hid h0
      clear h0
      go_wp2_with fail
      refine HRE4.out.mono ?_
      rintro e w5 ⟨hb5, h5⟩
      have HB5 := Lib.hid (HB4.out.trans (hb5.mono HB4.out.size))
      clear hb5 HRE4
      rcases h5 with ⟨_, rfl⟩ | ⟨h5, _⟩
      · have HSM := Lib.hid (same_any (slx_nil w5 none 0 0 0 (Nat.zero_le _)) (slx_nil w5 none 0 0 0 (Nat.zero_le _)))
        rw [decide_eq_true rfl] at HSM
        go_wp2_with fail
        refine HSM.out.mono ?_
        rintro e w6 ⟨rfl, hb6⟩
        have HB6 := Lib.hid (HB5.out.trans (hb6.mono HB5.out.size))
        clear hb6
        go_wp2_with fail
        go_ret
        exact ⟨by first | rfl | simp, HB6.out⟩
      · exact absurd h5 H0.out
    · have HS44 := Lib.hid s4
      clear s4
      go_wp2_with fail
      refine HRE4.out.mono ?_
      rintro e w5 ⟨hb5, h5⟩
      have HB5 := Lib.hid (HB4.out.trans (hb5.mono HB4.out.size))
      have HS45 := Lib.hid (HS44.out.keep hb5)
      clear hb5 HRE4
      rcases h5 with ⟨h5, _⟩ | ⟨_, g5, c5, rfl, s5, _⟩
      · exact absurd rfl h5
      · have HSM := Lib.hid (same_any HS45.out s5)
        rw [decide_eq_true rfl] at HSM
        clear s5
        go_wp2_with fail
        refine HSM.out.mono ?_
        rintro e w6 ⟨rfl, hb6⟩
        have HB6 := Lib.hid (HB5.out.trans (hb6.mono HB5.out.size))
        clear hb6
        go_wp2_with fail
        go_ret
        exact ⟨by first | rfl | simp, HB6.out⟩
end Go.Proofs.Ytoiejllkdjjdnaa
