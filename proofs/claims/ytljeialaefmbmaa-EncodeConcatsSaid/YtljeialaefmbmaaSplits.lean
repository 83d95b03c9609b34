/- The law EncodeSplits: its walk. -/
import Derived.Test.YtljeialaefmbmaaListN
import Derived.Test.YtljeialaefmbmaaPrefix
set_option linter.unusedSimpArgs false
set_option linter.unusedVariables false
namespace Go.Proofs.Ytljeialaefmbmaa
open Go.RowKit

set_option maxHeartbeats 1000000 in
set_option maxRecDepth 100000 in
theorem splits_out (s : ByteArray) (hs : s.size ≤ 9223372036854775807) (h : (2000 : Int) < (s.size : Int)) (w : World) :
    Calls Try.prog 8 #[.string s] w fun e w' => e = .returned (.bool true) ∧ Below w.heap.size w w' := by
  go_enter Try.func8, Try.ntmps8
  go_wp2_with fail
  refine (awake_any _).mono ?_
  rintro e w1 ⟨rfl, hb⟩
  go_wp2
  go_ret
  exact ⟨rfl, hb⟩
set_option maxHeartbeats 2000000 in
set_option maxRecDepth 100000 in
theorem splits_no (s : ByteArray) (hs : s.size ≤ 2000) (hd : depthS s < 1) (w : World) :
    Calls Try.prog 8 #[.string s] w fun e w' => e = .returned (.bool true) ∧ Below w.heap.size w w' := by
  have x0 : ¬ (2000 : Int) < (s.size : Int) := by omega
  have HS := Lib.hid (fun W => split_no s (by omega) hd W)
  by_cases hv : 0 ≤ depthS s
  · have HV := Lib.hid (fun W => valid_t s (by omega) hv W)
    have hval := depthS_val hv
    have hpos : 0 < s.size := by
      rcases measS_ok s 0 with h6 | h6
      · rw [h6] at hval
        have := congrArg Prod.snd hval
        simp only at this
        omega
      · rw [hval] at h6; simp only at h6; omega
    have hne : at8 s 0 ≠ 108 := by
      intro h
      have hh := head_l hpos h
      rw [measS_list (by rw [hh]), hh] at hval
      have := measG_ok s _ 1 1 1 (Nat.le_refl _) (by omega) (by omega) (by omega) (by omega)
      simp only at hval
      rw [hval] at this
      rcases this with e | e
      · have := congrArg Prod.snd e
        simp only at this
        omega
      · simp only at e; omega
    rw [at8_eq hpos] at hne
    have y0 : ((((s[0]'hpos).toNat : Int)) != 108) = true := by simp [bne]; omega
    clear hv hd hval hne
    go_enter Try.func8, Try.ntmps8
    go_wp2_with fail
    refine (awake_any _).mono ?_
    rintro e w1 ⟨rfl, hb⟩
    have HB1 := Lib.hid hb
    clear hb
    go_wp2_with fail
    refine (HS.out _).mono ?_
    rintro e w2 ⟨rfl, hb⟩
    have HB2 := Lib.hid (HB1.out.trans (hb.mono HB1.out.size))
    clear hb HB1
    go_wp2_with fail
    refine (HV.out _).mono ?_
    rintro e w3 ⟨rfl, hb⟩
    have HB3 := Lib.hid (HB2.out.trans (hb.mono HB2.out.size))
    clear hb HB2
    go_wp2
    go_ret
    exact ⟨rfl, HB3.out⟩
  · have HV := Lib.hid (fun W => valid_f s (by omega) hv W)
    clear hv hd
    go_enter Try.func8, Try.ntmps8
    go_wp2_with fail
    refine (awake_any _).mono ?_
    rintro e w1 ⟨rfl, hb⟩
    have HB1 := Lib.hid hb
    clear hb
    go_wp2_with fail
    refine (HS.out _).mono ?_
    rintro e w2 ⟨rfl, hb⟩
    have HB2 := Lib.hid (HB1.out.trans (hb.mono HB1.out.size))
    clear hb HB1
    go_wp2_with fail
    refine (HV.out _).mono ?_
    rintro e w3 ⟨rfl, hb⟩
    have HB3 := Lib.hid (HB2.out.trans (hb.mono HB2.out.size))
    clear hb HB2
    go_wp2
    go_ret
    exact ⟨rfl, HB3.out⟩
theorem join_drop {L : List ByteArray} {k : Nat} (h : k < L.length) : joinB (L.drop k) = L[k] ++ joinB (L.drop (k + 1)) := by
  rw [List.drop_eq_getElem_cons h]
  rfl
set_option maxHeartbeats 4000000 in
set_option maxRecDepth 100000 in
theorem splits_yes (s : ByteArray) (hs : s.size ≤ 2000) (hd : 1 ≤ depthS s) (w : World) :
    Calls Try.prog 8 #[.string s] w fun e w' => e = .returned (.bool true) ∧ Below w.heap.size w w' := by
  have x0 : ¬ (2000 : Int) < (s.size : Int) := by omega
  have HS := Lib.hid (fun W => split_yes s (by omega) hd W)
  have HV := Lib.hid (fun W => valid_t s (by omega) (by omega) W)
  obtain ⟨hdep, hjoin⟩ := splitS_join hd
  have HDEP := Lib.hid hdep
  have HJ := Lib.hid hjoin
  have HSZ := Lib.hid (show 1 + (joinB (splitS s)).size + 1 = s.size by
    have := congrArg ByteArray.size hjoin
    rw [ByteArray.size_append, ByteArray.size_append, sz1, sz1] at this
    exact this)
  clear hdep hjoin hd
  generalize splitS s = L at *
  go_enter Try.func8, Try.ntmps8
  go_wp2_with fail
  refine (awake_any _).mono ?_
  rintro e w1 ⟨rfl, hb⟩
  have HB1 := Lib.hid hb
  clear hb
  go_wp2_with fail
  refine (HS.out _).mono ?_
  intro e w2 hpost
  obtain ⟨a, b, off, len, cap, rfl, hsl, hb⟩ := hpost.view
  have HB2 := Lib.hid (HB1.out.trans (hb.mono HB1.out.size))
  have HSL := Lib.hid hsl
  have hl := hsl.hl
  have hcap := hsl.hcap
  have hmax := hsl.hmax
  unfold maxLen at hmax
  clear hb HB1 hpost hsl HS
  go_wp2_with fail
  have HL := Lib.hid hl
  clear hl
  go_loopw [5, 6] (fun s5 s6 wr => ∃ (k : Nat) (t : ByteArray), s5 = .string t ∧ s6 = .int .i64 (k : Int) ∧ k ≤ len ∧ Hid (t ++ joinB (L.drop k) = ⟨#[108]⟩ ++ joinB L) ∧ t.size ≤ 2000 ∧ Below w2.heap.size w2 wr) (fun _ s6 _ => len - (intOf s6).toNat)
  case atStart => exact ⟨0, ⟨#[108]⟩, rfl, rfl, Nat.zero_le _, Lib.hid rfl, by rw [sz1]; omega, Below.refl _ _⟩
  case round =>
    obtain ⟨k, t, rfl, rfl, hk, ht, ht2, hbel⟩ := hrel
    by_cases hlt : k < len
    · have hkL : k < L.length := by have := HL.out; omega
      have hslr := HSL.out.keep hbel
      obtain rfl := hslr.ha (by omega)
      have hbl := hslr.hb (by omega)
      have hc := hslr.cell k hkL
      have hx := HDEP.out _ (List.getElem_mem hkL)
      have hjd := join_drop hkL
      have HT2 := Lib.hid (show (t ++ L[k]) ++ joinB (L.drop (k + 1)) = ⟨#[108]⟩ ++ joinB L by rw [ByteArray.append_assoc, ← hjd]; exact ht.out)
      have hsz : t.size + (L[k]).size ≤ 1999 := by
        have h1 := congrArg ByteArray.size HT2.out
        rw [ByteArray.size_append, ByteArray.size_append, ByteArray.size_append, sz1] at h1
        have := HSZ.out
        omega
      generalize L[k] = x at *
      have HVX := Lib.hid (fun W => valid_t x (by omega) hx.1 W)
      have HSR := Lib.hid hslr
      clear hx hjd hslr ht
      go_wp2_with fail
      refine (HVX.out _).mono ?_
      rintro e w3 ⟨rfl, hb⟩
      have hc3 := (hb.cell (p := ⟨b, off + k, none⟩) hbl).trans hc
      have HB3 := Lib.hid (hbel.trans (hb.mono hbel.size))
      clear hb hbel hc hbl
      go_wp2
      go_roundw
      case rel => exact ⟨k + 1, t ++ x, rfl, by go_num, by omega, HT2, by rw [ByteArray.size_append]; omega, HB3.out⟩
      case measure => simp [intOf]; omega
    · obtain rfl : k = len := by omega
      have HE := Lib.hid (show t ++ ⟨#[101]⟩ = s by
        have h1 := ht.out
        rw [List.drop_of_length_le (by have := HL.out; omega), show joinB [] = (⟨#[]⟩ : ByteArray) from rfl, append_nil'] at h1
        rw [h1]
        exact HJ.out)
      have HBR := Lib.hid (HB2.out.trans (hbel.mono HB2.out.size))
      clear ht hbel HJ HSL
      go_wp2_with fail
      refine (HV.out _).mono ?_
      rintro e w3 ⟨rfl, hb⟩
      have HB3 := Lib.hid (HBR.out.trans (hb.mono HBR.out.size))
      have hE := HE.out
      clear hb HBR
      go_wp2
      go_ret
      exact ⟨rfl, HB3.out⟩
theorem splits_walk (s : ByteArray) (hs : s.size ≤ 9223372036854775807) (w : World) :
    Calls Try.prog 8 #[.string s] w fun e w' => e = .returned (.bool true) ∧ Below w.heap.size w w' := by
  by_cases h : (2000 : Int) < (s.size : Int)
  · exact splits_out s hs h w
  · by_cases hd : 1 ≤ depthS s
    · exact splits_yes s (by omega) hd w
    · exact splits_no s (by omega) (by omega) w
end Go.Proofs.Ytljeialaefmbmaa
