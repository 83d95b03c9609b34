/- The law EncodeConcats: its walk. -/
import Derived.Test.YtljeialaefmbmaaSplits
set_option linter.unusedSimpArgs false
set_option linter.unusedVariables false
namespace Go.Proofs.Ytljeialaefmbmaa
open Go.RowKit

theorem deepF_le : ∀ (l : List ByteArray) (d : Int), (∀ x ∈ l, 0 ≤ depthS x ∧ depthS x ≤ 31) → d ≤ 31 → d ≤ deepF d l ∧ deepF d l ≤ 31 := by
  intro l
  induction l with
  | nil => intro d _ h; exact ⟨Int.le_refl _, h⟩
  | cons x l ih =>
    intro d h h1
    have hx := h x (by simp)
    have := ih (max d (depthS x)) (fun y hy => h y (by simp [hy])) (by omega)
    rw [deepF]
    omega
set_option maxHeartbeats 1000000 in
set_option maxRecDepth 100000 in
theorem concats_out {a : Option Addr} {b off len cap : Nat} {xs : List ByteArray} {w : World} (h : SlS w a b off len cap xs) (hn : 20 < len) :
    Calls Try.prog 9 #[.slice a len cap] w fun e w' => e = .returned (.bool true) ∧ Below w.heap.size w w' := by
  have hcap := h.hcap
  have hmax := h.hmax
  unfold maxLen at hmax
  clear h
  go_enter Try.func9, Try.ntmps9
  go_wp2_with fail
  refine (awake_any _).mono ?_
  rintro e w1 ⟨rfl, hb⟩
  go_wp2
  go_ret
  exact ⟨rfl, hb⟩
def CatPost (w : World) (e : Ending) (w' : World) : Prop := e = .returned (.bool true) ∧ Below w.heap.size w w'
set_option maxHeartbeats 8000000 in
set_option maxRecDepth 100000 in
theorem concats_in {a : Option Addr} {b off len cap : Nat} {xs : List ByteArray} {w : World} (h : SlS w a b off len cap xs) (hn : ¬ 20 < len) :
    Calls Try.prog 9 #[.slice a len cap] w (CatPost w) := by
  have hcap := h.hcap
  have hmax := h.hmax
  unfold maxLen at hmax
  have HL := Lib.hid h.hl
  have HSL := Lib.hid h
  clear h
  go_enter Try.func9, Try.ntmps9
  go_wp2_with fail
  refine (awake_any _).mono ?_
  rintro e w1 ⟨rfl, hb⟩
  have HB1 := Lib.hid hb
  clear hb
  go_wp2_with fail
  go_loopw [3, 4, 5] (fun s3 s4 s5 wr => ∃ (k : Nat) (t : ByteArray) (D : Int), s3 = .string t ∧ s4 = .int .i64 D ∧ s5 = .int .i64 (k : Int) ∧ k ≤ len ∧ t.size ≤ 2000 ∧ 0 ≤ D ∧ D ≤ 31 ∧ Hid (t ++ joinB (xs.drop k) = ⟨#[108]⟩ ++ joinB xs) ∧ Hid (deepF 0 xs = deepF D (xs.drop k)) ∧ Hid (∀ x ∈ xs.take k, 0 ≤ depthS x ∧ depthS x ≤ 31) ∧ Below w.heap.size w wr) (fun _ _ s5 _ => len - (intOf s5).toNat)
  case atStart => exact ⟨0, ⟨#[108]⟩, 0, rfl, rfl, rfl, Nat.zero_le _, by rw [sz1]; omega, by omega, by omega, Lib.hid rfl, Lib.hid rfl, Lib.hid (by simp), HB1.out⟩
  case round =>
    clear HB1
    obtain ⟨k, t, D, rfl, rfl, rfl, hk, ht2, D0, D1, ht, hdeep, hall, hbel⟩ := hrel
    by_cases hlt : k < len
    · have hkL : k < xs.length := by have := HL.out; omega
      have hslr := HSL.out.keep hbel
      obtain rfl := hslr.ha (by omega)
      have hbl := hslr.hb (by omega)
      have hc := hslr.cell k hkL
      have hjd := join_drop hkL
      have HT2 := Lib.hid (show (t ++ xs[k]) ++ joinB (xs.drop (k + 1)) = ⟨#[108]⟩ ++ joinB xs by rw [ByteArray.append_assoc, ← hjd]; exact ht.out)
      have HD2 := Lib.hid (show deepF 0 xs = deepF (max D (depthS xs[k])) (xs.drop (k + 1)) by
        rw [hdeep.out, List.drop_eq_getElem_cons hkL]
        rfl)
      have HA2 := Lib.hid (show 0 ≤ depthS xs[k] ∧ depthS xs[k] ≤ 31 → ∀ x ∈ xs.take (k + 1), 0 ≤ depthS x ∧ depthS x ≤ 31 by
        intro h x hx
        rw [List.take_succ_eq_append_getElem hkL, List.mem_append] at hx
        rcases hx with hx | hx
        · exact hall.out x hx
        · simp at hx
          rw [hx]
          exact h)
      generalize xs[k] = x at *
      have HSR := Lib.hid hslr
      clear hjd hslr ht hdeep hall
      by_cases hx : x.size ≤ 2000 - t.size
      · have x0 : ¬ (2000 : Int) - (t.size : Int) < (x.size : Int) := by omega
        have HDX := Lib.hid (fun W => depth_any x (by omega) W)
        generalize depthS x = dx at *
        by_cases hd0 : dx < 0
        · go_wp2_with fail
          refine (HDX.out _).mono ?_
          rintro e w3 ⟨rfl, hb⟩
          have HB3 := Lib.hid (hbel.trans (hb.mono hbel.size))
          clear hb hbel hc hbl
          go_wp2
          go_ret
          exact ⟨rfl, HB3.out⟩
        · by_cases hd1 : 32 ≤ dx
          · go_wp2_with fail
            refine (HDX.out _).mono ?_
            rintro e w3 ⟨rfl, hb⟩
            have HB3 := Lib.hid (hbel.trans (hb.mono hbel.size))
            clear hb hbel hc hbl
            go_wp2
            go_ret
            exact ⟨rfl, HB3.out⟩
          · go_wp2_with fail
            refine (HDX.out _).mono ?_
            rintro e w3 ⟨rfl, hb⟩
            have hc3 := (hb.cell (p := ⟨b, off + k, none⟩) hbl).trans hc
            have HB3 := Lib.hid (hbel.trans (hb.mono hbel.size))
            clear hb hbel hc hbl
            go_wp2
            go_roundw
            case rel => exact ⟨k + 1, t ++ x, max D dx, rfl, by first | rfl | (simp; done) | go_num, by go_num, by omega, by rw [ByteArray.size_append]; omega, by omega, by omega, HT2, HD2, Lib.hid (HA2.out ⟨by omega, by omega⟩), HB3.out⟩
            case measure => simp [intOf]; omega
      · have x0 : (2000 : Int) - (t.size : Int) < (x.size : Int) := by omega
        go_wp2_with fail
        go_ret
        exact ⟨rfl, hbel⟩
    · obtain rfl : k = len := by omega
      have hd0 : xs.drop k = [] := List.drop_of_length_le (by have := HL.out; omega)
      have hall' : ∀ x ∈ xs, 0 ≤ depthS x ∧ depthS x ≤ 31 := by
        have := hall.out
        rwa [List.take_of_length_le (by have := HL.out; omega)] at this
      have hdeep' : deepF 0 xs = D := by have := hdeep.out; rwa [hd0] at this
      have hte : t = ⟨#[108]⟩ ++ joinB xs := by
        have := ht.out
        rwa [hd0, show joinB [] = (⟨#[]⟩ : ByteArray) from rfl, append_nil'] at this
      obtain ⟨j1, j2⟩ := join_list hall' (by rw [hdeep']; omega)
      rw [hdeep'] at j1
      rw [← hte] at j1 j2
      have hSsz : (t ++ (⟨#[101]⟩ : ByteArray)).size ≤ 2001 := by rw [ByteArray.size_append, sz1]; omega
      obtain ⟨S, hS⟩ : ∃ S, t ++ (⟨#[101]⟩ : ByteArray) = S := ⟨_, rfl⟩
      rw [hS] at j1 j2 hSsz
      have HS := Lib.hid (fun W => split_yes S (by omega) (by omega) W)
      have HD := Lib.hid (fun W => depth_any S (by omega) W)
      rw [j1] at HD
      rw [j2] at HS
      have HBR := Lib.hid hbel
      clear hbel j1 j2 hte hdeep' hall' hd0 ht hdeep hall hlt hSsz
      go_wp2_with fail
      refine (HS.out _).mono ?_
      intro e w3 hpost
      obtain ⟨a2, b2, off2, len2, cap2, rfl, hsl2, hb⟩ := hpost.view
      obtain rfl : len2 = k := by have := hsl2.hl; have := HL.out; omega
      have hcap2 := hsl2.hcap
      have hmax2 := hsl2.hmax
      unfold maxLen at hmax2
      have HSL2 := Lib.hid hsl2
      have HB3 := Lib.hid (HBR.out.trans (hb.mono HBR.out.size))
      clear hb hpost hsl2 HBR HS
      go_wp2_with fail
      refine (HD.out _).mono ?_
      rintro e w4 ⟨rfl, hb⟩
      have HSL4 := Lib.hid (HSL2.out.keep hb)
      have HB4 := Lib.hid (HB3.out.trans (hb.mono HB3.out.size))
      clear hb HB3 HSL2 HD
      go_wp2_with fail
      go_loopw [9] (fun s9 wr => ∃ (j : Nat), s9 = .int .i64 (j : Int) ∧ j ≤ len2 ∧ Below w.heap.size w wr ∧ Hid (SlS wr a2 b2 off2 len2 cap2 xs)) (fun s9 _ => len2 - (intOf s9).toNat)
      case atStart => exact ⟨0, rfl, Nat.zero_le _, HB4.out, HSL4⟩
      case round =>
        clear HB4 HSL4
        obtain ⟨j, rfl, hj, hbel, hsl4⟩ := hrel
        by_cases hjl : j < len2
        · have hjL : j < xs.length := by have := HL.out; omega
          have hslr := HSL.out.keep hbel
          obtain rfl := hslr.ha (by omega)
          obtain rfl := hsl4.out.ha (by omega)
          have hc1 := hslr.cell j hjL
          have hc2 := hsl4.out.cell j hjL
          generalize xs[j] = x at *
          clear hslr
          go_wp2_with fail
          go_quiet (fail)
          go_wp2
          go_roundw
          case rel => exact ⟨j + 1, by go_num, by omega, bel_drewN hbel _, Lib.hid (hsl4.out.keep (bel_drewN (Below.refl _ _) _))⟩
          case measure => simp [intOf]; omega
        · obtain rfl : j = len2 := by omega
          go_wp2
          go_ret
          exact ⟨rfl, hbel⟩
theorem concats_walk {a : Option Addr} {b off len cap : Nat} {xs : List ByteArray} {w : World} (h : SlS w a b off len cap xs) :
    Calls Try.prog 9 #[.slice a len cap] w fun e w' => e = .returned (.bool true) ∧ Below w.heap.size w w' := by
  by_cases hn : 20 < len
  · exact concats_out h hn
  · exact concats_in h hn
end Go.Proofs.Ytljeialaefmbmaa
