/- The examples of the chapter on names: each. -/
import Derived.Test.YtflpehpjemlphaaDoorChk
import Derived.Test.YtflpehpjemlphaaDoorNat
import Derived.Test.YtflpehpjemlphaaDoorAbb
set_option linter.unusedSimpArgs false
set_option linter.unusedVariables false
namespace Go.Proofs.YtflpehpjemlphaaDoor
open Go.RowKit

def bars : ByteArray := ⟨#[98, 97, 114, 115, 95, 50]⟩
def flip3 : List ByteArray := [⟨#[102, 108, 105, 112]⟩, ⟨#[102, 108, 111, 111, 114]⟩, ⟨#[118, 97, 117, 108, 116]⟩]
def fli3 : List ByteArray := [⟨#[102, 108, 105]⟩, ⟨#[102, 108, 111]⟩, ⟨#[118]⟩]
theorem sz_lit (l : List UInt8) (h : l.length ≤ 100) : (⟨l.toArray⟩ : ByteArray).size ≤ 4611686018427387904 := by
  have : (⟨l.toArray⟩ : ByteArray).size = l.length := by simp [ByteArray.size]
  omega
theorem sz_big (l : List UInt8) (h : l.length ≤ 100) : (⟨l.toArray⟩ : ByteArray).size ≤ 9223372036854775807 := by
  have := sz_lit l h
  omega
theorem eg_n1 (w : World) : Calls Tryd.prog 20 #[.string ⟨#[98, 97, 114, 115, 95, 50]⟩] w fun e w' => e = .returned (.bool true) ∧ w = w' := by
  have := name_any ⟨#[98, 97, 114, 115, 95, 50]⟩ (sz_big [98, 97, 114, 115, 95, 50] (by decide)) w
  rw [show nameS ⟨#[98, 97, 114, 115, 95, 50]⟩ = true by decide +kernel] at this
  exact this
theorem eg_n2 (w : World) : Calls Tryd.prog 20 #[.string ⟨#[86, 97, 117, 108, 116]⟩] w fun e w' => e = .returned (.bool false) ∧ w = w' := by
  have := name_any ⟨#[86, 97, 117, 108, 116]⟩ (sz_big [86, 97, 117, 108, 116] (by decide)) w
  rw [show nameS ⟨#[86, 97, 117, 108, 116]⟩ = false by decide +kernel] at this
  exact this
theorem eg_c1 (w : World) : Calls Tryd.prog 21 #[.string ⟨#[51, 65]⟩] w fun e w' => e = .returned (.bool true) ∧ w = w' := by
  have := code_any ⟨#[51, 65]⟩ (sz_big [51, 65] (by decide)) w
  rw [show codeS ⟨#[51, 65]⟩ = true by decide +kernel] at this
  exact this
theorem eg_c2 (w : World) : Calls Tryd.prog 21 #[.string ⟨#[51, 51]⟩] w fun e w' => e = .returned (.bool false) ∧ w = w' := by
  have := code_any ⟨#[51, 51]⟩ (sz_big [51, 51] (by decide)) w
  rw [show codeS ⟨#[51, 51]⟩ = false by decide +kernel] at this
  exact this
theorem eg_t1 (w : World) : Calls Tryd.prog 22 #[.string ⟨#[65, 110, 110, 97, 32, 77, 97, 114, 105, 97]⟩] w fun e w' => e = .returned (.bool true) ∧ w = w' := by
  have := title_any ⟨#[65, 110, 110, 97, 32, 77, 97, 114, 105, 97]⟩ (sz_big [65, 110, 110, 97, 32, 77, 97, 114, 105, 97] (by decide)) w
  rw [show titleS ⟨#[65, 110, 110, 97, 32, 77, 97, 114, 105, 97]⟩ = true by decide +kernel] at this
  exact this
theorem eg_t2 (w : World) : Calls Tryd.prog 22 #[.string ⟨#[32, 65, 110, 110, 97]⟩] w fun e w' => e = .returned (.bool false) ∧ w = w' := by
  have := title_any ⟨#[32, 65, 110, 110, 97]⟩ (sz_big [32, 65, 110, 110, 97] (by decide)) w
  rw [show titleS ⟨#[32, 65, 110, 110, 97]⟩ = false by decide +kernel] at this
  exact this
theorem eg_f1 (w : World) : Calls Tryd.prog 23 #[.string ⟨#[65, 85, 84]⟩] w fun e w' => e = .returned (.bool true) ∧ w = w' := by
  have := fed_any ⟨#[65, 85, 84]⟩ (sz_big [65, 85, 84] (by decide)) w
  rw [show fedS ⟨#[65, 85, 84]⟩ = true by decide +kernel] at this
  exact this
theorem eg_b1 (w : World) : Calls Tryd.prog 24 #[.int .i64 1] w fun e w' => e = .returned (.bool true) ∧ w = w' := by
  have := bib_any 1 w
  rw [show bibS 1 = true by decide +kernel] at this
  exact this
theorem eg_nat1 (w : World) : Calls Tryd.prog 25 #[.string ⟨#[97, 50]⟩, .string ⟨#[97, 49, 48]⟩] w fun e w' => e = .returned (.int .i64 (-1)) ∧ Below w.heap.size w w' := by
  have := natural_any ⟨#[97, 50]⟩ ⟨#[97, 49, 48]⟩ (sz_lit [97, 50] (by decide)) (sz_lit [97, 49, 48] (by decide)) w
  rw [show natC (⟨#[97, 50]⟩ : ByteArray).data.toList (⟨#[97, 49, 48]⟩ : ByteArray).data.toList = -1 by decide +kernel] at this
  exact this
theorem eg_nat2 (w : World) : Calls Tryd.prog 25 #[.string ⟨#[97, 50]⟩, .string ⟨#[97, 48, 50]⟩] w fun e w' => e = .returned (.int .i64 1) ∧ Below w.heap.size w w' := by
  have := natural_any ⟨#[97, 50]⟩ ⟨#[97, 48, 50]⟩ (sz_lit [97, 50] (by decide)) (sz_lit [97, 48, 50] (by decide)) w
  rw [show natC (⟨#[97, 50]⟩ : ByteArray).data.toList (⟨#[97, 48, 50]⟩ : ByteArray).data.toList = 1 by decide +kernel] at this
  exact this
theorem fli_eq : abbL flip3 1 = fli3 := by decide +kernel
theorem flip_srt : srtL flip3 = true := by
  simp only [flip3, srtL, lessB, Lib.toList_data]
  decide
theorem flip_lit {w : World} {g : Nat} (h0 : w.cell? ⟨g, 0, none⟩ = some (.string ⟨#[102, 108, 105, 112]⟩)) (h1 : w.cell? ⟨g, 1, none⟩ = some (.string ⟨#[102, 108, 111, 111, 114]⟩)) (h2 : w.cell? ⟨g, 2, none⟩ = some (.string ⟨#[118, 97, 117, 108, 116]⟩)) (hg : g < w.heap.size) : SlS w (some ⟨g, 0, none⟩) g 0 3 3 flip3 := by
  refine ⟨rfl, fun _ => rfl, fun _ => hg, Nat.le_refl _, by decide, fun k hk => ?_⟩
  rw [Nat.zero_add]
  obtain rfl | rfl | rfl : k = 0 ∨ k = 1 ∨ k = 2 := by simp [flip3] at hk; omega
  · exact h0
  · exact h1
  · exact h2
theorem fli_lit {w : World} {g : Nat} (h0 : w.cell? ⟨g, 0, none⟩ = some (.string ⟨#[102, 108, 105]⟩)) (h1 : w.cell? ⟨g, 1, none⟩ = some (.string ⟨#[102, 108, 111]⟩)) (h2 : w.cell? ⟨g, 2, none⟩ = some (.string ⟨#[118]⟩)) (hg : g < w.heap.size) : SlS w (some ⟨g, 0, none⟩) g 0 3 3 fli3 := by
  refine ⟨rfl, fun _ => rfl, fun _ => hg, Nat.le_refl _, by decide, fun k hk => ?_⟩
  rw [Nat.zero_add]
  obtain rfl | rfl | rfl : k = 0 ∨ k = 1 ∨ k = 2 := by simp [fli3] at hk; omega
  · exact h0
  · exact h1
  · exact h2
theorem eg_abb (g : Nat) (w : World) (h : SlS w (some ⟨g, 0, none⟩) g 0 3 3 flip3) : Calls Tryd.prog 19 #[.slice (some ⟨g, 0, none⟩) 3 3, .int .i64 1] w fun e w' => ∃ q, e = .returned (.tuple #[.slice (some ⟨q, 0, none⟩) 3 3, .int .i64 0]) ∧ SlS w' (some ⟨q, 0, none⟩) q 0 3 3 fli3 ∧ Below w.heap.size w w' := by
  refine (abb_any h (by decide) (by decide) flip_srt 1 (by decide) (by decide)).mono ?_
  rintro e w' ⟨q, he, hs, hq, hb⟩
  rw [fli_eq] at hs
  exact ⟨q, he, hs, hb⟩
theorem eg_same (g q : Nat) (w : World) (h : SlS w (some ⟨g, 0, none⟩) g 0 3 3 fli3) (k : SlS w (some ⟨q, 0, none⟩) q 0 3 3 fli3) : Calls Tryd.prog 8 #[.slice (some ⟨g, 0, none⟩) 3 3, .slice (some ⟨q, 0, none⟩) 3 3] w fun e w' => e = .returned (.bool true) ∧ ∃ n, w' = w.drewN n := by
  have := same_any h k
  rw [show decide (fli3 = fli3) = true by simp] at this
  exact this
theorem eg_has (g : Nat) (w : World) (h : SlS w (some ⟨g, 0, none⟩) g 0 3 3 fli3) : Calls Tryd.prog 11 #[.slice (some ⟨g, 0, none⟩) 3 3, .string ⟨#[118]⟩] w fun e w' => e = .returned (.bool true) ∧ w' = w := by
  have := has_any h ⟨#[118]⟩
  rw [show Lib.containsS fli3 ⟨#[118]⟩ = true by rw [Lib.containsS_iff]; simp [fli3]] at this
  exact this
end Go.Proofs.YtflpehpjemlphaaDoor
