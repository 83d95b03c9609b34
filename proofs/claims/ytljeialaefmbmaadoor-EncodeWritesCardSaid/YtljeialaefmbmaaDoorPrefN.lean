/- Plain facts of encodings: beginnings. -/
import Derived.Test.YtljeialaefmbmaaDoorPure
set_option linter.unusedSimpArgs false
set_option linter.unusedVariables false
namespace Go.Proofs.YtljeialaefmbmaaDoor
open Go.RowKit

theorem depthS_ok {s : ByteArray} : 0 ≤ depthS s ↔ (0 ≤ (measS s 0).2 ∧ (measS s 0).1 = (s.size : Int)) := by
  unfold depthS
  by_cases h : (measS s 0).1 = (s.size : Int)
  · rw [if_pos h]; exact ⟨fun k => ⟨k, h⟩, fun k => k.1⟩
  · rw [if_neg h]; exact ⟨fun k => by omega, fun k => absurd k.2 h⟩
theorem depthS_val {s : ByteArray} (h : 0 ≤ depthS s) : measS s 0 = ((s.size : Int), depthS s) := by
  have := depthS_ok.1 h
  unfold depthS
  rw [if_pos this.2, ← this.2]
theorem size_extract {s : ByteArray} {i j : Nat} (hj : j ≤ s.size) : (s.extract i j).size = j - i := by
  simp
  omega
theorem depth_pre {s : ByteArray} {n : Nat} (hn : n ≤ s.size) : 0 ≤ depthS (s.extract 0 n) ↔ (0 ≤ (measS s 0).2 ∧ (measS s 0).1 = (n : Int)) := by
  rw [depthS_ok, size_extract hn]
  have hag := agr_extract (s := s) (Nat.zero_le n) hn
  constructor
  · rintro ⟨h1, h2⟩
    have := measS_agr hag h1 (by omega)
    rw [this]
    exact ⟨h1, by simp only; omega⟩
  · rintro ⟨h1, h2⟩
    have := measS_agr hag.symm h1 (by omega)
    rw [this]
    exact ⟨h1, by simp only; omega⟩
theorem depth_at {s : ByteArray} {i j : Nat} (hi : i ≤ j) (hj : j ≤ s.size) (h : 0 ≤ (measS s i).2) (he : (measS s i).1 = (j : Int)) : depthS (s.extract i j) = (measS s i).2 := by
  have := measS_agr (agr_extract hi hj).symm h (by omega)
  unfold depthS
  rw [size_extract hj, this]
  simp only
  rw [if_pos (by omega)]
end Go.Proofs.YtljeialaefmbmaaDoor
