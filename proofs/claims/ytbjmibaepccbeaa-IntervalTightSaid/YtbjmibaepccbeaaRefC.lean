/- Contracts of the reference of fractions, third part: divisor. -/
import Derived.Test.YtbjmibaepccbeaaRefB
import Derived.Deep.LoopGhost
set_option linter.unusedSimpArgs false
set_option linter.unusedVariables false
namespace Go.Proofs.Ytbjmibaepccbeaa
open Go.RowKit

theorem gcdI_symm_zero (a : Int) (h : 0 ≤ a) : gcdI a 0 = a := gcdI_zero a h

/-- what the variables of Euclid's loop hold -/
structure RD (w wr : World) (x y : Int) : Prop where
  x0 : wr.cell? ⟨w.heap.size, 0, none⟩ = some (.int .u64 (hiW x))
  x1 : wr.cell? ⟨w.heap.size, 1, none⟩ = some (.int .u64 (loW x))
  y0 : wr.cell? ⟨w.heap.size + 1, 0, none⟩ = some (.int .u64 (hiW y))
  y1 : wr.cell? ⟨w.heap.size + 1, 1, none⟩ = some (.int .u64 (loW y))
  z0 : wr.cell? ⟨w.heap.size + 1 + 1, 0, none⟩ = some (.int .u64 0)
  z1 : wr.cell? ⟨w.heap.size + 1 + 1, 1, none⟩ = some (.int .u64 0)
  f00 : wr.frozen? ⟨w.heap.size, 0, none⟩ = false
  f01 : wr.frozen? ⟨w.heap.size, 1, none⟩ = false
  f10 : wr.frozen? ⟨w.heap.size + 1, 0, none⟩ = false
  f11 : wr.frozen? ⟨w.heap.size + 1, 1, none⟩ = false
  f20 : wr.frozen? ⟨w.heap.size + 1 + 1, 0, none⟩ = false
  f21 : wr.frozen? ⟨w.heap.size + 1 + 1, 1, none⟩ = false
  hz : w.heap.size + 3 ≤ wr.heap.size
  hw : Below w.heap.size w wr

theorem RD.below {w wr w' : World} {x y : Int} (L : RD w wr x y) (hb : Below wr.heap.size wr w') : RD w w' x y where
  x0 := (hb.cell (p := ⟨w.heap.size, 0, none⟩) (by have := L.hz; show w.heap.size < wr.heap.size; omega)).trans L.x0
  x1 := (hb.cell (p := ⟨w.heap.size, 1, none⟩) (by have := L.hz; show w.heap.size < wr.heap.size; omega)).trans L.x1
  y0 := (hb.cell (p := ⟨w.heap.size + 1, 0, none⟩) (by have := L.hz; show w.heap.size + 1 < wr.heap.size; omega)).trans L.y0
  y1 := (hb.cell (p := ⟨w.heap.size + 1, 1, none⟩) (by have := L.hz; show w.heap.size + 1 < wr.heap.size; omega)).trans L.y1
  z0 := (hb.cell (p := ⟨w.heap.size + 1 + 1, 0, none⟩) (by have := L.hz; show w.heap.size + 1 + 1 < wr.heap.size; omega)).trans L.z0
  z1 := (hb.cell (p := ⟨w.heap.size + 1 + 1, 1, none⟩) (by have := L.hz; show w.heap.size + 1 + 1 < wr.heap.size; omega)).trans L.z1
  f00 := (hb.frozen (p := ⟨w.heap.size, 0, none⟩) (by have := L.hz; show w.heap.size < wr.heap.size; omega)).trans L.f00
  f01 := (hb.frozen (p := ⟨w.heap.size, 1, none⟩) (by have := L.hz; show w.heap.size < wr.heap.size; omega)).trans L.f01
  f10 := (hb.frozen (p := ⟨w.heap.size + 1, 0, none⟩) (by have := L.hz; show w.heap.size + 1 < wr.heap.size; omega)).trans L.f10
  f11 := (hb.frozen (p := ⟨w.heap.size + 1, 1, none⟩) (by have := L.hz; show w.heap.size + 1 < wr.heap.size; omega)).trans L.f11
  f20 := (hb.frozen (p := ⟨w.heap.size + 1 + 1, 0, none⟩) (by have := L.hz; show w.heap.size + 1 + 1 < wr.heap.size; omega)).trans L.f20
  f21 := (hb.frozen (p := ⟨w.heap.size + 1 + 1, 1, none⟩) (by have := L.hz; show w.heap.size + 1 + 1 < wr.heap.size; omega)).trans L.f21
  hz := Nat.le_trans L.hz hb.size
  hw := L.hw.trans (hb.mono L.hw.size)

set_option maxHeartbeats 8000000 in
set_option maxRecDepth 100000 in
theorem rdivisor_any (a b : Int) (h1 : 0 ≤ a) (h1' : a < 170141183460469231731687303715884105728) (h2 : 0 ≤ b) (h2' : b < 170141183460469231731687303715884105728) (w : World) :
    Calls Try.prog 66 #[.agg #[.int .u64 (hiW a), .int .u64 (loW a)], .agg #[.int .u64 (hiW b), .int .u64 (loW b)]] w fun e w' =>
      e = .returned (.agg #[.int .u64 (hiW (gcdI a b)), .int .u64 (loW (gcdI a b))]) ∧ Below w.heap.size w w' := by
  go_enter Try.func66, Try.ntmps66
  go_wp2_with fail
  go_loopg [5] b.toNat (fun g s5 wr => ∃ x y : Int, 0 ≤ x ∧ x < 170141183460469231731687303715884105728 ∧ 0 ≤ y ∧ y < 170141183460469231731687303715884105728 ∧ y.toNat = g ∧ Hid (gcdI x y = gcdI a b) ∧ Hid (RD w wr x y))
  case atStart =>
    refine ⟨a, b, h1, h1', h2, h2', rfl, Lib.hid rfl, Lib.hid ?_⟩
    exact ⟨by simp [go_sem], by simp [go_sem], by simp [go_sem], by simp [go_sem], by simp [go_sem], by simp [go_sem], by simp [go_sem], by simp [go_sem], by simp [go_sem], by simp [go_sem], by simp [go_sem], by simp [go_sem], by simp, (by repeat (first | with_reducible exact Below.refl _ _ | (with_reducible refine Below.setCell ?_ (by first | exact Nat.le_refl _ | omega | (simp; done) | (simp; omega)) _) | (with_reducible refine Below.alloc ?_ (by first | exact Nat.le_refl _ | omega | (simp; done) | (simp; omega)) _) | with_reducible refine Below.drew ?_ | with_reducible refine bel_drewN ?_ _ | (with_reducible refine bel_by (by with_reducible assumption) (by first | exact Nat.le_refl _ | omega | (simp; done) | (simp; omega)) ?_)))⟩
  case round =>
    obtain ⟨x, y, x0, x1, y0, y1, hg, HG, HR⟩ := hrel
    have hgk := Lib.hid hg
    clear hg
    have L := HR.out
    have c0 := L.x0
    have c1 := L.x1
    have c2 := L.y0
    have c3 := L.y1
    have c4 := L.z0
    have c5 := L.z1
    have f0 := L.f00
    have f1 := L.f01
    have f2 := L.f10
    have f3 := L.f11
    have f4 := L.f20
    have f5 := L.f21
    have hz := L.hz
    have hW := L.hw
    clear L
    by_cases hy : y = 0
    · subst hy
      have e0 : hiW 0 = 0 := rfl
      have e1 : loW 0 = 0 := rfl
      have hx : x = gcdI a b := by rw [← HG.out, gcdI_zero x x0]
      have HX := Lib.hid hx
      clear hx
      go_wp2
      refine bodyPost_ret (v := .agg #[.int .u64 (hiW x), .int .u64 (loW x)]) (by simp [results, Try.results66, go_sem, c0, c1, c4, c5, f4, f5]) rfl ⟨by rw [← HX.out], (by repeat (first | with_reducible exact Below.refl _ _ | (with_reducible refine Below.setCell ?_ (by first | exact Nat.le_refl _ | omega | (simp; done) | (simp; omega)) _) | (with_reducible refine Below.alloc ?_ (by first | exact Nat.le_refl _ | omega | (simp; done) | (simp; omega)) _) | with_reducible refine Below.drew ?_ | with_reducible refine bel_drewN ?_ _ | (with_reducible refine bel_by (by with_reducible assumption) (by first | exact Nat.le_refl _ | omega | (simp; done) | (simp; omega)) ?_)))⟩
    · have y2 : 0 < y := by omega
      have hv : valW (hiW y) (loW y) = y := valW_words y
      have DV := Lib.hid (fun W => rdivide_any (hiW x) (loW x) (hiW y) (loW y) (hiW_0 x0) (hiW_1 (by unfold B128; omega)) (loW_0 x) (loW_1 x) (hiW_0 y0) (by unfold hiW; omega) (loW_0 y) (loW_1 y) (by rw [valW_words]; exact y2) W)
      rw [valW_words, valW_words] at DV
      clear hv
      have m0 : 0 ≤ x % y := Int.emod_nonneg _ hy
      have m1 : x % y < y := Int.emod_lt_of_pos _ y2
      have ty : (hiW y == 0) = false ∨ ((hiW y == 0) = true ∧ (loW y == 0) = false) := by
        by_cases h : hiW y = 0
        · refine .inr ⟨by simpa using h, ?_⟩
          simp
          intro h'
          exact hy (by rw [← valW_words y, h, h']; rfl)
        · exact .inl (by simpa using h)
      have HGS := Lib.hid (gcdI_step x y x0 y2)
      clear hy
      have Y0 : 0 ≤ x % y ∧ x % y < 170141183460469231731687303715884105728 := ⟨m0, by omega⟩
      rcases ty with t | ⟨t, t'⟩
      all_goals
        go_wp2_with fail
        refine (DV.out _).mono ?_
        rintro e w7 ⟨rfl, hb7⟩
        have L7 := HR.out.below hb7
        clear c0 c1 c2 c3 c4 c5 f0 f1 f2 f3 f4 f5 hz hW hb7
        have HL7 := Lib.hid L7
        clear L7
        go_upto_region 3 with fail
        have L8 := HL7.out.below (w' := (w7.alloc (.cells #[.int .u64 (hiW (x / y)), .int .u64 (loW (x / y))] 65)).alloc (.cells #[.int .u64 (hiW (x % y)), .int .u64 (loW (x % y))] 65)) (by repeat (first | with_reducible exact Below.refl _ _ | (with_reducible refine Below.setCell ?_ (by first | exact Nat.le_refl _ | omega | (simp; done) | (simp; omega)) _) | (with_reducible refine Below.alloc ?_ (by first | exact Nat.le_refl _ | omega | (simp; done) | (simp; omega)) _) | with_reducible refine Below.drew ?_ | with_reducible refine bel_drewN ?_ _ | (with_reducible refine bel_by (by with_reducible assumption) (by first | exact Nat.le_refl _ | omega | (simp; done) | (simp; omega)) ?_)))
        have g0 : ((w7.alloc (.cells #[.int .u64 (hiW (x / y)), .int .u64 (loW (x / y))] 65)).alloc (.cells #[.int .u64 (hiW (x % y)), .int .u64 (loW (x % y))] 65)).cell? ⟨w7.heap.size + 1, 0, none⟩ = some (.int .u64 (hiW (x % y))) := by simp [go_sem]
        have g1 : ((w7.alloc (.cells #[.int .u64 (hiW (x / y)), .int .u64 (loW (x / y))] 65)).alloc (.cells #[.int .u64 (hiW (x % y)), .int .u64 (loW (x % y))] 65)).cell? ⟨w7.heap.size + 1, 1, none⟩ = some (.int .u64 (loW (x % y))) := by simp [go_sem]
        generalize (w7.alloc (.cells #[.int .u64 (hiW (x / y)), .int .u64 (loW (x / y))] 65)).alloc (.cells #[.int .u64 (hiW (x % y)), .int .u64 (loW (x % y))] 65) = wD at L8 g0 g1 ⊢
        have hz7 : w.heap.size + 3 ≤ w7.heap.size := HL7.out.hz
        have c0 := L8.x0
        have c1 := L8.x1
        have c2 := L8.y0
        have c3 := L8.y1
        have c4 := L8.z0
        have c5 := L8.z1
        have f0 := L8.f00
        have f1 := L8.f01
        have f2 := L8.f10
        have f3 := L8.f11
        have f4 := L8.f20
        have f5 := L8.f21
        have hz := L8.hz
        have hW := L8.hw
        clear L8
        go_region
        all_goals
          go_wp2
          go_roundg (x % y).toNat
          case measure => have := hgk.out; omega
          case rel =>
            refine ⟨y, x % y, y0, y1, m0, Y0.2, rfl, Lib.hid (by rw [← HG.out, HGS.out]), Lib.hid ?_⟩

            exact ⟨by simp [go_sem, c0, c1, c2, c3], by simp [go_sem, c0, c1, c2, c3], by simp [go_sem, c0, c1, c2, c3], by simp [go_sem, c0, c1, c2, c3], by simp [go_sem, c4], by simp [go_sem, c5],
              by simp [go_sem, f0], by simp [go_sem, f1], by simp [go_sem, f2], by simp [go_sem, f3], by simp [go_sem, f4], by simp [go_sem, f5], by simp; omega, (by repeat (first | with_reducible exact Below.refl _ _ | (with_reducible refine Below.setCell ?_ (by first | exact Nat.le_refl _ | omega | (simp; done) | (simp; omega)) _) | (with_reducible refine Below.alloc ?_ (by first | exact Nat.le_refl _ | omega | (simp; done) | (simp; omega)) _) | with_reducible refine Below.drew ?_ | with_reducible refine bel_drewN ?_ _ | (with_reducible refine bel_by (by with_reducible assumption) (by first | exact Nat.le_refl _ | omega | (simp; done) | (simp; omega)) ?_)))⟩
end Go.Proofs.Ytbjmibaepccbeaa
