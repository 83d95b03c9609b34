/- The reader of lines: its block, run, passBlanks, standsAt. -/
import Derived.Test.YtccglojnjakbfaaParP
import Derived.Test.YtccglojnjakbfaaChx
set_option linter.unusedSimpArgs false
set_option linter.unusedVariables false
namespace Go.Proofs.Ytccglojnjakbfaa
open Go.RowKit

/-- a reader in a block -/
structure RdAt (w : World) (b : Nat) (s : ByteArray) (p : Nat) (v : Value) : Prop where
  c0 : w.cell? ⟨b, 0, none⟩ = some (.string s)
  c1 : w.cell? ⟨b, 1, none⟩ = some (.int .i64 (p : Int))
  c2 : w.cell? ⟨b, 2, none⟩ = some v
  f : ∀ k, w.frozen? ⟨b, k, none⟩ = false
  lt : b < w.heap.size
theorem RdAt.low {B : Nat} {W w1 : World} {b p : Nat} {s : ByteArray} {v : Value} (h : RdAt W b s p v) (hb : Below B W w1) (hB : b < B) : RdAt w1 b s p v :=
  ⟨(hb.cell (p := ⟨b, 0, none⟩) hB).trans h.c0, (hb.cell (p := ⟨b, 1, none⟩) hB).trans h.c1, (hb.cell (p := ⟨b, 2, none⟩) hB).trans h.c2, fun k => (hb.frozen (p := ⟨b, k, none⟩) hB).trans (h.f k), Nat.lt_of_lt_of_le h.lt hb.size⟩
theorem RdAt.keep {W w1 : World} {b p : Nat} {s : ByteArray} {v : Value} (h : RdAt W b s p v) (hb : Below W.heap.size W w1) : RdAt w1 b s p v := h.low hb h.lt
/-- all blocks but two stand as they stood -/
structure Kp (b c : Nat) (w w' : World) : Prop where
  os : w'.os = w.os
  tape : w'.tape = w.tape
  output : w'.output = w.output
  size : w.heap.size ≤ w'.heap.size
  block : ∀ k, k < w.heap.size → k ≠ b → k ≠ c → w'.heap[k]? = w.heap[k]?
theorem Kp.refl (b c : Nat) (w : World) : Kp b c w w := ⟨rfl, rfl, rfl, Nat.le_refl _, fun _ _ _ _ => rfl⟩
theorem Kp.trans {b c : Nat} {x y z : World} (h : Kp b c x y) (k : Kp b c y z) : Kp b c x z :=
  ⟨k.os.trans h.os, k.tape.trans h.tape, k.output.trans h.output, Nat.le_trans h.size k.size, fun i hi h1 h2 => (k.block i (Nat.lt_of_lt_of_le hi h.size) h1 h2).trans (h.block i hi h1 h2)⟩
theorem Kp.of {b c : Nat} {x y : World} (h : Below x.heap.size x y) : Kp b c x y := ⟨h.os, h.tape, h.output, h.size, fun i hi _ _ => h.block i hi⟩
theorem Kp.set1 (b c o : Nat) (w : World) (v : Value) : Kp b c w (w.setCell ⟨b, o, none⟩ v) :=
  ⟨rfl, rfl, rfl, by simp [World.setCell], fun k _ h1 _ => Below.heap_setCell _ _ _ _ h1⟩
theorem Kp.set2 (b c o : Nat) (w : World) (v : Value) : Kp b c w (w.setCell ⟨c, o, none⟩ v) :=
  ⟨rfl, rfl, rfl, by simp [World.setCell], fun k _ _ h2 => Below.heap_setCell _ _ _ _ h2⟩
theorem Kp.drew (b c : Nat) (w : World) : Kp b c w w.drew := ⟨rfl, rfl, rfl, Nat.le_refl _, fun _ _ _ _ => rfl⟩
theorem Kp.below {b c B : Nat} {x y : World} (h : Kp b c x y) (h0 : B ≤ x.heap.size) (h1 : B ≤ b) (h2 : B ≤ c) : Below B x y :=
  ⟨h.os, h.tape, h.output, h.size, fun i hi => h.block i (by omega) (by omega) (by omega)⟩
theorem Kp.one {b c : Nat} {x y : World} (h : Kp b c x y) (hc : x.heap.size ≤ c) : Kp b b x y := ⟨h.os, h.tape, h.output, h.size, fun i hi h1 _ => h.block i hi h1 (by omega)⟩
theorem Kp.grown {b : Nat} {x y : World} (h : Kp b b x y) : x.grownBy y (some b) := ⟨h.os, h.tape, h.output, h.size, fun i hi h1 => h.block i hi (by simpa using h1) (by simpa using h1)⟩
theorem own_kp {w w' : World} {base e z n b : Nat} {v : Value} {xs : List Value} (h : w.ownsRow base e z v n xs) (hb : b < base) (hB : Kp b b w w') : w'.ownsRow base e z v n xs := by
  obtain ⟨hl, h⟩ := h
  rcases h with h | ⟨g, cap, cur, h', hg, hbk, hr⟩
  · exact ⟨hl, Or.inl h⟩
  · exact ⟨hl, Or.inr ⟨g, cap, cur, h', hg, by rw [hB.block g (Array.getElem?_eq_some_iff.1 hbk).1 (by omega) (by omega)]; exact hbk, hr⟩⟩
theorem RdAt.set1 {w : World} {b p : Nat} {s : ByteArray} {v : Value} (h : RdAt w b s p v) (q : Nat) : RdAt (w.setCell ⟨b, 1, none⟩ (.int .i64 (q : Int))) b s q v := by
  obtain ⟨h0, h1, h2, hf, hl⟩ := h
  refine ⟨?_, ?_, ?_, fun k => by rw [World.frozen?_setCell]; exact hf k, by simp; exact hl⟩
  · rw [World.cell?_setCell_other _ _ _ _ (by simp)]; exact h0
  · exact World.cell?_setCell_same _ _ _ h1
  · rw [World.cell?_setCell_other _ _ _ _ (by simp)]; exact h2
theorem RdAt.set2 {w : World} {b p : Nat} {s : ByteArray} {v : Value} (h : RdAt w b s p v) (u : Value) : RdAt (w.setCell ⟨b, 2, none⟩ u) b s p u := by
  obtain ⟨h0, h1, h2, hf, hl⟩ := h
  refine ⟨?_, ?_, ?_, fun k => by rw [World.frozen?_setCell]; exact hf k, by simp; exact hl⟩
  · rw [World.cell?_setCell_other _ _ _ _ (by simp)]; exact h0
  · rw [World.cell?_setCell_other _ _ _ _ (by simp)]; exact h1
  · exact World.cell?_setCell_same _ _ _ h2
set_option maxHeartbeats 1000000 in
set_option maxRecDepth 100000 in
theorem run_any (g : Nat) (q : UInt8 → Bool) (hg : ByteFn g q) (eg : ∀ args w, (callFunc g args).run Try.prog w = .ok (.enter g args) w) {w : World} {b p : Nat} {s : ByteArray} {v : Value} (h : RdAt w b s p v) (hp : p ≤ s.size) (hs : s.size ≤ 1000000) :
    Calls Try.prog 48 #[.pointer (some ⟨b, 0, none⟩), .func (.func g) #[] #[]] w fun e w' => e = .returned (.string (bs ((s.data.toList.drop p).takeWhile q))) ∧ Below w.heap.size w w' := by
  have HY := Lib.hid (runN_yes q s p)
  have HN := Lib.hid (runN_no q s p)
  have HX := Lib.hid (runN_ext q s p)
  have hle := runN_le q s.data.toList p (by rw [list_size]; exact hp)
  rw [list_size] at hle
  rw [← HX.out]
  obtain ⟨r, hr⟩ : ∃ r, p + runN q s.data.toList p = r := ⟨_, rfl⟩
  rw [hr] at hle ⊢
  have HY2 := Lib.hid (show ∀ (k : Nat) (hk : k < s.size), p ≤ k → k < r → q (s[k]'hk) = true from fun k hk h1 h2 => HY.out k hk h1 (by omega))
  have HN2 := Lib.hid (show ∀ h : r < s.size, q (s[r]'h) = false by subst hr; exact HN.out)
  have hpr : p ≤ r := by omega
  have HG := Lib.hid hg
  obtain ⟨c0, c1, c2, cf, cl⟩ := h
  clear hr HY HN HX hg
  go_enter Try.func48, Try.ntmps48
  go_wp2_with fail
  go_loop [5] (fun s5 => ∃ k : Nat, p ≤ k ∧ k ≤ r ∧ s5 = .int .i64 (k : Int)) (fun s5 => (s.size - (intOf s5)).toNat)
  case atStart => exact ⟨p, Nat.le_refl _, hpr, rfl⟩
  case round =>
    obtain ⟨k, hpk, hk, rfl⟩ := hrel
    by_cases hlt : k < s.size
    · have hl : (k : Int) < (s.size : Int) := by omega
      have HK := Lib.hid (HG.out (s[k]'hlt))
      by_cases hkr : k < r
      · rw [HY2.out k hlt hpk hkr] at HK
        go_wp2_with fail
        refine (HK.out _).mono ?_
        rintro e w1 ⟨rfl, rfl⟩
        go_wp2_with fail
        go_round
        case rel => exact ⟨k + 1, by omega, by omega, by go_num⟩
        case measure => simp [intOf]; omega
      · obtain rfl : k = r := by omega
        rw [HN2.out hlt] at HK
        go_wp2_with fail
        refine (HK.out _).mono ?_
        rintro e w1 ⟨rfl, rfl⟩
        go_wp2_with fail
        have b1 : 0 ≤ (p : Int) := by omega
        have b2 : (p : Int) ≤ (k : Int) := by omega
        have b3 : (k : Int) ≤ (s.size : Int) := by omega
        go_quiet (fail)
        go_wp2_with fail
        go_ret
        exact ⟨rfl, (by repeat (first | with_reducible exact Below.refl _ _ | (with_reducible refine Below.setCell ?_ (by first | exact Nat.le_refl _ | omega | (simp; done) | (simp; omega)) _) | (with_reducible refine Below.alloc ?_ (by first | exact Nat.le_refl _ | omega | (simp; done) | (simp; omega)) _) | with_reducible refine Below.drew ?_ | with_reducible refine bel_drewN ?_ _ | (with_reducible refine bel_by (by with_reducible assumption) (by first | exact Nat.le_refl _ | omega | (simp; done) | (simp; omega)) ?_)))⟩
    · obtain rfl : k = r := by omega
      obtain rfl : k = s.size := by omega
      have hl : ¬ (s.size : Int) < (s.size : Int) := by omega
      go_wp2_with fail
      have b1 : 0 ≤ (p : Int) := by omega
      have b2 : (p : Int) ≤ (s.size : Int) := by omega
      go_quiet (fail)
      go_wp2_with fail
      go_ret
      exact ⟨rfl, (by repeat (first | with_reducible exact Below.refl _ _ | (with_reducible refine Below.setCell ?_ (by first | exact Nat.le_refl _ | omega | (simp; done) | (simp; omega)) _) | (with_reducible refine Below.alloc ?_ (by first | exact Nat.le_refl _ | omega | (simp; done) | (simp; omega)) _) | with_reducible refine Below.drew ?_ | with_reducible refine bel_drewN ?_ _ | (with_reducible refine bel_by (by with_reducible assumption) (by first | exact Nat.le_refl _ | omega | (simp; done) | (simp; omega)) ?_)))⟩
theorem blank1_any : ByteFn 49 blB := by
  intro c w
  have hq := eq32 c
  unfold blB
  rw [hq]
  go_enter Try.func49, Try.ntmps49
  go_wp2
  go_ret
  exact ⟨rfl, rfl⟩
end Go.Proofs.Ytccglojnjakbfaa
