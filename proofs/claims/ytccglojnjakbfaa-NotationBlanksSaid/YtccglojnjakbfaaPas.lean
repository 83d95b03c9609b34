/- The reader of lines: passBlanks, standsAt. -/
import Derived.Test.YtccglojnjakbfaaRdr
set_option linter.unusedSimpArgs false
set_option linter.unusedVariables false
namespace Go.Proofs.Ytccglojnjakbfaa
open Go.RowKit

theorem undrewP {W w1 : World} (h : Below W.drew.heap.size W.drew w1) : Below W.heap.size W w1 := ⟨h.os, h.tape, h.output, h.size, h.block⟩
theorem egB : ∀ args w, (callFunc 49 args).run Try.prog w = .ok (.enter 49 args) w := fun _ _ => by kernel_rfl
set_option maxHeartbeats 1000000 in
set_option maxRecDepth 100000 in
theorem pass_any {w : World} {b p : Nat} {s : ByteArray} {v : Value} (h : RdAt w b s p v) (hp : p ≤ s.size) (hs : s.size ≤ 1000000) :
    Calls Try.prog 36 #[.pointer (some ⟨b, 0, none⟩)] w fun e w' => e = .returned (.tuple #[]) ∧ RdAt w' b s (p + runN blB s.data.toList p) v ∧ Kp b b w w' := by
  have HR := Lib.hid (fun W (hW : RdAt W b s p v) => run_any _ blB blank1_any egB hW hp hs)
  have hle := runN_le blB s.data.toList p (by rw [list_size]; exact hp)
  rw [list_size] at hle
  have HE := Lib.hid (show (bs ((s.data.toList.drop p).takeWhile blB)).size = runN blB s.data.toList p by rw [bs_size]; rfl)
  generalize runN blB s.data.toList p = r at *
  have HD := Lib.hid h
  generalize bs ((s.data.toList.drop p).takeWhile blB) = T at *
  have hT : T.size = r := HE.out
  have hc : (p : Int) + (T.size : Int) = ((p + r : Nat) : Int) := by omega
  have HC := Lib.hid hc
  have hcw : IntKind.i64.wrap ((p : Int) + (T.size : Int)) = (p : Int) + (T.size : Int) := IntWalk.i64_in _ (by omega)
  obtain ⟨c0, c1, c2, cf, cl⟩ := h
  have hts : T.size ≤ 1000000 := by omega
  clear hT hc HE
  go_enter Try.func36, Try.ntmps36
  go_region_with (go_at_call 48; first | refine (HR.out _ HD.out).mono ?_ | refine (HR.out _ (HD.out.keep (by repeat (first | with_reducible exact Below.refl _ _ | (with_reducible refine Below.setCell ?_ (by first | exact Nat.le_refl _ | omega | (simp; done) | (simp; omega)) _) | (with_reducible refine Below.alloc ?_ (by first | exact Nat.le_refl _ | omega | (simp; done) | (simp; omega)) _) | with_reducible refine Below.drew ?_ | with_reducible refine bel_drewN ?_ _ | (with_reducible refine bel_by (by with_reducible assumption) (by first | exact Nat.le_refl _ | omega | (simp; done) | (simp; omega)) ?_))))).mono ?_ ; rintro e w1 ⟨rfl, hb1⟩; (repeat (with_reducible replace hb1 := undrewP hb1)); have HD1 := Lib.hid (HD.out.keep hb1); have HK1 := Lib.hid hb1; obtain ⟨e0, e1, e2, ef, el⟩ := HD1.out; clear hb1)
  all_goals
    rw [HC.out]
    refine bodyPost_end (v := .tuple #[]) (by simp [results, Try.results36, go_sem]) rfl ?_
    exact ⟨rfl, HD1.out.set1 (p + r), (Kp.of HK1.out).trans (Kp.set1 b b 1 _ _)⟩
theorem isAt_yes {s : ByteArray} {p : Nat} {c : UInt8} (h : p < s.size) : isAt c s.data.toList p = (s[p]'h == c) := by
  unfold isAt
  rw [list_get s p h]
  rfl
theorem isAt_no {s : ByteArray} {p : Nat} {c : UInt8} (h : s.size ≤ p) : isAt c s.data.toList p = false := by
  unfold isAt
  rw [List.getElem?_eq_none (by rw [list_size]; exact h)]
  rfl
set_option maxHeartbeats 1000000 in
set_option maxRecDepth 100000 in
theorem stands_draws {w : World} {b p : Nat} {s : ByteArray} {v : Value} (h : RdAt w b s p v) (hs : s.size ≤ 1000000) (n : Nat) (hn : n < 256) :
    Calls Try.prog 38 #[.pointer (some ⟨b, 0, none⟩), .int .u8 (n : Int)] w fun e w' => e = .returned (.bool (isAt (UInt8.ofNat n) s.data.toList p)) ∧ ∃ m, w' = w.drewN m := by
  obtain ⟨c0, c1, c2, cf, cl⟩ := h
  by_cases hlt : p < s.size
  · have hl : (p : Int) < (s.size : Int) := by omega
    have g1 : decide ((p : Int) < (s.size : Int)) = true := decide_eq_true hl
    have HE := Lib.hid (show isAt (UInt8.ofNat n) s.data.toList p = (((s[p]'hlt).toNat : Int) == (n : Int)) by rw [isAt_yes hlt]; exact u8_eq _ n hn)
    go_enter Try.func38, Try.ntmps38
    go_wp2_with fail
    go_quiet (fail)
    go_wp2_with fail
    go_ret
    exact ⟨by rw [HE.out]; rfl, _, rfl⟩
  · have hl : ¬ (p : Int) < (s.size : Int) := by omega
    have g1 : decide ((p : Int) < (s.size : Int)) = false := decide_eq_false hl
    have HE := Lib.hid (show isAt (UInt8.ofNat n) s.data.toList p = false from isAt_no (by omega))
    go_enter Try.func38, Try.ntmps38
    go_wp2_with fail
    go_quiet (fail)
    go_wp2_with fail
    go_ret
    exact ⟨by rw [HE.out]; rfl, _, rfl⟩
theorem stands_any {w : World} {b p : Nat} {s : ByteArray} {v : Value} (h : RdAt w b s p v) (hs : s.size ≤ 1000000) (n : Nat) (hn : n < 256) :
    Calls Try.prog 38 #[.pointer (some ⟨b, 0, none⟩), .int .u8 (n : Int)] w fun e w' => e = .returned (.bool (isAt (UInt8.ofNat n) s.data.toList p)) ∧ Below w.heap.size w w' :=
  (stands_draws h hs n hn).mono fun e w' ⟨he, m, hm⟩ => ⟨he, by rw [hm]; exact bel_drewN (Below.refl _ _) _⟩
theorem ItAt.fld1 {w : World} {b : Nat} {x : It} (h : ItAt w b x) (d : Int) : ItAt (w.setCell ⟨b, 1, none⟩ (.int .i64 d)) b ⟨x.c, d, x.r, x.v, x.j⟩ := by
  obtain ⟨h0, h1, h2, h3, h4, hf, hl⟩ := h
  refine ⟨?_, ?_, ?_, ?_, ?_, fun k => by rw [World.frozen?_setCell]; exact hf k, by simp; exact hl⟩
  · rw [World.cell?_setCell_other _ _ _ _ (by simp)]; exact h0
  · exact World.cell?_setCell_same _ _ _ h1
  · rw [World.cell?_setCell_other _ _ _ _ (by simp)]; exact h2
  · rw [World.cell?_setCell_other _ _ _ _ (by simp)]; exact h3
  · rw [World.cell?_setCell_other _ _ _ _ (by simp)]; exact h4
theorem ItAt.fld2 {w : World} {b : Nat} {x : It} (h : ItAt w b x) (r : Bool) : ItAt (w.setCell ⟨b, 2, none⟩ (.bool r)) b ⟨x.c, x.d, r, x.v, x.j⟩ := by
  obtain ⟨h0, h1, h2, h3, h4, hf, hl⟩ := h
  refine ⟨?_, ?_, ?_, ?_, ?_, fun k => by rw [World.frozen?_setCell]; exact hf k, by simp; exact hl⟩
  · rw [World.cell?_setCell_other _ _ _ _ (by simp)]; exact h0
  · rw [World.cell?_setCell_other _ _ _ _ (by simp)]; exact h1
  · exact World.cell?_setCell_same _ _ _ h2
  · rw [World.cell?_setCell_other _ _ _ _ (by simp)]; exact h3
  · rw [World.cell?_setCell_other _ _ _ _ (by simp)]; exact h4
theorem ItAt.fld3 {w : World} {b : Nat} {x : It} (h : ItAt w b x) (v : Bool) : ItAt (w.setCell ⟨b, 3, none⟩ (.bool v)) b ⟨x.c, x.d, x.r, v, x.j⟩ := by
  obtain ⟨h0, h1, h2, h3, h4, hf, hl⟩ := h
  refine ⟨?_, ?_, ?_, ?_, ?_, fun k => by rw [World.frozen?_setCell]; exact hf k, by simp; exact hl⟩
  · rw [World.cell?_setCell_other _ _ _ _ (by simp)]; exact h0
  · rw [World.cell?_setCell_other _ _ _ _ (by simp)]; exact h1
  · rw [World.cell?_setCell_other _ _ _ _ (by simp)]; exact h2
  · exact World.cell?_setCell_same _ _ _ h3
  · rw [World.cell?_setCell_other _ _ _ _ (by simp)]; exact h4
theorem ItAt.fld4 {w : World} {b : Nat} {x : It} (h : ItAt w b x) (j : Bool) : ItAt (w.setCell ⟨b, 4, none⟩ (.bool j)) b ⟨x.c, x.d, x.r, x.v, j⟩ := by
  obtain ⟨h0, h1, h2, h3, h4, hf, hl⟩ := h
  refine ⟨?_, ?_, ?_, ?_, ?_, fun k => by rw [World.frozen?_setCell]; exact hf k, by simp; exact hl⟩
  · rw [World.cell?_setCell_other _ _ _ _ (by simp)]; exact h0
  · rw [World.cell?_setCell_other _ _ _ _ (by simp)]; exact h1
  · rw [World.cell?_setCell_other _ _ _ _ (by simp)]; exact h2
  · rw [World.cell?_setCell_other _ _ _ _ (by simp)]; exact h3
  · exact World.cell?_setCell_same _ _ _ h4
theorem RdAt.other {w : World} {b p : Nat} {s : ByteArray} {v : Value} (h : RdAt w b s p v) (a : Addr) (ha : a.block ≠ b) (u : Value) : RdAt (w.setCell a u) b s p v := by
  have o : ∀ k, (w.setCell a u).cell? ⟨b, k, none⟩ = w.cell? ⟨b, k, none⟩ := fun k => World.cell?_setCell_other w a ⟨b, k, none⟩ u (by intro e; apply ha; rw [e])
  exact ⟨(o 0).trans h.c0, (o 1).trans h.c1, (o 2).trans h.c2, fun k => by rw [World.frozen?_setCell]; exact h.f k, by simp; exact h.lt⟩
end Go.Proofs.Ytccglojnjakbfaa
