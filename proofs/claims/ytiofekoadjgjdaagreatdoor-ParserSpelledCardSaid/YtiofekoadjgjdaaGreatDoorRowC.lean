/- What the rows list, as the code's contracts want it; a start that lays it; the wrap with the world's shape. -/
import Derived.Test.YtiofekoadjgjdaaGreatDoorTabs
import Derived.ProofKit
import Derived.LaidMore
import Derived.LaidLaws
import Derived.Lay
import Derived.Stop.Joined
import Derived.HandedShaped
import Derived.Shelf.Vars
import Derived.Test.YtiofekoadjgjdaaGreatDoorPost
import Derived.Test.YtiofekoadjgjdaaGreatDoorCards
import Derived.Test.YtiofekoadjgjdaaGreatDoorTie
import Derived.ChangeMaps5
import Derived.OpenShut
import Derived.SevenTiedAt
import Derived.Lib.SmallJoins
import Derived.Deep.SlicePairs
import Derived.Carry
import Derived.Test.YtiofekoadjgjdaaGreatDoorLawSpelled
import Derived.Deep.Slices
set_option linter.unusedSimpArgs false
set_option linter.unusedVariables false
namespace Go.Proofs.YtiofekoadjgjdaaGreatDoor
open Go.ChangeShapes Go.WideShapes Go.ChangeAt Go.RowKit

theorem own : ownKnob Tryz.prog.godebug = none := by kernel_rfl
def laidAll9 : List (String × DataW Unit) := [("math/bits.deBruijn32tab", Rows.laid_math_bits_deBruijn32tab), ("math/bits.deBruijn64tab", Rows.laid_math_bits_deBruijn64tab), ("internal/strconv.uint64pow10", Rows.laid_internal_strconv_uint64pow10), ("unicode/utf8.acceptRanges", Rows.laid_unicode_utf8_acceptRanges), ("strconv.ErrRange", Rows.laid_strconv_ErrRange), ("strconv.ErrSyntax", Rows.laid_strconv_ErrSyntax), ("salchow/lexer.kinds", Rows.laid_salchow_lexer_kinds), ("unicode/utf8.first", Rows.laid_unicode_utf8_first)]
theorem laid_tail {P : Program} {w : World} {n : String} {d : DataW Unit} {r : List (String × DataW Unit)} {ps : List MemPlace} (h : DataW.LaidVars P w ((n, d) :: r) ps) : ∃ q, DataW.LaidVars P w r q := by
  obtain ⟨_, _, _, _, _, q, _, _, _, _, h, _⟩ := h
  exact ⟨q, h⟩
theorem kinds_of_laid {W : World} (h : laidMet Tryz.prog laidAll9 W) : Lib.TabIs Tryz.prog W "salchow/lexer.kinds" .u8 kindsL := by
  obtain ⟨ps, hl, _⟩ := h
  obtain ⟨ps, hl⟩ := laid_tail hl
  obtain ⟨ps, hl⟩ := laid_tail hl
  obtain ⟨ps, hl⟩ := laid_tail hl
  obtain ⟨ps, hl⟩ := laid_tail hl
  obtain ⟨ps, hl⟩ := laid_tail hl
  obtain ⟨ps, hl⟩ := laid_tail hl
  obtain ⟨g, t, cs, fuel, p, q, hg, ht, hvar, hd, _, _⟩ := hl
  obtain rfl := Option.some.inj ((show Tryz.prog.globalNamed "salchow/lexer.kinds" = some 0 by kernel_rfl).symm.trans hg)
  obtain rfl := Option.some.inj ((show (Tryz.prog.globals[0]?).map (·.type) = some 99 by kernel_rfl).symm.trans ht)
  unfold Lib.TabIs
  rw [hvar, ← Lib.cells_of_tab Tryz.underlying99 Tryz.underlying5 (by kernel_rfl) (by kernel_rfl) hd]
theorem pow_of_laid {W : World} (h : laidMet Tryz.prog laidAll9 W) : Lib.TabIs Tryz.prog W "internal/strconv.uint64pow10" .u64 Lib.pow10Tab := by
  obtain ⟨ps, hl, _⟩ := h
  obtain ⟨ps, hl⟩ := laid_tail hl
  obtain ⟨ps, hl⟩ := laid_tail hl
  obtain ⟨g, t, cs, fuel, p, q, hg, ht, hvar, hd, _, _⟩ := hl
  obtain rfl := Option.some.inj ((show Tryz.prog.globalNamed "internal/strconv.uint64pow10" = some 1 by kernel_rfl).symm.trans hg)
  obtain rfl := Option.some.inj ((show (Tryz.prog.globals[1]?).map (·.type) = some 123 by kernel_rfl).symm.trans ht)
  unfold Lib.TabIs
  rw [hvar, ← Lib.cells_of_tab Tryz.underlying123 Tryz.underlying107 (by kernel_rfl) (by kernel_rfl) hd]
theorem err_of_laid {W : World} (h : laidMet Tryz.prog laidAll9 W) : ∃ tp p, W.var? Tryz.prog "strconv.ErrRange" = some #[.iface tp p] := by
  obtain ⟨ps, hl, _⟩ := h
  obtain ⟨ps, hl⟩ := laid_tail hl
  obtain ⟨ps, hl⟩ := laid_tail hl
  obtain ⟨ps, hl⟩ := laid_tail hl
  obtain ⟨ps, hl⟩ := laid_tail hl
  obtain ⟨g, t, cs, fuel, p, q, hg, ht, hvar, hd, _, _⟩ := hl
  obtain rfl := Option.some.inj ((show Tryz.prog.globalNamed "strconv.ErrRange" = some 8 by kernel_rfl).symm.trans hg)
  obtain rfl := Option.some.inj ((show (Tryz.prog.globals[8]?).map (·.type) = some 118 by kernel_rfl).symm.trans ht)
  obtain ⟨_, u, v, he, _⟩ := iface_of_trod Tryz.underlying118 hd
  refine ⟨u, v, ?_⟩
  rw [hvar]
  obtain ⟨l⟩ := cs
  simp only at he
  rw [he]
theorem max_of_shape {W : World} (h : W.ShapedOpen Tryz.prog) : ∃ m, W.cell? ⟨2, 0, none⟩ = some (.int .i64 m) :=
  cell_of_shapedOpen_int (P := Tryz.prog) (g := 2) (t := 3) h (of_decide_eq_true (by kernel_rfl)) (zero := #[.int .i64 0]) (by kernel_rfl) rfl (by kernel_rfl) (by kernel_rfl) Tryz.underlying3
theorem tabs_of {W : World} (h : laidMetH Tryz.prog laidAll9 W) (hs : W.ShapedOpen Tryz.prog) : Tabs W := by
  rw [MakeChecks.laidMetH_plain _ _ _ (by kernel_rfl)] at h
  exact ⟨kinds_of_laid h, pow_of_laid h, err_of_laid h, max_of_shape hs⟩
section
variable {H : Type} {enc : TypeId × Value → H}
/-- a row's contract, handed what the row lists and the world's shape -/
theorem handed_shaped {C : Checked} {os : Os} {f : FuncId} {fn : Func} {s : ChangeSpec} {X : World → Prop}
    (hX : ∀ w w' : World, w.heap = w'.heap → X w → X w')
    (own : ownKnob C.prog.godebug = none) (started : os.Started) (noInit : C.prog.inits.idxOf? f = none) (hfn : C.prog.funcs[f]? = some fn)
    (witness : ∃ (w : World) (tape : Tape) (i : Input), w.os = os ∧ (w.forCall tape i).Shaped C.prog ∧ i.vars = [] ∧ Input.okWide C.prog (w.forCall tape i) .any w.heap.size f i ∧
      ((s.pre enc C.prog fn [] false (w.forCall tape i).memory i.args ∧ X (w.forCall tape i).memory) ∧ sizedMet enc C.prog fn (OpenSpec.ofChange s) false (w.forCall tape i).memory i.args) ∧ ({} : Assume).holds C.prog (lone (Frame.enter C.prog f i.args .normal) [] (w.forCall tape i)))
    (contract : ∀ (W : World) (base : Nat) (args : Array Value) (ds gs : List (DataW H)) (before : List MemPlace),
      (∀ (j : Nat) t v, fn.params[j]? = some t → args[j]? = some v → Value.okWide C.prog W .any base t v) →
      DataW.Whole enc C.prog fn.params.toList s.vars false W args.toList ds gs before → X W → W.ShapedOpen C.prog →
      Calls C.prog f args W fun e W' => ∃ v, e = .returned v ∧ s.post enc C.prog fn false true false false W args v W') :
    ReturnsInHanded {} C os f .any (fun w args => (s.pre enc C.prog fn [] false w args ∧ X w) ∧ sizedMet enc C.prog fn (OpenSpec.ofChange s) false w args) (s.post enc C.prog fn false true false false) := by
  refine returnsInHanded_of_calls own started noInit witness fun w tape i _ hsh _ hok hpre _ => ?_
  obtain ⟨_, _, _, fn', hfn', _, _, _, _, hval⟩ := hok
  obtain rfl : fn' = fn := Option.some.inj (hfn'.symm.trans hfn)
  obtain ⟨⟨⟨ds, gs, before, hw, _⟩, hx⟩, _⟩ := hpre
  exact (contract (w.forCall tape i) w.heap.size i.args ds gs before hval (DataW.Whole.of_heap (by rfl) hw) (hX _ _ (by rfl) hx) hsh).mono fun _ _ ⟨v, he, hp⟩ => by subst he; exact ChangeSpec.post_blind hp
end
end Go.Proofs.YtiofekoadjgjdaaGreatDoor
/- What the rows of layer 10 share. -/
namespace Go.Proofs.YtiofekoadjgjdaaGreatDoor
open Go.ChangeShapes Go.WideShapes Go.ChangeAt Go.RowKit Go.Joins

theorem bd8 {a : Int} (h : (Lit.int .u8 a).wf = true) : 0 ≤ a ∧ a ≤ 255 := bounds_u8 h
theorem bd64 {a : Int} (h : (Lit.int .i64 a).wf = true) : -9223372036854775808 ≤ a ∧ a ≤ 9223372036854775807 := bounds_i64 h
end Go.Proofs.YtiofekoadjgjdaaGreatDoor
/- Slices of entries that are arguments: opened, whatever their depth. -/
namespace Go.Proofs.YtiofekoadjgjdaaGreatDoor
open Go.ChangeShapes Go.WideShapes Go.ChangeAt Go.RowKit Go.Joins Go.Deep

theorem addr_add {b o j : Nat} : (⟨b, o, none⟩ : Addr).add j = ⟨b, o + j, none⟩ := by unfold Addr.add; split <;> simp_all
theorem cellsI : Tryz.prog.cellsOf 3 = 1 := by kernel_rfl
theorem cellsT : Tryz.prog.cellsOf 51 = 4 := by kernel_rfl
theorem cellsJ : Tryz.prog.cellsOf 2 = 1 := by kernel_rfl
theorem cellsU : Tryz.prog.cellsOf 9 = 1 := by kernel_rfl
theorem cellsB : Tryz.prog.cellsOf 4 = 1 := by kernel_rfl
theorem cellsTs : Tryz.prog.cellsOf 36 = 1 := by kernel_rfl
theorem cellsCs : Tryz.prog.cellsOf 23 = 1 := by kernel_rfl
theorem cellsC : Tryz.prog.cellsOf 41 = 5 := by kernel_rfl
section
variable {H : Type} {enc : TypeId × Value → H} {P : Program} {w : World} {base : Nat} {spare : Nat → Bool} {held : Bool}
theorem trod_struct5 {t : TypeId} {f0 f1 f2 f3 f4 : Field} {fuel : Nat} {cs : List Value} {x : DataW H × List MemPlace} (ht : P.underlying t = some (.struct #[f0, f1, f2, f3, f4])) (h : DataW.trod enc P w base spare held fuel t cs = some x) :
    ∃ y0 y1 y2 y3 y4 n, fuel = n + 1 ∧ cs.length = P.cellsOf t ∧ DataW.trod enc P w base spare held n f0.type ((cs.drop f0.offset).take (P.cellsOf f0.type)) = some y0 ∧
      DataW.trod enc P w base spare held n f1.type ((cs.drop f1.offset).take (P.cellsOf f1.type)) = some y1 ∧ DataW.trod enc P w base spare held n f2.type ((cs.drop f2.offset).take (P.cellsOf f2.type)) = some y2 ∧
      DataW.trod enc P w base spare held n f3.type ((cs.drop f3.offset).take (P.cellsOf f3.type)) = some y3 ∧ DataW.trod enc P w base spare held n f4.type ((cs.drop f4.offset).take (P.cellsOf f4.type)) = some y4 := by
  obtain ⟨xs, n, hn, rfl, hl, hlen, hf⟩ := DataW.trod_struct ht h
  match xs, hlen with
  | [y0, y1, y2, y3, y4], _ => exact ⟨y0, y1, y2, y3, y4, n, hn, hl, by simpa using hf 0 f0 rfl, by simpa using hf 1 f1 rfl, by simpa using hf 2 f2 rfl, by simpa using hf 3 f3 rfl, by simpa using hf 4 f4 rfl⟩
end
set_option maxRecDepth 100000 in
theorem open_toks1 {H : Type} {enc : TypeId × Value → H} {W : World} {b0 fuel : Nat} {hd : Bool} {v : Value} {x : DataW H × List MemPlace}
    (hf : DataW.trod enc Tryz.prog W b0 (fun _ => true) hd fuel 36 [v] = some x) :
    ∃ (a : Option Addr) (b off len cap : Nat) (xs : List Tk), v = .slice a len cap ∧ SlT W a b off len cap xs := by
  rcases open_slice Tryz.underlying36 hf with ⟨hc, _⟩ | ⟨a', len', cap', m, n, D, Pl, hc, _, hl, hm, hmm, _, hall⟩
  · have hc' : v = .slice none 0 0 := by simpa using hc
    exact ⟨none, 0, 0, 0, 0, [], hc', slt_nil W⟩
  · have hc' : v = .slice (some a') len' cap' := by simpa using hc
    subst hc'
    have hlm : len' ≤ m := by rw [hmm]; split <;> omega
    have each : ∀ i, i < len' → ∃ q : Tk, W.cell? (a'.add (i * 4)) = some (.int .i64 q.k) ∧ W.cell? (a'.add (i * 4 + 1)) = some (.string q.t) ∧ W.cell? (a'.add (i * 4 + 2)) = some (.int .i64 q.n) ∧ W.cell? (a'.add (i * 4 + 3)) = some (.int .i64 q.a) := by
      intro i hi
      obtain ⟨cs', h1, h2⟩ := hall i (by omega)
      rw [cellsT] at h1
      obtain ⟨_, hlen, hcell⟩ := World.cells?_some h1
      obtain ⟨y0, y1, y2, y3, n', _, _, g0, g1, g2, g3⟩ := trod_struct4 Tryz.underlying51 h2
      match cs', hlen with
      | [v0, v1, v2, v3], _ =>
        have e0 := hcell 0 (by omega)
        have e1 := hcell 1 (by omega)
        have e2 := hcell 2 (by omega)
        have e3 := hcell 3 (by omega)
        rw [add_add] at e0 e1 e2 e3
        simp [cellsI, cellsJ, cellsU] at g0 g1 g2 g3
        obtain ⟨z0, f0, _, b0⟩ := DataW.trod_int Tryz.underlying3 g0
        obtain ⟨z1, f1, _, b1⟩ := DataW.trod_string Tryz.underlying9 g1
        obtain ⟨z2, f2, _, b2⟩ := DataW.trod_int Tryz.underlying2 g2
        obtain ⟨z3, f3, _, b3⟩ := DataW.trod_int Tryz.underlying3 g3
        simp only [List.cons.injEq, and_true] at f0 f1 f2 f3
        refine ⟨⟨z0, z1, z2, z3⟩, ?_, ?_, ?_, ?_⟩
        · rw [← f0]; simpa using e0
        · rw [← f1]; simpa using e1
        · rw [← f2]; simpa using e2
        · rw [← f3]; simpa using e3
    obtain ⟨q, hq⟩ := choose_lt each
    have hspot : 0 < len' → a' = ⟨a'.block, a'.off, none⟩ := fun h0 => by
      have hs := World.cell?_spot (hq 0 h0).1
      obtain ⟨b, o, s⟩ := a'
      have hs : s = none := hs
      subst hs
      rfl
    refine ⟨some a', a'.block, a'.off, len', cap', (List.range len').map q, rfl, by simp, fun h0 => congrArg some (hspot h0), fun h0 => ?_, hl, hm, fun k hk => ?_, fun k hk => ?_, fun k hk => ?_, fun k hk => ?_⟩
    · have h1 := World.block_lt_of_cell? W _ (hq 0 h0).1
      rw [hspot h0, addr_add] at h1
      exact h1
    all_goals
      have hk' : k < len' := by simpa using hk
      obtain ⟨h1, h2, h3, h4⟩ := hq k hk'
      rw [hspot (by omega), addr_add] at h1 h2 h3 h4
      simp only [List.getElem_map, List.getElem_range]
      first | exact h1 | (rw [← Nat.add_assoc] at h2; exact h2) | (rw [← Nat.add_assoc] at h3; exact h3) | (rw [← Nat.add_assoc] at h4; exact h4)

set_option maxRecDepth 100000 in
theorem open_cls1 {H : Type} {enc : TypeId × Value → H} {W : World} {b0 : Nat} {hd : Bool} : ∀ (fuel : Nat) {v : Value} {x : DataW H × List MemPlace},
    DataW.trod enc Tryz.prog W b0 (fun _ => true) hd fuel 23 [v] = some x → ∃ (a : Option Addr) (b off cap : Nat) (c : Cls), v = .slice a c.len cap ∧ SlC W AllB a b off c.len cap c ∧ (a = none → cap = 0) := by
  intro fuel
  induction fuel using Nat.strongRecOn with
  | ind fuel ih =>
    intro v x hf
    rcases DataW.trod_slice Tryz.underlying23 hf with ⟨hc, _⟩ | ⟨a', len, cap, elems, rest, n, hfu, hc, _, _, hl, hm, hlen, hall, _, _⟩
    · have hc' : v = .slice none 0 0 := by simpa using hc
      exact ⟨none, 0, 0, 0, .nil, hc', slC_nil W _, fun _ => rfl⟩
    · have hc' : v = .slice (some a') len cap := by simpa using hc
      subst hc'
      rw [cellsC] at hall
      have hspot : 0 < len → a' = ⟨a'.block, a'.off, none⟩ := by
        intro h0
        have hb := hall 0 h0
        rw [List.getElem?_eq_getElem (by omega)] at hb
        obtain ⟨cs', h1, _⟩ := Option.bind_eq_some_iff.1 hb
        obtain ⟨_, hlen', hcell⟩ := World.cells?_some h1
        have hs := World.cell?_spot ((hcell 0 (by omega)).trans (List.getElem?_eq_getElem (by omega)))
        obtain ⟨b, o, s⟩ := a'
        have hs : s = none := hs
        subst hs
        rfl
      have each : ∀ i, i < len → a' = ⟨a'.block, a'.off, none⟩ ∧ ∃ wd aa ba oa la ca xs bl ak bk ok ck kids at', W.cell? ⟨a'.block, a'.off + i * 5, none⟩ = some (.string wd) ∧ W.cell? ⟨a'.block, a'.off + i * 5 + 1, none⟩ = some (.slice aa la ca) ∧ SlT W aa ba oa la ca xs ∧
          W.cell? ⟨a'.block, a'.off + i * 5 + 2, none⟩ = some (.bool bl) ∧ W.cell? ⟨a'.block, a'.off + i * 5 + 3, none⟩ = some (.slice ak kids.len ck) ∧ SlC W AllB ak bk ok kids.len ck kids ∧ W.cell? ⟨a'.block, a'.off + i * 5 + 4, none⟩ = some (.int .i64 at') := by
        intro i hi
        have hb := hall i hi
        rw [List.getElem?_eq_getElem (by omega)] at hb
        obtain ⟨cs', h1, h2⟩ := Option.bind_eq_some_iff.1 hb
        obtain ⟨_, hlen', hcell⟩ := World.cells?_some h1
        obtain ⟨y0, y1, y2, y3, y4, m, hnm, _, g0, g1, g2, g3, g4⟩ := trod_struct5 Tryz.underlying41 h2
        match cs', hlen' with
        | [v0, v1, v2, v3, v4], _ =>
          have e0 := hcell 0 (by omega)
          have e1 := hcell 1 (by omega)
          have e2 := hcell 2 (by omega)
          have e3 := hcell 3 (by omega)
          have e4 := hcell 4 (by omega)
          rw [add_add] at e0 e1 e2 e3 e4
          simp [cellsI, cellsB, cellsU, cellsTs, cellsCs] at g0 g1 g2 g3 g4
          obtain ⟨z0, f0, _, b0⟩ := DataW.trod_string Tryz.underlying9 g0
          obtain ⟨aa, ba, oa, la, ca, xs, f1, sl⟩ := open_toks1 g1
          obtain ⟨z2, f2, _⟩ := DataW.trod_bool Tryz.underlying4 g2
          obtain ⟨ak, bk, ok, ck, kids, f3, sk, _⟩ := ih m (by omega) g3
          obtain ⟨z4, f4, _, b4⟩ := DataW.trod_int Tryz.underlying3 g4
          simp only [List.cons.injEq, and_true] at f0 f2 f4
          have hsp := hspot (by omega)
          rw [hsp, addr_add] at e0 e1 e2 e3 e4
          rw [← Nat.add_assoc] at e0 e1 e2 e3 e4
          simp at e0 e1 e2 e3 e4
          subst f0 f1 f2 f3 f4
          exact ⟨hsp, z0, aa, ba, oa, la, ca, xs, z2, ak, bk, ok, ck, kids, z4, e0, e1, sl, e2, e3, sk, e4⟩
      have build : ∀ m j, j + m = len → ∃ c : Cls, c.len = m ∧ AtC W c AllB a'.block (a'.off + j * 5) := by
        intro m
        induction m with
        | zero => intro j _; exact ⟨.nil, rfl, trivial⟩
        | succ m ihm =>
          intro j hj
          obtain ⟨r, hr, hat⟩ := ihm (j + 1) (by omega)
          obtain ⟨_, wd, aa, ba, oa, la, ca, xs, bl, ak, bk, ok, ck, kids, at', c0, c1, sl, c2, c3, ⟨k1, k2, k3, k4, k5⟩, c4⟩ := each j (by omega)
          refine ⟨.cons wd xs bl kids at' r, by simp [Cls.len, hr], ⟨aa, ba, oa, la, ca, c1, sl, fun _ => trivial⟩, ⟨ak, bk, ok, ck, c3, k2, k3, k4, k5⟩, c0, c2, c4, ?_⟩
          rw [show a'.off + j * 5 + 5 = a'.off + (j + 1) * 5 by omega]
          exact hat
      obtain ⟨c, hcl, hat⟩ := build len 0 (by omega)
      rw [Nat.zero_mul, Nat.add_zero] at hat
      subst hcl
      refine ⟨some a', a'.block, a'.off, cap, c, rfl, ⟨rfl, hl, hm, fun h0 => ?_, hat⟩, fun h => by cases h⟩
      obtain ⟨hsp, _, _, _, _, _, _, _, _, _, _, _, _, _, _, c0, _⟩ := each 0 h0
      have h1 := World.block_lt_of_cell? W _ c0
      exact ⟨congrArg some hsp, h1, trivial⟩
set_option maxRecDepth 100000 in
theorem open_clsA {H : Type} {enc : TypeId × Value → H} {W : World} {base b0 : Nat} {hd : Bool} {v : Value} {d : DataW H} {p : List MemPlace}
    (hk : Value.okWide Tryz.prog W .any base 23 v) (h : DataW.Trod enc Tryz.prog W b0 (fun _ => true) hd 23 v d p) :
    ∃ (a : Option Addr) (b off cap : Nat) (c : Cls), v = .slice a c.len cap ∧ SlC W AllB a b off c.len cap c ∧ (a = none → cap = 0) := by
  obtain ⟨a, len, cap, rfl⟩ := okWide_slice Tryz.underlying23 hk
  obtain ⟨fuel, hf⟩ := h
  exact open_cls1 fuel (by simpa [Value.cells] using hf)
end Go.Proofs.YtiofekoadjgjdaaGreatDoor
