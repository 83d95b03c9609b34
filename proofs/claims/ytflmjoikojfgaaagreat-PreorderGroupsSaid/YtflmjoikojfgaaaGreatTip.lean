/- preorder.ties at pairs: the keys of the map, and a round's two steps. -/
import Derived.Test.YtflmjoikojfgaaaGreatTie
import Derived.Test.YtflmjoikojfgaaaGreatPrs
import Derived.DeepKeys4
import Derived.WideKeyEntry
set_option linter.unusedSimpArgs false
set_option linter.unusedVariables false
namespace Go.Proofs.YtflmjoikojfgaaaGreat
open Go.RowKit Go.Sort Go.Maps Go.MapKept Go.ChangeMaps

theorem laidP : laidOutB Tryz.prog = true := by kernel_rfl
theorem rowP : 55 < Tryz.prog.types.size := of_decide_eq_true (by kernel_rfl)
theorem wideP : (match Tryz.prog.underlying 55 with | some (.array _ _) | some (.struct _) => true | _ => false) = true := by rw [Tryz.underlying55]
set_option maxRecDepth 100000 in
theorem keyLawP : WideMaps.KeyLaw Tryz.prog 55 := deep_law_laid laidP (m := 2) (by omega) rowP (by kernel_rfl) wideP
theorem lawP : Keyed Tryz.prog 55 := Keyed.of_law keyLawP
def Wf2 (p : Int × Int) : Prop := (Lit.int .i64 p.1).wf = true ∧ (Lit.int .i64 p.2).wf = true
def klP (p : Int × Int) : Lit := .string (keyBytes [.int .i64 p.1, .int .i64 p.2])
def valP (p : Int × Int) : Value := .agg #[.int .i64 p.1, .int .i64 p.2]
theorem cellsP : Tryz.prog.cellsOf 55 = 2 := by kernel_rfl
theorem cellsI : Tryz.prog.cellsOf 3 = 1 := by kernel_rfl
theorem keyP (p : Int × Int) (h : Wf2 p) : keyOf Tryz.prog 55 (valP p) = some (klP p) := by
  obtain ⟨h1, h2⟩ := h
  have hs : ∃ n, Tryz.prog.types.size + 1 = n + 1 + 1 := ⟨Tryz.prog.types.size - 1, by have := rowP; omega⟩
  obtain ⟨n, hn⟩ := hs
  have hf : (valP p).formed Tryz.prog 55 = true := by simp [valP, Value.formed, Tryz.underlying55, cellsP]
  have hk : Tryz.prog.keyType 55 = true := by kernel_rfl
  unfold keyOf
  rw [Tryz.underlying55]
  simp only [hk, hf, Bool.and_self, if_true, hn]
  have e1 : ∀ (x : Int), (Lit.int .i64 x).wf = true → Tryz.prog.keyLits (n + 1) 3 [.int .i64 x] = some [.int .i64 x] := fun x hx => by
    unfold Program.keyLits
    simp [Tryz.underlying3, hx]
  have e2 : Tryz.prog.keyLits (n + 1 + 1) 55 (valP p).cells.toList = some [.int .i64 p.1, .int .i64 p.2] := by
    unfold Program.keyLits
    simp [Tryz.underlying55, valP, Value.cells, cellsP, cellsI, List.range, List.range.loop, e1 p.1 h1, e1 p.2 h2]
  rw [e2]
  rfl
theorem klP_inj (p q : Int × Int) (hp : Wf2 p) (hq : Wf2 q) (h : klP p = klP q) : p = q := by
  have h1 := keyP p hp
  rw [h] at h1
  have := keyLawP.inj h1 (keyP q hq)
  obtain ⟨p1, p2⟩ := p
  obtain ⟨q1, q2⟩ := q
  unfold valP at this
  simpa using this
/-- 'seen[x]++' at a key of several cells: what its three operations do, whichever comes first -/
theorem entry_round {w : World} {b k : Nat} {D : DataW Unit} (h : w.ownsMap Tryz.prog 55 (plainElem Tryz.prog 3) b k D) (hk : k < maxLen) (p : Int × Int) (hp : Wf2 p) {c : Int} (hc : D.atKey (klP p) (D64 0) = D64 c) (hw : (Lit.int .i64 (c + 1)).wf = true) :
    ∃ (v0 : Value) (st : Nat) (w1 w2 : World), (Instr.mapEntry 100 (.map (some b)) (valP p)).run Tryz.prog w = .ok (.tuple #[v0, goInt st]) w1 ∧
      (Instr.lookup 100 (.map (some b)) (valP p) false).run Tryz.prog w = .ok (.int .i64 c) w ∧ (Instr.lookup 100 (.map (some b)) (valP p) false).run Tryz.prog w1 = .ok (.int .i64 c) w1 ∧
      (Instr.entryStore 100 (.map (some b)) (goInt st) (.int .i64 (c + 1))).run Tryz.prog w1 = .ok () w2 ∧
      w2.ownsMap Tryz.prog 55 (plainElem Tryz.prog 3) b (k + 1) (D.put (klP p) (D64 (c + 1))) ∧ w.grownBy w2 (some b) ∧ w.grownBy w1 (some b) := by
  have hkey := keyP p hp
  have hz : ∀ u : World, (zeroValue 3).run Tryz.prog u = .ok (.int .i64 0) u := fun u => zeroI u
  have hown := h
  obtain ⟨es, clock, hb, F, hs, hD⟩ := h
  have ht := Tryz.underlying100
  obtain ⟨v0, st, es1, clock1, hrun, hv0, hst⟩ := WideElems.entry_then_store keyLawP ht hz hb F hkey
  obtain ⟨c0, hl0, hc0, _⟩ := hown.lookup_int lawP ht Tryz.underlying3 (hz w) hkey
  obtain rfl := D64_inj (hc0.symm.trans hc)
  have hw1 : (setBlock w b (.map es1 clock1)).heap[b]? = some (.map es1 clock1) := heap_setBlock_same hb _
  obtain ⟨es', clock', hes, hmu⟩ := hst (setBlock w b (.map es1 clock1)) (.int .i64 (c0 + 1)) hw1
  obtain ⟨w2, hup, ho2, hg2⟩ := hown.update lawP ht hk hkey (plainElem_int Tryz.underlying3 hw)
  have e2 : w2 = setBlock w b (.map es' clock') := by
    have := hup.symm.trans hmu
    simpa using this
  have e3 : setBlock (setBlock w b (.map es1 clock1)) b (.map es' clock') = setBlock w b (.map es' clock') := by
    unfold setBlock
    simp
  have hlook : ∃ D1, (setBlock w b (.map es1 clock1)).ownsMap Tryz.prog 55 (plainElem Tryz.prog 3) b (k + 1) D1 ∧ D1.atKey (klP p) (D64 0) = D64 c0 := by
    rcases keyLawP.find w hkey es.toList F.keys with ⟨h1, h2⟩ | ⟨j, e0, h1, h2, h3⟩
    · have hr : (Instr.mapEntry 100 (.map (some b)) (valP p)).run Tryz.prog w = .ok (.tuple #[.int .i64 0, goInt clock]) (setBlock w b (.map (es.push ⟨valP p, .int .i64 0, clock⟩) (clock + 1))) := by
        simp [Instr.mapEntry, run_underlying ht, MapKept.run_getObj_map hb, keyLawP.check w false hkey, h1, hz, MapKept.run_setObj_map _ hb, Result.andThen, setBlock]
      have hu : (Instr.mapUpdate 100 (.map (some b)) (valP p) (.int .i64 0)).run Tryz.prog w = .ok () (setBlock w b (.map (es.push ⟨valP p, .int .i64 0, clock⟩) (clock + 1))) := by
        simp [Instr.mapUpdate, run_underlying ht, MapKept.run_getObj_map hb, keyLawP.check w false hkey, h1, MapKept.run_setObj_map _ hb, Result.andThen, setBlock]
      obtain ⟨w3, hup3, ho3, _⟩ := hown.update lawP ht hk hkey (plainElem_int Tryz.underlying3 (by decide : (Lit.int .i64 0).wf = true))
      have e4 : w3 = setBlock w b (.map es1 clock1) := by
        have a1 := hup3.symm.trans hu
        have a2 := hr.symm.trans hrun
        simp only [Result.ok.injEq, true_and] at a1
        simp only [Result.ok.injEq] at a2
        rw [a1, a2.2]
      rw [e4] at ho3
      refine ⟨_, ho3, ?_⟩
      rw [atKey_put_same ⟨_, hD⟩ (show WideAt.IsKeyLit (klP p) from trivial)]
      have hno : D.atKey (klP p) (D64 0) = D64 0 := by
        have hlz : (Instr.lookup 100 (.map (some b)) (valP p) false).run Tryz.prog w = .ok (.int .i64 0) w := by
          simp [Instr.lookup, run_underlying ht, MapKept.run_getObj_map hb, keyLawP.check w es.isEmpty hkey, h1, hz, Result.andThen]
        have := hl0.symm.trans hlz
        simp only [Result.ok.injEq, Value.int.injEq, true_and, and_true] at this
        rw [hc0, this]
      exact hno.symm.trans hc
    · have hj : es[j]? = some e0 := by simpa using h2
      have hsame : es.modify j (fun e => { e with key := valP p }) = es := by
        apply Array.ext'
        rw [Array.toList_modify]
        apply List.ext_getElem?
        intro i
        rw [List.getElem?_modify]
        by_cases e : j = i
        · subst e
          simp [h2]
          rw [← h3]
        · simp [e]
      have hr : ∃ v1 n1, (Instr.mapEntry 100 (.map (some b)) (valP p)).run Tryz.prog w = .ok (.tuple #[v1, n1]) (setBlock w b (.map es clock)) := by
        refine ⟨e0.val, goInt e0.born, ?_⟩
        simp [Instr.mapEntry, run_underlying ht, MapKept.run_getObj_map hb, keyLawP.check w false hkey, h1, hj, h3, keyLawP.stays w hkey, hsame, MapKept.run_setObj_map _ hb, Result.andThen, setBlock]
      obtain ⟨v1, n1, hr⟩ := hr
      have a2 := hr.symm.trans hrun
      simp only [Result.ok.injEq] at a2
      rw [← a2.2]
      exact ⟨D, ⟨es, clock, heap_setBlock_same hb _, F, by omega, hD⟩, hc⟩
  obtain ⟨D1, ho1, hc1⟩ := hlook
  obtain ⟨c1, hl1, hc1', _⟩ := ho1.lookup_int lawP ht Tryz.underlying3 (hz _) hkey
  obtain rfl := D64_inj (hc1'.symm.trans hc1)
  refine ⟨v0, st, setBlock w b (.map es1 clock1), w2, hrun, hl0, hl1, ?_, ho2, hg2, ⟨rfl, rfl, rfl, by simp [setBlock], fun i _ hi => heap_setBlock_other hb _ (fun e => hi (by rw [e]))⟩⟩
  rw [hes, e3, e2]
end Go.Proofs.YtflmjoikojfgaaaGreat
