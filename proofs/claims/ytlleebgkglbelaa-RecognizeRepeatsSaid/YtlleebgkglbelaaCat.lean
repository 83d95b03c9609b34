/- Catalogs as arguments. -/
import Derived.Test.YtlleebgkglbelaaRce
import Derived.Test.YtlleebgkglbelaaRcp
import Derived.Test.YtlleebgkglbelaaRcc
import Derived.Test.YtlleebgkglbelaaRcg
import Derived.Test.YtlleebgkglbelaaSts
set_option linter.unusedSimpArgs false
set_option linter.unusedVariables false
namespace Go.Proofs.Ytlleebgkglbelaa
open Go.RowKit

structure Ct where
  ag : Option Addr
  bg : Nat
  og : Nat
  ng : Nat
  cg : Nat
  ak : Option Addr
  bk : Nat
  ok : Nat
  nk : Nat
  ck : Nat
  ae : Option Addr
  be : Nat
  oe : Nat
  ne : Nat
  ce : Nat
  ac : Option Addr
  bc : Nat
  oc : Nat
  nc : Nat
  cc : Nat
  G : List Gp
  K : List ByteArray
  E : List El
  C : List Cn
def Ct.val (c : Ct) : Value := .agg #[.slice c.ag c.ng c.cg, .slice c.ak c.nk c.ck, .slice c.ae c.ne c.ce, .slice c.ac c.nc c.cc]
/-- what a catalog's parts read as -/
structure CtOk (w : World) (t : Ct) : Prop where
  g : SlP w t.ag t.bg t.og t.ng t.cg t.G
  k : SlS w t.ak t.bk t.ok t.nk t.ck t.K
  e : SlE w t.ae t.be t.oe t.ne t.ce t.E
  c : SlC w t.ac t.bc t.oc t.nc t.cc t.C
  ec : ∀ x ∈ t.E, x.c.size ≤ maxLen
  el : ∀ x ∈ t.E, x.l.size ≤ maxLen
  gc : ∀ x ∈ t.G, x.c.size ≤ maxLen
  kc : ∀ x ∈ t.K, x.size ≤ maxLen
theorem CtOk.keep {w w' : World} {c : Ct} (h : CtOk w c) (hB : Below w.heap.size w w') : CtOk w' c :=
  ⟨h.g.keep hB, h.k.keep hB, h.e.keep hB, h.c.keep hB, h.ec, h.el, h.gc, h.kc⟩
/-- a catalog in a block -/
structure CtAt (w : World) (b : Nat) (c : Ct) : Prop where
  c0 : w.cell? ⟨b, 0, none⟩ = some (.slice c.ag c.ng c.cg)
  c1 : w.cell? ⟨b, 1, none⟩ = some (.slice c.ak c.nk c.ck)
  c2 : w.cell? ⟨b, 2, none⟩ = some (.slice c.ae c.ne c.ce)
  c3 : w.cell? ⟨b, 3, none⟩ = some (.slice c.ac c.nc c.cc)
  f : ∀ k, w.frozen? ⟨b, k, none⟩ = false
  lt : b < w.heap.size
theorem CtAt.low {B : Nat} {W w1 : World} {b : Nat} {x : Ct} (h : CtAt W b x) (hb : Below B W w1) (hB : b < B) : CtAt w1 b x :=
  ⟨(hb.cell (p := ⟨b, 0, none⟩) hB).trans h.c0, (hb.cell (p := ⟨b, 1, none⟩) hB).trans h.c1, (hb.cell (p := ⟨b, 2, none⟩) hB).trans h.c2, (hb.cell (p := ⟨b, 3, none⟩) hB).trans h.c3, fun k => (hb.frozen (p := ⟨b, k, none⟩) hB).trans (h.f k), Nat.lt_of_lt_of_le h.lt hb.size⟩
theorem CtAt.keep {W w1 : World} {b : Nat} {x : Ct} (h : CtAt W b x) (hb : Below W.heap.size W w1) : CtAt w1 b x := h.low hb h.lt
theorem ct_new (w : World) (c : Ct) (T : TypeId) : CtAt (w.alloc (.cells #[.slice c.ag c.ng c.cg, .slice c.ak c.nk c.ck, .slice c.ae c.ne c.ce, .slice c.ac c.nc c.cc] T)) w.heap.size c := by
  refine ⟨?_, ?_, ?_, ?_, fun k => ?_, ?_⟩
  all_goals simp [go_sem]
end Go.Proofs.Ytlleebgkglbelaa
