/- Rows of fractions that a call makes: what they read as. -/
import Derived.Test.YtogdkgcgckdehaaGreatApp
import Derived.Test.YtogdkgcgckdehaaGreatRfp
import Derived.Maps.AppendAt
set_option linter.unusedSimpArgs false
set_option linter.unusedVariables false
namespace Go.Proofs.YtogdkgcgckdehaaGreat
open Go.RowKit Go.Sort

def encF (q : Int × Int) : List Value := [.int .i64 q.1, .int .i64 q.2]
def flatF (L : List (Int × Int)) : List Value := L.flatMap encF
theorem flatF_app (L M : List (Int × Int)) : flatF (L ++ M) = flatF L ++ flatF M := by unfold flatF; rw [List.flatMap_append]
theorem flatF_len : ∀ (L : List (Int × Int)), (flatF L).length = L.length * 2
  | [] => rfl
  | q :: t => by
    have := flatF_len t
    unfold flatF at this ⊢
    rw [List.flatMap_cons, List.length_append, this]
    simp [encF]; omega
theorem flatF_get : ∀ (L : List (Int × Int)) (k : Nat) (h : k < L.length), (flatF L)[k * 2]? = some (.int .i64 (L[k]'h).1) ∧ (flatF L)[k * 2 + 1]? = some (.int .i64 (L[k]'h).2)
  | q :: t, 0, _ => ⟨rfl, rfl⟩
  | q :: t, k + 1, h => by
    have ih := flatF_get t k (by simpa using h)
    have e : flatF (q :: t) = .int .i64 q.1 :: .int .i64 q.2 :: flatF t := rfl
    rw [e, show (k + 1) * 2 = k * 2 + 1 + 1 by omega, show k * 2 + 1 + 1 + 1 = (k * 2 + 1) + 1 + 1 by omega]
    simp only [List.getElem?_cons_succ, List.getElem_cons_succ]
    exact ih
theorem flatF_one : ∀ (L : List (Int × Int)), ∀ u ∈ flatF L, u.oneCell' = true
  | [], u, h => by simp [flatF] at h
  | q :: t, u, h => by
    have e : flatF (q :: t) = .int .i64 q.1 :: .int .i64 q.2 :: flatF t := rfl
    rw [e, List.mem_cons, List.mem_cons] at h
    rcases h with rfl | rfl | h
    · rfl
    · rfl
    · exact flatF_one t u h
theorem rw_cells {w : World} {r : Rw} (h : r.ok w) : ∀ j u, (flatF r.L)[j]? = some u → w.cell? ((⟨r.b, r.off, none⟩ : Addr).add j) = some u := by
  intro j u hu
  have hj : j < (flatF r.L).length := by
    by_cases hh : j < (flatF r.L).length
    · exact hh
    · rw [List.getElem?_eq_none (by omega)] at hu; exact absurd hu (by simp)
  rw [flatF_len] at hj
  have hk : j / 2 < r.L.length := by omega
  obtain ⟨e0, e1⟩ := flatF_get r.L (j / 2) hk
  obtain ⟨c0, c1⟩ := h.1.cell _ hk
  rcases (show j % 2 = 0 ∨ j % 2 = 1 by omega) with hm | hm
  · rw [show j / 2 * 2 = j by omega] at e0 c0
    rw [hu] at e0
    rw [e0, Addr.add_lit]
    exact c0
  · rw [show j / 2 * 2 + 1 = j by omega] at e1
    rw [show r.off + j / 2 * 2 + 1 = r.off + j by omega] at c1
    rw [hu] at e1
    rw [e1, Addr.add_lit]
    exact c1
/-- a row of the call's own, read -/
theorem own_rw {w : World} {base e n : Nat} {v : Value} {L : List (Int × Int)} (hn : L.length = n) (hw : ∀ x ∈ L, Wf64 x) (h : w.ownsRow base e 2 v n (flatF L)) :
    ∃ r : Rw, v = r.val ∧ r.L = L ∧ r.ok w ∧ (0 < L.length → v.ownBlock = some r.b) := by
  have hcell := h
  subst hn
  rcases h.2 with ⟨rfl, h0⟩ | ⟨g, cap, cur, rfl, hg, hb, h1, h2, h3, h4⟩
  · have : L = [] := List.eq_nil_of_length_eq_zero h0
    subst this
    exact ⟨⟨none, 0, 0, 0, []⟩, rfl, rfl, ⟨slf_nil w, fun _ => rfl⟩, fun h => absurd h (Nat.lt_irrefl 0)⟩
  · have hgs : g < w.heap.size := (Array.getElem?_eq_some_iff.1 hb).1
    refine ⟨⟨some ⟨g, 0, none⟩, g, 0, cap, L⟩, rfl, rfl, ⟨⟨rfl, fun _ => rfl, fun _ => hgs, h1, h2, fun k hk => ?_, hw⟩, fun h => by cases h⟩, fun _ => rfl⟩
    replace hk : k < L.length := hk
    obtain ⟨e0, e1⟩ := flatF_get L k hk
    constructor
    · rw [Nat.zero_add, hcell.cellAt (k * 2) (by omega), e0]
    · rw [Nat.zero_add, hcell.cellAt (k * 2 + 1) (by omega), e1]
theorem infoFr : (Tryz.prog.info? 37).map (fun i => (i.zero, i.size, i.bytes)) = some (some (.agg #[.int .i64 0, .int .i64 0]), 2, 16) := by kernel_rfl
theorem infoFs : (Tryz.prog.info? 27).map (fun i => (i.zero, i.size, i.bytes)) = some (some (.slice none 0 0), 1, 24) := by kernel_rfl
/-- the rows of both matrices, as far as they were made -/
structure RwOk (B : Nat) (w : World) (v : Value) (R : List Rw) : Prop where
  row : w.ownsRow B 27 1 v R.length (R.map Rw.val)
  each : ∀ r ∈ R, r.ok w
  off : ∀ r ∈ R, 0 < r.L.length → B ≤ r.b ∧ v.ownBlock ≠ some r.b
theorem RwOk.nil (B : Nat) (w : World) : RwOk B w (.slice none 0 0) [] := ⟨World.ownsRow_nil w _ _ _, fun x h => by simp at h, fun x h => by simp at h⟩
theorem Rw.ok.grown {w w' : World} {r : Rw} {k : Option Nat} (h : r.ok w) (hg : w.grownBy w' k) (hk : 0 < r.L.length → k ≠ some r.b) : r.ok w' := by
  obtain ⟨⟨h1, h2, h3, h4, h5, h6, h7⟩, h8⟩ := h
  refine ⟨⟨h1, h2, fun h => Nat.lt_of_lt_of_le (h3 h) hg.size, h4, h5, fun j hj => ?_, h7⟩, h8⟩
  have h0 : 0 < r.L.length := by omega
  have hc := hg.block r.b (h3 h0) (fun e => hk h0 e.symm)
  obtain ⟨c0, c1⟩ := h6 j hj
  exact ⟨(World.cell?_of_block (a := ⟨r.b, r.off + j * 2, none⟩) hc).trans c0, (World.cell?_of_block (a := ⟨r.b, r.off + j * 2 + 1, none⟩) hc).trans c1⟩
theorem RwOk.below {B : Nat} {w w' : World} {v : Value} {R : List Rw} (h : RwOk B w v R) (hB : Below w.heap.size w w') : RwOk B w' v R :=
  ⟨own_below h.row hB, fun r hr => (h.each r hr).keep hB, h.off⟩
/-- one more row -/
theorem RwOk.more {B : Nat} {w w' : World} {v v' : Value} {R : List Rw} (h : RwOk B w v R) {x : Rw} (hx : x.ok w) (hxb : 0 < x.L.length → B ≤ x.b) (hvx : 0 < x.L.length → v.ownBlock ≠ some x.b)
    (ho : w'.ownsRow B 27 1 v' (R.length + 1) (R.map Rw.val ++ [x.val])) (hg : w.grownBy w' v.ownBlock) (hb : v'.ownBlock = v.ownBlock ∨ ∀ k, v'.ownBlock = some k → w.heap.size ≤ k) : RwOk B w' v' (R ++ [x]) := by
  refine ⟨?_, ?_, ?_⟩
  · rw [List.length_append, List.map_append]; exact ho
  · intro y hy
    rw [List.mem_append, List.mem_singleton] at hy
    rcases hy with hy | rfl
    · exact (h.each y hy).grown hg fun h0 => (h.off y hy h0).2
    · exact hx.grown hg hvx
  · intro y hy h0
    rw [List.mem_append, List.mem_singleton] at hy
    have h1 : B ≤ y.b ∧ v.ownBlock ≠ some y.b ∧ y.b < w.heap.size := by
      rcases hy with hy | rfl
      · exact ⟨(h.off y hy h0).1, (h.off y hy h0).2, (h.each y hy).1.hb h0⟩
      · exact ⟨hxb h0, hvx h0, hx.1.hb h0⟩
    refine ⟨h1.1, ?_⟩
    rcases hb with hb | hb
    · rw [hb]; exact h1.2.1
    · intro e
      have := hb _ e
      omega
/-- append of anything to a slice of the call's own, at the operation -/
theorem wp_append_every {P : Program} {w : World} {ops : Array Oper} {o : Oper} {a : Act} {K : Act → World → Prop} {Q : Exit → Act → World → Prop} {E : Prop} (hgd : o.guard = none) (s x : Operand) (t : TypeId)
    (ho : o.op = .call { callee := .builtin .append, args := #[s, x], argTypes := #[t, t] })
    (base : Nat) (e : TypeId) (i : TypeInfo) (z : Value) (size bytes : Nat) (ht : P.underlying t = some (.slice e)) (hi : P.info? e = some i) (hz : i.zero = some z)
    (hsize : i.size = size) (hby : i.bytes = bytes) (hzs : z.cells.size = size) (hsz : 0 < size)
    (v : Value) (n : Nat) (xs : List Value) (hs : a.eval s = v) (hown : w.ownsRow base e size v n xs)
    (ao : Option Addr) (m c : Nat) (news : List Value) (hx : a.eval x = .slice ao m c) (hl : news.length = m * size) (hnone : ao = none → m = 0 ∧ c = 0) (hnews : ∀ ad, ao = some ad → ∀ j u, news[j]? = some u → w.cell? (ad.add j) = some u) (h1 : ∀ u ∈ news, u.oneCell' = true)
    (h63 : n + m ≤ maxLen) (hbytes : (n + m) * bytes ≤ 140737488355328) (hbase : base ≤ w.heap.size)
    (h : ∀ v' w', w'.ownsRow base e size v' (n + m) (xs ++ news) → w.grownBy w' v.ownBlock → K (a.put o.dst v') w') : if Region.wanted o (yielded ops a.tmps) = true then Oper.wp P o a w K Q else E := by
  have hw : Region.wanted o (yielded ops a.tmps) = true := by simp [Region.wanted, hgd]
  rw [if_pos hw]
  cases ao with
  | some ad =>
    obtain ⟨v', w', hr, h2, h3, _, _⟩ := run_append_own_at (P := P) w base t o.type e i z size bytes ht hi hz hsize hby hzs hsz v n xs hown ad m c news hl (hnews ad rfl) h1 h63 hbytes hbase
    unfold Oper.wp execOp
    simp only [ho, resolve, invoke, builtin, Sem.run_bind, Sem.run_pure, Result.andThen_ok, List.map_toArray, List.map_cons, List.map_nil, hs, hx, hr]
    exact h v' w' h2 h3
  | none =>
    obtain ⟨rfl, rfl⟩ := hnone rfl
    have hn0 : news = [] := List.eq_nil_of_length_eq_zero (by simpa using hl)
    subst hn0
    have hr := run_append_owned_none (P := P) w base t o.type e i size ht hi v n xs hown
    unfold Oper.wp execOp
    simp only [ho, resolve, invoke, builtin, Sem.run_bind, Sem.run_pure, Result.andThen_ok, List.map_toArray, List.map_cons, List.map_nil, hs, hx, hr]
    refine h v w (by simpa using hown) ?_
    exact ⟨rfl, rfl, rfl, Nat.le_refl _, fun k hk _ => rfl⟩
theorem rw_news {w W : World} {r : Rw} (h : r.ok w) (hB : Below w.heap.size w W) : ∀ ad, r.a = some ad → ∀ j u, (flatF r.L)[j]? = some u → W.cell? (ad.add j) = some u := by
  intro ad had j u hu
  have h0 : 0 < r.L.length := by
    by_cases h0 : 0 < r.L.length
    · exact h0
    · have : r.L = [] := List.eq_nil_of_length_eq_zero (by omega)
      rw [this] at hu; simp [flatF] at hu
  have := h.1.ha h0
  rw [had] at this
  obtain rfl := Option.some.inj this
  exact rw_cells (h.keep hB) j u hu
theorem own_form {w : World} {base e z n : Nat} {v : Value} {xs : List Value} (h : w.ownsRow base e z v n xs) : ∃ ao cap, v = .slice ao n cap := by
  rcases h.2 with ⟨rfl, h0⟩ | ⟨g, cap, cur, rfl, _⟩
  · exact ⟨none, 0, by rw [h0]⟩
  · exact ⟨_, cap, rfl⟩
end Go.Proofs.YtogdkgcgckdehaaGreat
