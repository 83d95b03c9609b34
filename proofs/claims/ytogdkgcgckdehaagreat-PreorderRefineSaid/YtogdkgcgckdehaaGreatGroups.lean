/- preorder.Groups: the rows in groups that tie, from the best to the worst. -/
import Derived.Test.YtogdkgcgckdehaaGreatOrder
import Derived.Test.YtogdkgcgckdehaaGreatApp
set_option linter.unusedSimpArgs false
set_option linter.unusedVariables false
namespace Go.Proofs.YtogdkgcgckdehaaGreat
open Go.RowKit Go.Sort

def tieB (C : List (List (Int × Int))) (i k : Nat) : Bool := decide (ahC (C.getD i []) (C.getD k []) = 0)
/-- the groups of the first k of an order -/
def grpK (C : List (List (Int × Int))) (O : List Nat) : Nat → List (List Nat)
  | 0 => []
  | k + 1 => if 0 < k ∧ tieB C (O.getD (k - 1) 0) (O.getD k 0) = true then (grpK C O k).dropLast ++ [(grpK C O k).getLastD [] ++ [O.getD k 0]] else grpK C O k ++ [[O.getD k 0]]
theorem grpK_ne (C : List (List (Int × Int))) (O : List Nat) (k : Nat) : 0 < k → grpK C O k ≠ [] := by
  intro h
  cases k with
  | zero => omega
  | succ k => unfold grpK; split <;> simp
theorem grpK_len (C : List (List (Int × Int))) (O : List Nat) : ∀ k, (grpK C O k).length ≤ k
  | 0 => Nat.le_refl _
  | k + 1 => by
    have := grpK_len C O k
    unfold grpK
    split
    · rw [List.length_append, List.length_dropLast]; simp; omega
    · rw [List.length_append]; simp; omega
theorem grpK_lens (C : List (List (Int × Int))) (O : List Nat) : ∀ k, ∀ g ∈ grpK C O k, g.length ≤ k
  | 0, g, h => by simp [grpK] at h
  | k + 1, g, h => by
    unfold grpK at h
    have ih := grpK_lens C O k
    split at h
    · rw [List.mem_append] at h
      rcases h with h | h
      · exact Nat.le_succ_of_le (ih g ((List.dropLast_sublist (grpK C O k)).subset h))
      · rw [List.mem_singleton] at h
        subst h
        rw [List.length_append]
        by_cases h0 : grpK C O k = []
        · rw [h0]; simp
        · rw [List.getLastD_eq_getLast?, List.getLast?_eq_some_getLast h0]
          have := ih _ (List.getLast_mem h0)
          simp only [Option.getD_some, List.length_singleton]
          omega
    · rw [List.mem_append] at h
      rcases h with h | h
      · exact Nat.le_succ_of_le (ih g h)
      · rw [List.mem_singleton] at h
        subst h
        simp
/-- a group, as it lies -/
structure Gr where
  g : Nat
  cap : Nat
  L : List Nat
def Gr.val (x : Gr) : Value := .slice (some ⟨x.g, 0, none⟩) x.L.length x.cap
/-- groups that the call owns, each in a block of its own -/
structure GrOk (B : Nat) (w : World) (v : Value) (G : List Gr) : Prop where
  row : w.ownsRow B 28 1 v G.length (G.map Gr.val)
  each : ∀ x ∈ G, w.ownsRow B 3 1 x.val x.L.length ((natL x.L).map (Value.int .i64))
  apart : (G.map Gr.g).Nodup
  off : ∀ x ∈ G, v.ownBlock ≠ some x.g
theorem val_blk (x : Gr) : x.val.ownBlock = some x.g := rfl
theorem GrOk.nil (B : Nat) (w : World) : GrOk B w (.slice none 0 0) [] := ⟨World.ownsRow_nil w _ _ _, fun x h => by simp at h, by simp, fun x h => by simp at h⟩
theorem GrOk.below {B : Nat} {w w' : World} {v : Value} {G : List Gr} (h : GrOk B w v G) (hB : Below w.heap.size w w') : GrOk B w' v G :=
  ⟨own_below h.row hB, fun x hx => own_below (h.each x hx) hB, h.apart, h.off⟩
theorem info31 : (Tryz.prog.info? 28).map (fun i => (i.zero, i.size, i.bytes)) = some (some (.slice none 0 0), 1, 24) := by kernel_rfl
/-- one more group, in a block that is new -/
theorem GrOk.more {B : Nat} {w w' : World} {v v' : Value} {G : List Gr} (h : GrOk B w v G) {x : Gr} (hx : w.ownsRow B 3 1 x.val x.L.length ((natL x.L).map (Value.int .i64))) (hnew : ∀ y ∈ G, y.g ≠ x.g) (hvx : v.ownBlock ≠ some x.g)
    (ho : w'.ownsRow B 28 1 v' (G.length + 1) (G.map Gr.val ++ [x.val])) (hg : w.grownBy w' v.ownBlock) (hb : v'.ownBlock = v.ownBlock ∨ ∀ k, v'.ownBlock = some k → w.heap.size ≤ k) : GrOk B w' v' (G ++ [x]) := by
  refine ⟨?_, ?_, ?_, ?_⟩
  · rw [List.length_append, List.map_append]; exact ho
  · intro y hy
    rw [List.mem_append, List.mem_singleton] at hy
    rcases hy with hy | rfl
    · exact (h.each y hy).kept hg (Or.inr fun e => h.off y hy e.symm)
    · exact hx.kept hg (Or.inr fun e => hvx e.symm)
  · rw [List.map_append, List.map_singleton, List.nodup_append]
    refine ⟨h.apart, by simp, ?_⟩
    intro a ha b hb' e
    rw [List.mem_singleton] at hb'
    obtain ⟨y, hy, rfl⟩ := List.mem_map.1 ha
    exact hnew y hy (e.trans hb')
  · intro y hy
    rcases hb with hb | hb
    · rw [hb]
      rw [List.mem_append, List.mem_singleton] at hy
      rcases hy with hy | rfl
      · exact h.off y hy
      · exact hvx
    · intro e
      have h1 := hb _ e
      rw [List.mem_append, List.mem_singleton] at hy
      have h2 : y.g < w.heap.size := by
        rcases hy with hy | rfl
        · exact ((h.each y hy).lt y.g rfl).2
        · exact (hx.lt _ rfl).2
      omega
theorem last_split {α : Type} [Inhabited α] {G : List α} (h : G ≠ []) : G = G.dropLast ++ [G.getLast h] := (List.dropLast_concat_getLast h).symm
/-- one more element in the last group -/
theorem GrOk.onto {B : Nat} {w w1 : World} {v v' : Value} {H : List Gr} {x : Gr} {i gb cap : Nat} (h : GrOk B w v (H ++ [x])) (hv : v = .slice (some ⟨gb, 0, none⟩) (H.length + 1) cap) {y : Gr} (hy : v' = y.val) (hyL : y.L = x.L ++ [i])
    (ho : w1.ownsRow B 3 1 v' (x.L.length + 1) ((natL x.L).map (Value.int .i64) ++ [.int .i64 (i : Int)])) (hg : w.grownBy w1 x.val.ownBlock) (hb : v'.ownBlock = x.val.ownBlock ∨ ∀ k, v'.ownBlock = some k → w.heap.size ≤ k) :
    GrOk B (w1.setCell ⟨gb, H.length, none⟩ v') v (H ++ [y]) := by
  subst hy
  have hx := h.each x (by simp)
  have hoff := h.off x (by simp)
  have hyg : y.g = x.g ∨ w.heap.size ≤ y.g := by
    rcases hb with hb | hb
    · left
      rw [val_blk, val_blk] at hb
      exact Option.some.inj hb
    · right; exact hb _ rfl
  have hgb : gb < w.heap.size := (h.row.lt gb (by rw [hv]; rfl)).2
  have hgx : gb ≠ x.g := fun e => hoff (by rw [hv, e]; rfl)
  have hyb : gb ≠ y.g := by
    rcases hyg with e | e
    · rw [e]; exact hgx
    · omega
  have hrow1 := h.row.kept hg (Or.inr (by rw [val_blk]; exact hoff))
  have hset := grownBy_set w1 ⟨gb, H.length, none⟩ y.val
  refine ⟨?_, ?_, ?_, ?_⟩
  · subst hv
    rw [List.length_append, List.length_singleton] at hrow1 ⊢
    have h2 := (hrow1.stored H.length y.val).1
    rw [List.map_append, List.map_singleton] at h2 ⊢
    have e : (H.map Gr.val ++ [x.val]).set H.length y.val = H.map Gr.val ++ [y.val] := by
      rw [List.set_append_right _ _ (by simp)]
      simp
    rw [← e]
    exact h2
  · intro z hz
    rw [List.mem_append, List.mem_singleton] at hz
    rcases hz with hz | rfl
    · have hzo := h.each z (by simp [hz])
      have hzx : z.g ≠ x.g := by
        have := h.apart
        rw [List.map_append, List.map_singleton, List.nodup_append] at this
        exact this.2.2 z.g (List.mem_map.2 ⟨z, hz, rfl⟩) x.g (by simp)
      have hz1 := hzo.kept hg (Or.inr (by rw [val_blk, val_blk]; exact fun e => hzx (Option.some.inj e)))
      refine hz1.kept hset (Or.inr ?_)
      rw [val_blk]
      intro e
      have := h.off z (by simp [hz])
      rw [hv] at this
      exact this e.symm
    · have e2 : ((natL z.L).map (Value.int .i64)) = (natL x.L).map (Value.int .i64) ++ [.int .i64 (i : Int)] := by rw [hyL]; simp [natL]
      have e3 : z.L.length = x.L.length + 1 := by rw [hyL]; simp
      rw [e2, e3]
      refine ho.kept hset (Or.inr ?_)
      rw [val_blk]
      intro e
      exact hyb (Option.some.inj e).symm
  · rw [List.map_append, List.map_singleton, List.nodup_append]
    have hap := h.apart
    rw [List.map_append, List.map_singleton, List.nodup_append] at hap
    refine ⟨hap.1, by simp, ?_⟩
    intro a ha b hb' e
    rw [List.mem_singleton] at hb'
    subst hb' e
    rcases hyg with e | e
    · exact hap.2.2 _ ha x.g (by simp) e
    · obtain ⟨z, hz, hzg⟩ := List.mem_map.1 ha
      have := ((h.each z (by simp [hz])).lt z.g rfl).2
      omega
  · intro z hz
    rw [List.mem_append, List.mem_singleton] at hz
    rcases hz with hz | rfl
    · exact h.off z (by simp [hz])
    · rw [hv]
      intro e
      exact hyb (Option.some.inj e)
end Go.Proofs.YtogdkgcgckdehaaGreat
/- preorder.Groups: the walk. -/
namespace Go.Proofs.YtogdkgcgckdehaaGreat
open Go.RowKit Go.Sort

def GroupsPost (w : World) (G0 : List (List Nat)) (e : Ending) (w' : World) : Prop :=
  ∃ v G, e = .returned (.tuple #[v, .int .i64 0]) ∧ G.map Gr.L = G0 ∧ GrOk w.heap.size w' v G ∧ Below w.heap.size w w'
theorem wrap_pred {k : Nat} (h : 0 < k) (h2 : k ≤ 1000000) : IntKind.i64.wrap ((k : Int) - 1) = ((k - 1 : Nat) : Int) := by rw [IntWalk.i64_in _ (by omega)]; omega
theorem grp_bound {C : List (List (Int × Int))} {O : List Nat} {k : Nat} {G : List Gr} (h : G.map Gr.L = grpK C O k) : G.length ≤ k ∧ ∀ x ∈ G, x.L.length ≤ k := by
  refine ⟨by rw [← List.length_map (f := Gr.L), h]; exact grpK_len C O k, fun x hx => grpK_lens C O k _ (by rw [← h]; exact List.mem_map.2 ⟨x, hx, rfl⟩)⟩
theorem natL_at {O : List Nat} {k : Nat} (h : k < O.length) : (natL O)[k]'(by rw [natL_len]; exact h) = ((O.getD k 0 : Nat) : Int) := by simp [natL, List.getD, h]
theorem grow_ok {B : Nat} {w : World} {v : Value} {G : List Gr} (h : GrOk B w v G) (q : Nat) (os : Array Obj) : GrOk B (grow (w.drewN q) os) v G := h.below (grw_form w q os).below
set_option maxHeartbeats 4000000 in
set_option maxRecDepth 100000 in
theorem groups_ok {a : Option Addr} {b off len cap : Nat} {M : List Rw} {w : World} (h : SlR w a b off len cap M) (hc : chkL (crit M) = 0) (h20 : len < 20) :
    Calls Tryz.prog 17 #[.slice a len cap] w fun e w' => ∃ O, OrdL (crit M) O ∧ GroupsPost w (grpK (crit M) O len) e w' := by
  have HS := Lib.hid h
  have hor := order_ok h hc h20
  have hcl : (crit M).length = len := by unfold crit; rw [List.length_map, h.sl.hl]
  have HCL := Lib.hid hcl
  obtain ⟨i0, hi, hz0, hz1, hz2⟩ := info_parts infoI
  obtain ⟨i1, hi1, hy0, hy1, hy2⟩ := info_parts info31
  clear h hc hcl
  go_enter Tryz.func17, Tryz.ntmps17
  go_wp2_with fail
  refine hor.mono ?_
  rintro e w1 ⟨gb, O, rfl, hO, hs, hgb, hB⟩
  have HO := Lib.hid hO
  have HSO := Lib.hid hs
  have HB := Lib.hid hB
  have HOL := Lib.hid (show O.length = len by rw [hO.len, HCL.out])
  clear hO hs hgb hB hor
  go_wp2_with fail
  go_loopw [6, 20] (fun s6 s20 wr => ∃ (k : Nat) (v : Value) (G : List Gr), k ≤ len ∧ s6 = v ∧ s20 = .int .i64 (k : Int) ∧ Hid (GrOk w1.heap.size wr v G) ∧ Hid (G.map Gr.L = grpK (crit M) O k) ∧ Hid (Below w1.heap.size w1 wr)) (fun _ s20 _ => (len - (intOf s20)).toNat)
  case atStart => exact ⟨0, _, [], Nat.zero_le _, rfl, rfl, Lib.hid (GrOk.nil _ _), Lib.hid rfl, Lib.hid (Below.refl _ _)⟩
  case round =>
    obtain ⟨k, v, G, hk, rfl, rfl, HG, HGL, HBr⟩ := hrel
    by_cases hlt : k < len
    · have l1 : (k : Int) < (len : Int) := by omega
      obtain rfl := HS.out.sl.ha (by omega)
      have hkO : k < O.length := by rw [HOL.out]; exact hlt
      have HBw := Lib.hid (HB.out.trans (HBr.out.mono HB.out.size))
      have HR := Lib.hid (HS.out.keep HBw.out)
      have HSR := Lib.hid (HSO.out.keep HBr.out)
      have hok : O.getD k 0 < len := by
        have := HO.out.lt (List.getElem_mem hkO)
        rw [HCL.out] at this
        simpa [List.getD, hkO] using this
      have ck : wr.cell? ⟨gb, k, none⟩ = some (.int .i64 ((O.getD k 0 : Nat) : Int)) := by
        have := HSR.out.cell k (by rw [natL_len]; exact hkO)
        rw [natL_at hkO, Nat.zero_add] at this
        exact this
      have hgbw := HSR.out.hb (by omega)
      have hbw := HR.out.sl.hb (by omega)
      have hMl : M.length = len := HS.out.sl.hl
      have hcap := HS.out.sl.hcap
      have hmax := HS.out.sl.hmax
      unfold maxLen at hmax
      obtain ⟨bd1, bd2⟩ := grp_bound HGL.out
      by_cases ht : 0 < k ∧ tieB (crit M) (O.getD (k - 1) 0) (O.getD k 0) = true
      · obtain ⟨hk0, htt⟩ := ht
        have HNX0 : grpK (crit M) O (k + 1) = (grpK (crit M) O k).dropLast ++ [(grpK (crit M) O k).getLastD [] ++ [O.getD k 0]] := by
          conv => lhs; unfold grpK
          rw [if_pos ⟨hk0, htt⟩]
        have hkp : k - 1 < O.length := by omega
        have hop : O.getD (k - 1) 0 < len := by
          have := HO.out.lt (List.getElem_mem hkp)
          rw [HCL.out] at this
          simpa [List.getD, hkp] using this
        have cp : wr.cell? ⟨gb, k - 1, none⟩ = some (.int .i64 ((O.getD (k - 1) 0 : Nat) : Int)) := by
          have := HSR.out.cell (k - 1) (by rw [natL_len]; exact hkp)
          rw [natL_at hkp, Nat.zero_add] at this
          exact this
        have hpM : O.getD (k - 1) 0 < M.length := by omega
        have hiM : O.getD k 0 < M.length := by omega
        have cu := HR.out.sl.cell _ hpM
        have cv := HR.out.sl.cell _ hiM
        have HA := Lib.hid (fun n os => ahead_any ((HR.out.rows _ (List.getElem_mem hpM)).keep (grw_form wr n os).below) ((HR.out.rows _ (List.getElem_mem hiM)).keep (grw_form wr n os).below))
        have htie : (rowC (M[O.getD k 0]'hiM).L (M[O.getD (k - 1) 0]'hpM).L == 0) = tieB (crit M) (O.getD (k - 1) 0) (O.getD k 0) := by
          unfold tieB ahC
          rw [crit_getD hpM, crit_getD hiM, Bool.eq_iff_iff, beq_iff_eq, decide_eq_true_eq]
        generalize rowC (M[O.getD k 0]'hiM).L (M[O.getD (k - 1) 0]'hpM).L = c at *
        generalize (M[O.getD (k - 1) 0]'hpM).val = u at *
        generalize (M[O.getD k 0]'hiM).val = u' at *
        clear hpM hiM hkp
        have HNX := Lib.hid HNX0
        clear HNX0
        obtain ⟨p, hp⟩ : ∃ p, O.getD (k - 1) 0 = p := ⟨_, rfl⟩
        obtain ⟨i, hi'⟩ : ∃ i, O.getD k 0 = i := ⟨_, rfl⟩
        rw [hp] at hop cp cu
        rw [hi'] at hok ck cv HNX
        clear hp hi'
        have K0 := fun n os => cell_grown (w := wr) (a := ⟨gb, k - 1, none⟩) hgbw cp n os
        have K1 := fun n os => cell_grown (w := wr) (a := ⟨b, off + p, none⟩) hbw cu n os
        have K2 := fun n os => cell_grown (w := wr) (a := ⟨b, off + i, none⟩) hbw cv n os
        have kw := wrap_pred hk0 (show k ≤ 1000000 by omega)
        have kz : 0 ≤ (k : Int) - 1 := by omega
        have k1 : ((k - 1 : Nat) : Int) < (len : Int) := by omega
        have k2 : (p : Int) < (len : Int) := by omega
        have k3 : (i : Int) < (len : Int) := by omega
        have k4 : decide ((k : Int) > 0) = true := decide_eq_true (by omega)
        have k5 : (k : Int) > 0 := by omega
        have k6 : decide (0 < k) = true := decide_eq_true hk0
        have mixed := mix
        rw [htt] at htie
        clear htt
        have k7 := htie
        clear htie
        go_wp2_with fail
        go_quiet_grown ((go_at_call 24; exact quietG (HA.out _ _)))
        have HGq := Lib.hid (grow_ok HG.out nq osq)
        have HBq := Lib.hid (HBr.out.trans ((grw_form wr nq osq).below.mono HBr.out.size))
        clear K0 K1 K2 cp cu cv ck HG HBr HA kw kz HBw HR HSR hgbw hbw
        generalize grow (wr.drewN nq) osq = wq at *
        have hne : G ≠ [] := by
          intro e
          have := HGL.out
          rw [e] at this
          exact grpK_ne (crit M) O k hk0 this.symm
        obtain ⟨H, x, rfl⟩ : ∃ H x, G = H ++ [x] := ⟨_, _, (List.dropLast_concat_getLast hne).symm⟩
        clear hne
        have hsh : ∃ gv cv, _ = Value.slice (some ⟨gv, 0, none⟩) (H.length + 1) cv := (by
          have := HGq.out.row
          rw [List.length_append, List.length_singleton] at this
          rcases this.2 with ⟨_, h0⟩ | ⟨gv, cv, cur, h', _⟩
          · omega
          · exact ⟨gv, cv, h'⟩)
        obtain ⟨gv, cv, rfl⟩ := hsh
        have hbq : w1.heap.size ≤ wq.heap.size := HBq.out.size
        have hx0 := bd2 x (by simp)
        have hH0 : H.length + 1 ≤ k := by rw [List.length_append, List.length_singleton] at bd1; exact bd1
        have cx : wq.cell? ⟨gv, H.length, none⟩ = some (.slice (some ⟨x.g, 0, none⟩) x.L.length x.cap) := by
          have := HGq.out.row
          rw [List.length_append, List.length_singleton] at this
          rw [this.cellAt H.length (by omega), List.map_append, List.map_singleton, List.getElem?_append_right (by simp)]
          simp [Gr.val]
        have hcell : ∀ j u, ([Value.int .i64 (i : Int)] : List Value)[j]? = some u → (wq.alloc (.cells #[.int .i64 (i : Int)] 3)).cell? ((⟨wq.heap.size, 0, none⟩ : Addr).add j) = some u := by
          intro j u hu
          cases j with
          | zero =>
            simp only [List.getElem?_cons_zero, Option.some.injEq] at hu
            subst hu
            exact box1_cell wq _ _
          | succ j => simp at hu
        have HCE := Lib.hid hcell
        have HGA := Lib.hid (HGq.out.below ((Below.refl wq.heap.size wq).alloc (Nat.le_refl _) (.cells #[.int .i64 (i : Int)] 3)))
        have HXA := Lib.hid (HGA.out.each x (by simp))
        have HBA := Lib.hid (HBq.out.trans (((Below.refl wq.heap.size wq).alloc (Nat.le_refl _) (.cells #[.int .i64 (i : Int)] 3)).mono hbq))
        unfold Gr.val at HXA
        clear hcell
        go_wp2_with (at_builtin; refine wpList_append_blk _ rfl _ _ 28 rfl w1.heap.size 3 i0 (.int .i64 0) 1 8 Tryz.underlying28 hi hz0 hz1 hz2 rfl (by decide) _ x.L.length ((natL x.L).map (Value.int .i64)) rfl HXA.out ⟨wq.heap.size, 0, none⟩ 1 1 [.int .i64 (i : Int)] rfl rfl HCE.out ?n1 ?n2 ?n3 ?n4 (by decide) ?_)
        case n1 => intro u hu; rw [List.mem_singleton] at hu; subst hu; rfl
        case n2 => unfold maxLen; omega
        case n3 => omega
        case n4 => exact HBA.out.size
        intro v' w2 ho hg hb
        obtain ⟨gy, cy, rfl⟩ : ∃ gy cy, v' = .slice (some ⟨gy, 0, none⟩) (x.L.length + 1) cy := by
          rcases ho.2 with ⟨_, h0⟩ | ⟨gy, cy, cur, h', _⟩
          · omega
          · exact ⟨gy, cy, h'⟩
        have hrow := HGA.out.row.kept hg (Or.inr (HGA.out.off x (by simp)))
        rw [List.length_append, List.length_singleton] at hrow
        have fz : w2.frozen? ⟨gv, H.length, none⟩ = false := hrow.frozenAt H.length
        have cz : w2.cell? ⟨gv, H.length, none⟩ = some x.val := by
          rw [hrow.cellAt H.length (by omega), List.map_append, List.map_singleton, List.getElem?_append_right (by simp)]
          simp
        have HON := Lib.hid (HGA.out.onto (i := i) (gb := gv) (cap := cv) rfl (y := ⟨gy, cy, x.L ++ [i]⟩) (v' := .slice (some ⟨gy, 0, none⟩) (x.L.length + 1) cy) (by simp [Gr.val]) rfl ho hg (by rcases hb with q | q; exact Or.inl q; exact Or.inr (fun k hk => by have := q k hk; simp; omega)))
        have HBF := Lib.hid ((HBA.out.grown hg HBA.out.size (fun k hk => ((HXA.out.lt k hk).1))).setCell (p := ⟨gv, H.length, none⟩) (show w1.heap.size ≤ gv from (HGA.out.row.lt gv rfl).1) (.slice (some ⟨gy, 0, none⟩) (x.L.length + 1) cy))
        clear ho hg hb HCE HGq HBq HGA HBA HXA cx hrow
        unfold Gr.val at cz
        go_wp2_with fail
        go_roundw
        case rel => exact ⟨k + 1, _, H ++ [⟨gy, cy, x.L ++ [i]⟩], by omega, rfl, by go_num, HON, Lib.hid (by rw [HNX.out, ← HGL.out]; simp [List.getLastD_eq_getLast?]), HBF⟩
        case measure => simp [intOf]; omega
      · have HNX0 : grpK (crit M) O (k + 1) = grpK (crit M) O k ++ [[O.getD k 0]] := by
          conv => lhs; unfold grpK
          rw [if_neg ht]
        by_cases hk0 : 0 < k
        · have htt : tieB (crit M) (O.getD (k - 1) 0) (O.getD k 0) = false := by
            cases he : tieB (crit M) (O.getD (k - 1) 0) (O.getD k 0) with
            | false => rfl
            | true => exact absurd ⟨hk0, he⟩ ht
          clear ht
          have hkp : k - 1 < O.length := by omega
          have hop : O.getD (k - 1) 0 < len := by
            have := HO.out.lt (List.getElem_mem hkp)
            rw [HCL.out] at this
            simpa [List.getD, hkp] using this
          have cp : wr.cell? ⟨gb, k - 1, none⟩ = some (.int .i64 ((O.getD (k - 1) 0 : Nat) : Int)) := by
            have := HSR.out.cell (k - 1) (by rw [natL_len]; exact hkp)
            rw [natL_at hkp, Nat.zero_add] at this
            exact this
          have hpM : O.getD (k - 1) 0 < M.length := by omega
          have hiM : O.getD k 0 < M.length := by omega
          have cu := HR.out.sl.cell _ hpM
          have cv := HR.out.sl.cell _ hiM
          have HA := Lib.hid (fun n os => ahead_any ((HR.out.rows _ (List.getElem_mem hpM)).keep (grw_form wr n os).below) ((HR.out.rows _ (List.getElem_mem hiM)).keep (grw_form wr n os).below))
          have htie : (rowC (M[O.getD k 0]'hiM).L (M[O.getD (k - 1) 0]'hpM).L == 0) = tieB (crit M) (O.getD (k - 1) 0) (O.getD k 0) := by
            unfold tieB ahC
            rw [crit_getD hpM, crit_getD hiM, Bool.eq_iff_iff, beq_iff_eq, decide_eq_true_eq]
          generalize rowC (M[O.getD k 0]'hiM).L (M[O.getD (k - 1) 0]'hpM).L = c at *
          generalize (M[O.getD (k - 1) 0]'hpM).val = u at *
          generalize (M[O.getD k 0]'hiM).val = u' at *
          clear hpM hiM hkp
          have HNX := Lib.hid HNX0
          clear HNX0
          obtain ⟨p, hp⟩ : ∃ p, O.getD (k - 1) 0 = p := ⟨_, rfl⟩
          obtain ⟨i, hi'⟩ : ∃ i, O.getD k 0 = i := ⟨_, rfl⟩
          rw [hp] at hop cp cu
          rw [hi'] at hok ck cv HNX
          clear hp hi'
          have K0 := fun n os => cell_grown (w := wr) (a := ⟨gb, k - 1, none⟩) hgbw cp n os
          have K1 := fun n os => cell_grown (w := wr) (a := ⟨b, off + p, none⟩) hbw cu n os
          have K2 := fun n os => cell_grown (w := wr) (a := ⟨b, off + i, none⟩) hbw cv n os
          have kw := wrap_pred hk0 (show k ≤ 1000000 by omega)
          have kz : 0 ≤ (k : Int) - 1 := by omega
          have k1 : ((k - 1 : Nat) : Int) < (len : Int) := by omega
          have k2 : (p : Int) < (len : Int) := by omega
          have k3 : (i : Int) < (len : Int) := by omega
          have k4 : decide ((k : Int) > 0) = true := decide_eq_true (by omega)
          have k5 : (k : Int) > 0 := by omega
          have k6 : decide (0 < k) = true := decide_eq_true hk0
          have mixed := mix
          rw [htt] at htie
          clear htt
          have k7 := htie
          clear htie
          go_wp2_with fail
          go_quiet_grown ((go_at_call 24; exact quietG (HA.out _ _)))
          have HGq := Lib.hid (grow_ok HG.out nq osq)
          have HBq := Lib.hid (HBr.out.trans ((grw_form wr nq osq).below.mono HBr.out.size))
          clear K0 K1 K2 cp cu cv ck HG HBr HA kw kz HBw HR HSR hgbw hbw
          generalize grow (wr.drewN nq) osq = wq at *
          obtain ⟨ao, cv, rfl, _⟩ := own_shape HGq.out.row
          have hbq : w1.heap.size ≤ wq.heap.size := HBq.out.size
          have HWX := Lib.hid (show ((wq.alloc (.cells #[.int .i64 (i : Int)] 3)).alloc (.cells #[.slice (some ⟨wq.heap.size, 0, none⟩) 1 1] 28)).ownsRow w1.heap.size 3 1 (Gr.val ⟨wq.heap.size, 1, [i]⟩) 1 ((natL [i]).map (Value.int .i64)) from
            World.ownsRow.alloc ⟨rfl, Or.inr ⟨wq.heap.size, 1, _, rfl, hbq, heap_alloc_new wq _, Nat.le_refl _, by decide, rfl, rfl⟩⟩ _)
          have hcell : ∀ j u, ([Value.slice (some ⟨wq.heap.size, 0, none⟩) 1 1] : List Value)[j]? = some u → ((wq.alloc (.cells #[.int .i64 (i : Int)] 3)).alloc (.cells #[.slice (some ⟨wq.heap.size, 0, none⟩) 1 1] 28)).cell? ((⟨wq.heap.size + 1, 0, none⟩ : Addr).add j) = some u := by
            intro j u hu
            cases j with
            | zero =>
              simp only [List.getElem?_cons_zero, Option.some.injEq] at hu
              subst hu
              exact box2_snd wq _ _ _ _
            | succ j => simp at hu
          have HCE := Lib.hid hcell
          have hgA := HGq.out.below (((Below.refl wq.heap.size wq).alloc (Nat.le_refl _) (.cells #[.int .i64 (i : Int)] 3)).alloc (by simp) (.cells #[.slice (some ⟨wq.heap.size, 0, none⟩) 1 1] 28))
          have HGA := Lib.hid hgA
          have HBA := Lib.hid (HBq.out.trans ((((Below.refl wq.heap.size wq).alloc (Nat.le_refl _) (.cells #[.int .i64 (i : Int)] 3)).alloc (by simp) (.cells #[.slice (some ⟨wq.heap.size, 0, none⟩) 1 1] 28)).mono hbq))
          clear hcell hgA
          go_wp2_with (at_builtin; refine wpList_append_blk _ rfl _ _ 41 rfl w1.heap.size 28 i1 (.slice none 0 0) 1 24 Tryz.underlying41 hi1 hy0 hy1 hy2 rfl (by decide) _ G.length (G.map Gr.val) rfl HGA.out.row ⟨wq.heap.size + 1, 0, none⟩ 1 1 [.slice (some ⟨wq.heap.size, 0, none⟩) 1 1] rfl rfl HCE.out ?n1 ?n2 ?n3 ?n4 (by decide) ?_)
          case n1 => intro u hu; rw [List.mem_singleton] at hu; subst hu; rfl
          case n2 => unfold maxLen; omega
          case n3 => omega
          case n4 => exact HBA.out.size
          intro v' w2 ho hg hb
          have HM := Lib.hid (HGA.out.more (x := ⟨wq.heap.size, 1, [i]⟩) HWX.out (fun y hy => Nat.ne_of_lt ((HGq.out.each y hy).lt y.g rfl).2) (fun e => Nat.lt_irrefl _ ((HGq.out.row.lt _ e).2)) ho hg (by rcases hb with q | q; exact Or.inl q; exact Or.inr (fun k hk => by have := q k hk; simp; omega)))
          have HBF := Lib.hid (HBA.out.grown hg HBA.out.size (fun k hk => ((HGA.out.row.lt k hk).1)))
          clear ho hg hb HCE HWX HGq HBq HGA HBA
          go_wp2_with fail
          go_roundw
          case rel => exact ⟨k + 1, v', G ++ [⟨wq.heap.size, 1, [i]⟩], by omega, rfl, by go_num, HM, Lib.hid (by rw [List.map_append, HGL.out, HNX.out]; rfl), HBF⟩
          case measure => simp [intOf]; omega
        · clear ht
          have HNX := Lib.hid HNX0
          clear HNX0
          obtain ⟨i, hi'⟩ : ∃ i, O.getD k 0 = i := ⟨_, rfl⟩
          rw [hi'] at hok ck HNX
          clear hi'
          have k4 : decide ((k : Int) > 0) = false := decide_eq_false (by omega)
          have k5 : ¬ (k : Int) > 0 := by omega
          have k6 : decide (0 < k) = false := decide_eq_false hk0
          have mixed := mix
          go_wp2_with fail
          go_quiet (fail)
          have HGq := Lib.hid (HG.out.below (bel_drewN (Below.refl wr.heap.size wr) nq))
          have HBq := Lib.hid (bel_drewN HBr.out nq)
          clear ck HG HBr HBw HR HSR hgbw hbw
          generalize wr.drewN nq = wq at *
          obtain ⟨ao, cv, rfl, _⟩ := own_shape HGq.out.row
          have hbq : w1.heap.size ≤ wq.heap.size := HBq.out.size
          have HWX := Lib.hid (show ((wq.alloc (.cells #[.int .i64 (i : Int)] 3)).alloc (.cells #[.slice (some ⟨wq.heap.size, 0, none⟩) 1 1] 28)).ownsRow w1.heap.size 3 1 (Gr.val ⟨wq.heap.size, 1, [i]⟩) 1 ((natL [i]).map (Value.int .i64)) from
            World.ownsRow.alloc ⟨rfl, Or.inr ⟨wq.heap.size, 1, _, rfl, hbq, heap_alloc_new wq _, Nat.le_refl _, by decide, rfl, rfl⟩⟩ _)
          have hcell : ∀ j u, ([Value.slice (some ⟨wq.heap.size, 0, none⟩) 1 1] : List Value)[j]? = some u → ((wq.alloc (.cells #[.int .i64 (i : Int)] 3)).alloc (.cells #[.slice (some ⟨wq.heap.size, 0, none⟩) 1 1] 28)).cell? ((⟨wq.heap.size + 1, 0, none⟩ : Addr).add j) = some u := by
            intro j u hu
            cases j with
            | zero =>
              simp only [List.getElem?_cons_zero, Option.some.injEq] at hu
              subst hu
              exact box2_snd wq _ _ _ _
            | succ j => simp at hu
          have HCE := Lib.hid hcell
          have hgA := HGq.out.below (((Below.refl wq.heap.size wq).alloc (Nat.le_refl _) (.cells #[.int .i64 (i : Int)] 3)).alloc (by simp) (.cells #[.slice (some ⟨wq.heap.size, 0, none⟩) 1 1] 28))
          have HGA := Lib.hid hgA
          have HBA := Lib.hid (HBq.out.trans ((((Below.refl wq.heap.size wq).alloc (Nat.le_refl _) (.cells #[.int .i64 (i : Int)] 3)).alloc (by simp) (.cells #[.slice (some ⟨wq.heap.size, 0, none⟩) 1 1] 28)).mono hbq))
          clear hcell hgA
          go_wp2_with (at_builtin; refine wpList_append_blk _ rfl _ _ 41 rfl w1.heap.size 28 i1 (.slice none 0 0) 1 24 Tryz.underlying41 hi1 hy0 hy1 hy2 rfl (by decide) _ G.length (G.map Gr.val) rfl HGA.out.row ⟨wq.heap.size + 1, 0, none⟩ 1 1 [.slice (some ⟨wq.heap.size, 0, none⟩) 1 1] rfl rfl HCE.out ?n1 ?n2 ?n3 ?n4 (by decide) ?_)
          case n1 => intro u hu; rw [List.mem_singleton] at hu; subst hu; rfl
          case n2 => unfold maxLen; omega
          case n3 => omega
          case n4 => exact HBA.out.size
          intro v' w2 ho hg hb
          have HM := Lib.hid (HGA.out.more (x := ⟨wq.heap.size, 1, [i]⟩) HWX.out (fun y hy => Nat.ne_of_lt ((HGq.out.each y hy).lt y.g rfl).2) (fun e => Nat.lt_irrefl _ ((HGq.out.row.lt _ e).2)) ho hg (by rcases hb with q | q; exact Or.inl q; exact Or.inr (fun k hk => by have := q k hk; simp; omega)))
          have HBF := Lib.hid (HBA.out.grown hg HBA.out.size (fun k hk => ((HGA.out.row.lt k hk).1)))
          clear ho hg hb HCE HWX HGq HBq HGA HBA
          go_wp2_with fail
          go_roundw
          case rel => exact ⟨k + 1, v', G ++ [⟨wq.heap.size, 1, [i]⟩], by omega, rfl, by go_num, HM, Lib.hid (by rw [List.map_append, HGL.out, HNX.out]; rfl), HBF⟩
          case measure => simp [intOf]; omega
    · obtain rfl : k = len := by omega
      have l1 : ¬ (k : Int) < (k : Int) := by omega
      go_wp2
      go_ret2
      exact ⟨O, HO.out, _, G, rfl, HGL.out, ⟨own_low HG.out.row HB.out.size, fun x hx => own_low (HG.out.each x hx) HB.out.size, HG.out.apart, HG.out.off⟩, HB.out.trans (HBr.out.mono HB.out.size)⟩
end Go.Proofs.YtogdkgcgckdehaaGreat
