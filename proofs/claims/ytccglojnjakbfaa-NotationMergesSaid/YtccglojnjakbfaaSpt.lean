/- Contracts of layer 19: Clone, Split. -/
import Derived.Test.YtccglojnjakbfaaChs
set_option linter.unusedSimpArgs false
set_option linter.unusedVariables false
namespace Go.Proofs.Ytccglojnjakbfaa
open Go.RowKit

theorem slx_flat {w : World} {b off len cap : Nat} {L : List It} {a : Option Addr} (h : SlX w a b off len cap L) : ∀ j u, (flatX L)[j]? = some u → w.cell? ((⟨b, off, none⟩ : Addr).add j) = some u := by
  intro j u hu
  have hj : j < (flatX L).length := by
    by_cases hh : j < (flatX L).length
    · exact hh
    · rw [List.getElem?_eq_none (by omega)] at hu; exact absurd hu (by simp)
  rw [flatX_len] at hj
  have hk : j / 5 < L.length := by omega
  obtain ⟨e0, e1, e2, e3, e4⟩ := flatX_get L (j / 5) hk
  have c0 := h.c0 _ hk
  have c1 := h.c1 _ hk
  have c2 := h.c2 _ hk
  have c3 := h.c3 _ hk
  have c4 := h.c4 _ hk
  rcases (show j % 5 = 0 ∨ j % 5 = 1 ∨ j % 5 = 2 ∨ j % 5 = 3 ∨ j % 5 = 4 by omega) with hm | hm | hm | hm | hm
  · rw [show j / 5 * 5 = j by omega] at e0 c0
    rw [hu] at e0
    rw [e0, Addr.add_lit]
    exact c0
  · rw [show j / 5 * 5 + 1 = j by omega] at e1
    rw [show off + j / 5 * 5 + 1 = off + j by omega] at c1
    rw [hu] at e1
    rw [e1, Addr.add_lit]
    exact c1
  · rw [show j / 5 * 5 + 2 = j by omega] at e2
    rw [show off + j / 5 * 5 + 2 = off + j by omega] at c2
    rw [hu] at e2
    rw [e2, Addr.add_lit]
    exact c2
  · rw [show j / 5 * 5 + 3 = j by omega] at e3
    rw [show off + j / 5 * 5 + 3 = off + j by omega] at c3
    rw [hu] at e3
    rw [e3, Addr.add_lit]
    exact c3
  · rw [show j / 5 * 5 + 4 = j by omega] at e4
    rw [show off + j / 5 * 5 + 4 = off + j by omega] at c4
    rw [hu] at e4
    rw [e4, Addr.add_lit]
    exact c4
/-- what Clone gives -/
def ClnPost (w : World) (L : List It) (e : Ending) (w' : World) : Prop :=
  ∃ (r : Lx), e = .returned r.val ∧ r.L = L ∧ r.ok w' ∧ w.heap.size ≤ r.b ∧ Below w.heap.size w w'
set_option maxHeartbeats 4000000 in
set_option maxRecDepth 100000 in
theorem clone_any {b off len cap : Nat} {L : List It} {w : World} (h : SlX w (some ⟨b, off, none⟩) b off len cap L) (h0 : 0 < len) (hl : len ≤ 1000000) :
    Calls Try.prog 33 #[.slice (some ⟨b, off, none⟩) len cap] w (ClnPost w L) := by
  have HS := Lib.hid h
  have hln := h.hl
  have hfl := flatX_len L
  have HL1 := Lib.hid (flatX_one L)
  obtain ⟨iz, hi, hz0, hz1, hz2⟩ := info_parts infoX
  have HO := Lib.hid (World.ownsRow_made (e := 49) (size := 5) (base := w.heap.size) w #[] 0 (Nat.le_refl _) (Nat.zero_le _) rfl)
  have HC := Lib.hid (slx_flat (h.keep ((Below.refl _ _).alloc (Nat.le_refl _) (.cells #[] 49))))
  have HB := Lib.hid ((Below.refl w.heap.size w).alloc (Nat.le_refl _) (.cells #[] 49))
  have hq := fun (w : World) (a : Option Addr) (n c n' c' : Nat) => Lib.run_eql_slice_nil (P := Try.prog) w 23 49 a n c n' c' Try.underlying23
  unfold ClnPost
  clear h
  go_enter Try.func33, Try.ntmps33
  go_wp2_with (at_builtin; go_loud (refine wpList_append_blk _ rfl _ _ 23 rfl w.heap.size 49 iz (.agg #[.string ⟨#[]⟩, .int .i64 0, .bool false, .bool false, .bool false]) 5 32 Try.underlying23 hi hz0 hz1 hz2 rfl (by decide) _ _ _ rfl HO.out ⟨b, off, none⟩ len cap (flatX L) rfl (by rw [hfl, hln]) HC.out HL1.out ?n2 ?n3 ?n4 h0 ?_))
  case n2 => unfold maxLen; omega
  case n3 => omega
  case n4 => simp
  intro v' w1 ho hg hbk
  have ho2 : w1.ownsRow w.heap.size 49 5 v' L.length (flatX L) := by
    rw [hln]
    simpa using ho
  obtain ⟨ao, bo, cv, rfl, sl, hbo⟩ := slx_own ho2
  have HB1 := Lib.hid (HB.out.grown hg (by simp) (by intro k hk; simp [Value.ownBlock] at hk; omega))
  have HSL := Lib.hid sl
  have hbo2 := hbo (by omega)
  clear ho ho2 hg hbk sl
  go_wp2_with fail
  go_ret
  exact ⟨⟨ao, bo, 0, cv, L⟩, rfl, rfl, HSL.out, hbo2, HB1.out⟩
theorem slx_sub {w : World} {b off len cap i j : Nat} {L : List It} (h : SlX w (some ⟨b, off, none⟩) b off len cap L) (hij : i ≤ j) (hj : j ≤ len) : SlX w (some ⟨b, off + i * 5, none⟩) b (off + i * 5) (j - i) (cap - i) ((L.drop i).take (j - i)) := by
  obtain ⟨h1, h2, h3, h4, h5, h6, h7, h8, h9, h10⟩ := h
  have hlen : ((L.drop i).take (j - i)).length = j - i := by simp; omega
  have hget : ∀ (k : Nat) (hk : k < ((L.drop i).take (j - i)).length), ((L.drop i).take (j - i))[k]'hk = L[i + k]'(by rw [hlen] at hk; omega) := by
    intro k hk
    rw [List.getElem_take, List.getElem_drop]
  refine ⟨hlen, fun _ => rfl, fun h => h3 (by omega), by omega, by omega, fun k hk => ?_, fun k hk => ?_, fun k hk => ?_, fun k hk => ?_, fun k hk => ?_⟩
  · rw [hget k hk, show off + i * 5 + k * 5 = off + (i + k) * 5 by omega]; exact h6 _ _
  · rw [hget k hk, show off + i * 5 + k * 5 + 1 = off + (i + k) * 5 + 1 by omega]; exact h7 _ _
  · rw [hget k hk, show off + i * 5 + k * 5 + 2 = off + (i + k) * 5 + 2 by omega]; exact h8 _ _
  · rw [hget k hk, show off + i * 5 + k * 5 + 3 = off + (i + k) * 5 + 3 by omega]; exact h9 _ _
  · rw [hget k hk, show off + i * 5 + k * 5 + 4 = off + (i + k) * 5 + 4 by omega]; exact h10 _ _
theorem infoS : (Try.prog.info? 23).map (fun i => (i.zero, i.size, i.bytes)) = some (some (.slice none 0 0), 1, 24) := by kernel_rfl
/-- a chain's items -/
def cutX (L : List It) (c : Nat × Nat) : List It := (L.drop c.1).take (c.2 - c.1)
/-- the call's own slice of slices of items -/
structure OwM (w : World) (base : Nat) (v : Value) (M : List Lx) : Prop where
  o : w.ownsRow base 23 1 v M.length (M.map Lx.val)
  each : ∀ r ∈ M, r.ok w ∧ r.b < w.heap.size
  far : ∀ g, v.ownBlock = some g → ∀ r ∈ M, r.b ≠ g
theorem OwM.keep {w w' : World} {base : Nat} {v : Value} {M : List Lx} (h : OwM w base v M) (hB : Below w.heap.size w w') : OwM w' base v M :=
  ⟨own_below h.o hB, fun r hr => ⟨SlX.keep (h.each r hr).1 hB, Nat.lt_of_lt_of_le (h.each r hr).2 hB.size⟩, h.far⟩
theorem owm_nil (w : World) (base : Nat) : OwM w base (.slice none 0 0) [] := ⟨World.ownsRow_nil _ _ _ _, fun r hr => absurd hr (by simp), fun _ _ r hr => absurd hr (by simp)⟩
/-- what Split gives -/
def SptPost (w : World) (L : List It) (e : Ending) (w' : World) : Prop :=
  ∃ (v : Value) (M : List Lx), e = .returned v ∧ OwM w' w.heap.size v M ∧ M.map Lx.L = (chnL 0 0 L).map (cutX L) ∧ Below w.heap.size w w'
theorem chn_len : ∀ (l : List It) (f i : Nat), (chnL f i l).length ≤ l.length
  | [], f, i => by simp [chnL]
  | x :: t, f, i => by
    rw [chnL]
    split
    · have := chn_len t (i + 1) (i + 1)
      simp only [List.length_cons]; omega
    · have := chn_len t f (i + 1)
      simp only [List.length_cons]; omega
set_option maxHeartbeats 4000000 in
set_option maxRecDepth 100000 in
theorem split_any {w : World} {a : Option Addr} {b off len cap : Nat} {L : List It} (h : SlX w a b off len cap L) (hm : len ≤ 1000000) :
    Calls Try.prog 22 #[.slice a len cap] w (SptPost w L) := by
  obtain ⟨iz, hi, hz0, hz1, hz2⟩ := info_parts infoS
  have hl0 := h.hl
  have HS := Lib.hid h
  have HCH := Lib.hid (chains_any h hm)
  have HIN := Lib.hid (chnL_in L 0 0 (Nat.le_refl _))
  have hcl := chn_len L 0 0
  unfold ChsPost at HCH
  unfold SptPost
  generalize chnL 0 0 L = C at *
  clear h
  go_enter Try.func22, Try.ntmps22
  go_wp2_with fail
  refine HCH.out.mono ?_
  rintro e w1 ⟨v, rfl, ho, hb1⟩
  obtain ⟨aq, bq, cq, rfl, slq⟩ := slq_own ho
  have HS1 := Lib.hid (HS.out.keep hb1)
  have HQ1 := Lib.hid slq
  have HB1 := Lib.hid hb1
  have hcm : C.length ≤ 1000000 := by omega
  have hsz1 : w.heap.size ≤ w1.heap.size := hb1.size
  clear ho slq hb1 HCH HS
  go_wp2_with fail
  go_loopw [3, 9] (fun s3 s9 wr => ∃ (k : Nat) (M : List Lx), k ≤ C.length ∧ s9 = .int .i64 (k : Int) ∧ M.length = k ∧ Hid (OwM wr w1.heap.size s3 M) ∧ Hid (Below w1.heap.size w1 wr) ∧ Hid (M.map Lx.L = (C.take k).map (cutX L))) (fun _ s9 _ => (C.length - (intOf s9)).toNat)
  case atStart => exact ⟨0, [], Nat.zero_le _, rfl, rfl, Lib.hid (owm_nil _ _), Lib.hid (Below.refl _ _), Lib.hid (by simp)⟩
  case round =>
    obtain ⟨k, M, hk, rfl, hML, HO, HB, HE⟩ := hrel
    obtain ⟨ao, cv, rfl⟩ := own_form HO.out.o
    have HML := Lib.hid hML
    have HO := Lib.hid (show OwM wr w1.heap.size (.slice ao k cv) M by rw [← hML]; exact HO.out)
    rw [hML]
    by_cases hlt : k < C.length
    · have hl : (k : Int) < (C.length : Int) := by omega
      have SQ := HQ1.out.keep HB.out
      obtain rfl := SQ.ha (by omega)
      have sbq := SQ.hb (by omega)
      have q0 := SQ.c0 k hlt
      have q1 := SQ.c1 k hlt
      have hin := HIN.out _ (List.getElem_mem hlt)
      have HNX := Lib.hid (show (C.take (k + 1)).map (cutX L) = (C.take k).map (cutX L) ++ [cutX L (C[k]'hlt)] by
        rw [List.take_succ_eq_append_getElem hlt, List.map_append]; rfl)
      generalize C[k]'hlt = c at *
      obtain ⟨ci, cj⟩ := c
      simp only [Nat.zero_add] at q0 q1 hin
      have SX := HS1.out.keep HB.out
      obtain rfl := SX.ha (by omega)
      have sbx := SX.hb (by omega)
      have hcap := SX.hcap
      have HSX := Lib.hid SX
      have b1 : 0 ≤ (ci : Int) := by omega
      have b2 : (ci : Int) ≤ (cj : Int) := by omega
      have b3 : (cj : Int) ≤ (cap : Int) := by omega
      have hszr : w1.heap.size ≤ wr.heap.size := HB.out.size
      have HBV := Lib.hid ((Below.refl wr.heap.size wr).alloc (Nat.le_refl _) (.cells #[.int .i64 (ci : Int), .int .i64 (cj : Int)] 42))
      have HQB := Lib.hid (show (wr.alloc (.cells #[.int .i64 (ci : Int), .int .i64 (cj : Int)] 42)).cell? ⟨wr.heap.size, 0, none⟩ = some (.int .i64 (ci : Int)) ∧ (wr.alloc (.cells #[.int .i64 (ci : Int), .int .i64 (cj : Int)] 42)).cell? ⟨wr.heap.size, 1, none⟩ = some (.int .i64 (cj : Int)) by constructor <;> simp [go_sem])
      clear SQ SX hML
      go_wp2_with fail
      have HCL := Lib.hid (clone_any (slx_sub (HSX.out.keep HBV.out) (show ci ≤ cj by omega) (show cj ≤ len by omega)) (by omega) (by omega))
      have HO2 := Lib.hid (HO.out.keep HBV.out)
      have HB2 := Lib.hid (HB.out.trans (HBV.out.mono hszr))
      have hVs : wr.heap.size < (wr.alloc (.cells #[.int .i64 (ci : Int), .int .i64 (cj : Int)] 42)).heap.size := by simp
      generalize (wr.alloc (.cells #[.int .i64 (ci : Int), .int .i64 (cj : Int)] 42)) = V at *
      refine HCL.out.mono ?_
      rintro e w3 ⟨r, rfl, hrL, hrok, hrb, hb3⟩
      have hsz3 : V.heap.size ≤ w3.heap.size := hb3.size
      have HO3 := Lib.hid (HO2.out.keep hb3)
      have HB3 := Lib.hid (HB2.out.trans (hb3.mono (show w1.heap.size ≤ V.heap.size by omega)))
      have HRL := Lib.hid hrL
      have HRB := Lib.hid (show r.b < w3.heap.size ∨ r.L.length = 0 by
        rcases Nat.eq_zero_or_pos r.L.length with h0 | h0
        · exact Or.inr h0
        · exact Or.inl (hrok.hb h0))
      have HRO := Lib.hid hrok
      have HOLD := Lib.hid (show ∀ g, (Value.slice ao k cv).ownBlock = some g → g < V.heap.size from fun g hg => (HO2.out.o.lt g hg).2)
      obtain ⟨ra, rb, ro, rc, rL⟩ := r
      simp only at hrb HRL HRB
      have hrLl : rL.length = cj - ci := by rw [HRL.out]; simp only [cutX, List.length_take, List.length_drop]; have := HSX.out.hl; omega
      have HOA := Lib.hid (HO3.out.o.alloc (.cells #[.slice ra rL.length rc] 23))
      have HBA := Lib.hid (HB3.out.alloc (show w1.heap.size ≤ w3.heap.size by omega) (.cells #[.slice ra rL.length rc] 23))
      have HCE := Lib.hid (show ∀ j u, ([Value.slice ra rL.length rc] : List Value)[j]? = some u → (w3.alloc (.cells #[.slice ra rL.length rc] 23)).cell? ((⟨w3.heap.size, 0, none⟩ : Addr).add j) = some u from by
        intro j u hu
        match j, hu with
        | 0, hu => simp at hu; subst hu; simp [go_sem, Addr.add]
        | j + 1, hu => simp at hu)
      have HRLn := Lib.hid hrLl
      clear hrL hrok hb3 HCL HSX HBV HQB q0 q1 hrLl
      unfold Lx.val
      simp only
      have hkm : k + 1 ≤ 1000000 := by omega
      go_wp2_with (at_builtin; go_loud (refine wpList_append_blk _ rfl _ _ 40 rfl w1.heap.size 23 iz (.slice none 0 0) 1 24 Try.underlying40 hi hz0 hz1 hz2 rfl (by decide) _ _ _ rfl HOA.out ⟨w3.heap.size, 0, none⟩ 1 1 [.slice ra rL.length rc] rfl rfl HCE.out ?n1 ?n2 ?n3 ?n4 (by decide) ?_))
      case n1 => intro u hu; simp at hu; subst hu; rfl
      case n2 => unfold maxLen; rw [HML.out]; omega
      case n3 => rw [HML.out]; omega
      case n4 => first | omega | (simp; omega)
      intro v' w7 ho hg hbk
      have hA7 : (w3.alloc (.cells #[.slice ra rL.length rc] 23)).heap.size = w3.heap.size + 1 := by simp
      have HOM := Lib.hid (show OwM w7 w1.heap.size v' (M ++ [⟨ra, rb, ro, rc, rL⟩]) from by
        have hAB : Below w3.heap.size w3 (w3.alloc (.cells #[.slice ra rL.length rc] 23)) := (Below.refl _ _).alloc (Nat.le_refl _) _
        have hlen0 : 0 < rL.length := by rw [HRLn.out]; omega
        have hrb3 : rb < w3.heap.size := HRB.out.resolve_right (by first | omega | (simp only; omega))
        refine ⟨?_, ?_, ?_⟩
        · rw [List.length_append, List.length_singleton, List.map_append]
          exact ho
        · intro r hr
          rw [List.mem_append, List.mem_singleton] at hr
          rcases hr with hr | rfl
          · obtain ⟨a1, a2⟩ := HO3.out.each r hr
            refine ⟨(SlX.keep a1 hAB).grown hg (fun _ e => ?_), Nat.lt_of_lt_of_le a2 (Nat.le_trans hAB.size hg.size)⟩
            exact HO3.out.far _ e.symm r hr rfl
          · refine ⟨(SlX.keep HRO.out hAB).grown hg (fun _ e => ?_), Nat.lt_of_lt_of_le hrb3 (Nat.le_trans hAB.size hg.size)⟩
            have := HOLD.out _ e.symm
            simp only at this
            omega
        · intro g hgv r hr
          rcases hbk with hbk | hbk
          · rw [hbk] at hgv
            rw [List.mem_append, List.mem_singleton] at hr
            rcases hr with hr | rfl
            · exact HO3.out.far g hgv r hr
            · have := HOLD.out g hgv
              simp only
              omega
          · have h1 := hbk g hgv
            rw [List.mem_append, List.mem_singleton] at hr
            rcases hr with hr | rfl
            · have := (HO3.out.each r hr).2
              omega
            · simp only
              omega)
      have HB7 := Lib.hid (HBA.out.grown hg (by rw [hA7]; omega) (fun g h => (HO3.out.o.lt g h).1))
      clear ho hg hbk HOA HBA HCE HO3 HB3 hA7
      go_wp2_with fail
      go_roundw
      case rel => exact ⟨k + 1, M ++ [⟨ra, rb, ro, rc, rL⟩], by omega, by go_num, by rw [List.length_append, List.length_singleton, HML.out], HOM, HB7, Lib.hid (by rw [List.map_append, HE.out, HNX.out, show cutX L (ci, cj) = rL from HRL.out.symm]; rfl)⟩
      case measure => simp [intOf]; omega
    · obtain rfl : k = C.length := by omega
      have hl : ¬ (C.length : Int) < (C.length : Int) := by omega
      go_wp2_with fail
      go_ret
      refine ⟨_, rfl, M, ?_, by rw [HE.out, List.take_length], HB1.out.trans (HB.out.mono hsz1)⟩
      exact ⟨own_low HO.out.o hsz1, HO.out.each, HO.out.far⟩
end Go.Proofs.Ytccglojnjakbfaa
