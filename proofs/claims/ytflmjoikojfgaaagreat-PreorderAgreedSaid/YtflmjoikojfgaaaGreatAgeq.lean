/- Equality of pairs; slices of pairs; the reference's Agrees. -/
import Derived.Test.YtflmjoikojfgaaaGreatRInv
import Derived.Test.YtflmjoikojfgaaaGreatRks
import Derived.Test.YtflmjoikojfgaaaGreatAgr
import Derived.Test.YtflmjoikojfgaaaGreatTip
import Derived.DeepKeys
set_option linter.unusedSimpArgs false
set_option linter.unusedVariables false
namespace Go.Proofs.YtflmjoikojfgaaaGreat
open Go.RowKit Go.Sort

theorem keyT2 : Tryz.prog.keyTypeAt 2 55 = true := by kernel_rfl
theorem eqP_any (x y : Int) (hp : Wf2 (x, y)) (w : World) : (Op.equalIn 10000 55 (.agg #[.int .i64 x, .int .i64 y]) (.agg #[.int .i64 x, .int .i64 y])).run Tryz.prog w = .ok true w := by
  obtain ⟨h1, h2⟩ := hp
  have hf : (valP (x, y)).formed Tryz.prog 55 = true := by simp [valP, Value.formed, Tryz.underlying55, cellsP]
  have e1 : ∀ (x : Int), (Lit.int .i64 x).wf = true → Tryz.prog.keyLits 1 3 [.int .i64 x] = some [.int .i64 x] := fun x hx => by
    unfold Program.keyLits
    simp [Tryz.underlying3, hx]
  have e2 : Tryz.prog.keyLits 2 55 (valP (x, y)).cells.toList = some [.int .i64 x, .int .i64 y] := by
    unfold Program.keyLits
    simp [Tryz.underlying55, valP, Value.cells, cellsP, cellsI, List.range, List.range.loop, e1 x h1, e1 y h2]
  obtain ⟨r, hr, hiff⟩ := run_equalIn_deep 9998 2 55 keyT2 w 2 2 (valP (x, y)) (valP (x, y)) _ _ hf hf e2 e2
  have : r = true := hiff.2 rfl
  subst this
  exact hr
/-- a slice of pairs -/
structure PrS (w : World) (a : Option Addr) (g n cap : Nat) (L : List (Int × Int)) : Prop where
  hl : L.length = n
  ha : 0 < n → a = some ⟨g, 0, none⟩
  hg : 0 < n → g < w.heap.size
  hcap : n ≤ cap
  hmax : cap ≤ maxLen
  cell : ∀ (k : Nat) (h : k < L.length), w.cell? ⟨g, k * 2, none⟩ = some (.int .i64 (L[k]'h).1) ∧ w.cell? ⟨g, k * 2 + 1, none⟩ = some (.int .i64 (L[k]'h).2)
theorem PrS.keep {w w' : World} {a : Option Addr} {g n cap : Nat} {L : List (Int × Int)} (h : PrS w a g n cap L) (hB : Below w.heap.size w w') : PrS w' a g n cap L :=
  ⟨h.hl, h.ha, fun h0 => Nat.lt_of_lt_of_le (h.hg h0) hB.size, h.hcap, h.hmax, fun k hk => by
    have hg := h.hg (by have := h.hl; omega)
    exact ⟨(hB.cell (p := ⟨g, k * 2, none⟩) hg).trans (h.cell k hk).1, (hB.cell (p := ⟨g, k * 2 + 1, none⟩) hg).trans (h.cell k hk).2⟩⟩
theorem prs_own {w : World} {base e n : Nat} {v : Value} {L : List (Int × Int)} (h : w.ownsRow base e 2 v n (flatP L)) (hl : L.length = n) : ∃ a g cap, v = .slice a n cap ∧ PrS w a g n cap L := by
  rcases h.2 with ⟨rfl, h0⟩ | ⟨g, cap, cur, rfl, hgb, hb, h2, h3, _⟩
  · subst h0
    have : L = [] := List.eq_nil_of_length_eq_zero hl
    subst this
    exact ⟨none, 0, 0, rfl, rfl, fun h => absurd h (Nat.lt_irrefl 0), fun h => absurd h (Nat.lt_irrefl 0), Nat.le_refl _, Nat.zero_le _, fun k hk => absurd hk (Nat.not_lt_zero k)⟩
  · refine ⟨_, g, cap, rfl, hl, fun _ => rfl, fun _ => (Array.getElem?_eq_some_iff.1 hb).1, h2, h3, fun k hk => ?_⟩
    obtain ⟨e1, e2⟩ := flatP_get L k hk
    exact ⟨by rw [h.cellAt (k * 2) (by omega), e1], by rw [h.cellAt (k * 2 + 1) (by omega), e2]⟩
theorem agr_mem {C : List (List Int)} {n : Nat} {p : Int × Int} (h : p ∈ agrI C n n) : ∃ a b : Nat, a < n ∧ b < n ∧ p = ((a : Int), (b : Int)) ∧ agrB C a b = true := by
  unfold agrI agrK at h
  obtain ⟨a, ha, h⟩ := List.mem_flatMap.1 h
  obtain ⟨b, hb, rfl⟩ := List.mem_map.1 h
  obtain ⟨hb1, hb2⟩ := List.mem_filter.1 hb
  exact ⟨a, b, List.mem_range.1 ha, List.mem_range.1 hb1, rfl, hb2⟩
theorem agr_trans {C : List (List Int)} {a b c : Nat} (h1 : agrB C a b = true) (h2 : agrB C b c = true) : agrB C a c = true := by
  unfold agrB at *
  rw [List.all_eq_true] at *
  intro r hr
  have x := h1 r hr
  have y := h2 r hr
  rw [decide_eq_true_eq] at *
  omega
theorem agrI_pre (C : List (List Int)) (n : Nat) : ∀ (d i : Nat), ∃ R, agrI C n (i + d) = agrI C n i ++ R
  | 0, i => ⟨[], by simp⟩
  | d + 1, i => by
    obtain ⟨R, hR⟩ := agrI_pre C n d i
    exact ⟨R ++ agrK C (i + d) n, by rw [show i + (d + 1) = i + d + 1 by omega, agrI_step, hR, List.append_assoc]⟩
theorem agrK_pre (C : List (List Int)) (i : Nat) : ∀ (d k : Nat), ∃ R, agrK C i (k + d) = agrK C i k ++ R
  | 0, k => ⟨[], by simp⟩
  | d + 1, k => by
    obtain ⟨R, hR⟩ := agrK_pre C i d k
    rw [show k + (d + 1) = k + d + 1 by omega, agrK_step]
    by_cases h : agrB C i (k + d) = true
    · rw [if_pos h, hR]; exact ⟨R ++ [((i : Int), ((k + d : Nat) : Int))], by rw [List.append_assoc]⟩
    · rw [if_neg h]; exact ⟨R, hR⟩
/-- the next pair is the one that is asked for -/
theorem agr_next {C : List (List Int)} {n i k : Nat} (hi : i < n) (hk : k < n) (h : agrB C i k = true) : (agrI C n n)[(agrI C n i ++ agrK C i k).length]? = some ((i : Int), (k : Int)) := by
  obtain ⟨R1, h1⟩ := agrI_pre C n (n - (i + 1)) (i + 1)
  rw [show i + 1 + (n - (i + 1)) = n by omega, agrI_step] at h1
  obtain ⟨R2, h2⟩ := agrK_pre C i (n - (k + 1)) (k + 1)
  rw [show k + 1 + (n - (k + 1)) = n by omega, agrK_step, if_pos h] at h2
  rw [h1, h2, show agrI C n i ++ (agrK C i k ++ [((i : Int), (k : Int))] ++ R2) ++ R1 = (agrI C n i ++ agrK C i k) ++ (((i : Int), (k : Int)) :: (R2 ++ R1)) by simp [List.append_assoc]]
  rw [List.getElem?_append_right (Nat.le_refl _), Nat.sub_self]
  rfl
set_option maxHeartbeats 2000000 in
set_option maxRecDepth 100000 in
theorem agrees_any {b off len cap N i k : Nat} {M : List Li} {w : World} (h : SlL w (some ⟨b, off, none⟩) b off len cap M) (hn : ∀ r ∈ M, r.L.length = N) (hi : i < N) (hk : k < N) (hpos : 0 < len) :
    Calls Tryz.prog 36 #[.slice (some ⟨b, off, none⟩) len cap, .int .i64 (i : Int), .int .i64 (k : Int)] w fun e w' => e = .returned (.bool (agrB (lis M) i k)) ∧ Drw w w' := by
  have hl := h.sl.hl
  have hcap := h.sl.hcap
  have hmax := h.sl.hmax
  unfold maxLen at hmax
  have HS := Lib.hid h
  have HN := Lib.hid hn
  have l2 : (i : Int) < (N : Int) := by omega
  have l3 : (k : Int) < (N : Int) := by omega
  have l0 : (len : Int) > 0 := by omega
  have l00 : (0 : Int) < (len : Int) := by omega
  clear h hn
  go_enter Tryz.func36, Tryz.ntmps36
  go_wp2_with fail
  go_loopw [7] (fun s7 wr => ∃ (n : Nat), n ≤ len ∧ s7 = .int .i64 (n : Int) ∧ Hid (Drw w wr) ∧ Hid (∀ (j : Nat) (hj : j < M.length), j < n → (M[j]'hj).L.getD i 0 < (M[j]'hj).L.getD k 0)) (fun s7 _ => (len - (intOf s7)).toNat)
  case atStart => exact ⟨0, Nat.zero_le _, rfl, Lib.hid (Drw.refl w), Lib.hid (fun j _ h => absurd h (Nat.not_lt_zero j))⟩
  case round =>
    obtain ⟨n, hnl, rfl, HD, HZ⟩ := hrel
    by_cases hlt : n < len
    · have l1 : (n : Int) < (len : Int) := by omega
      have hnM : n < M.length := by omega
      have hrl := HN.out _ (List.getElem_mem hnM)
      have HR := HS.out.keep HD.out.grw.below
      have x1 := HR.sl.cell n hnM
      have hrow := HR.rows _ (List.getElem_mem hnM)
      have hra := hrow.ha (by rw [hrl]; omega)
      have x2 := hrow.cell i (by rw [hrl]; exact hi)
      have x3 := hrow.cell k (by rw [hrl]; exact hk)
      have hrc := hrow.hcap
      have hrm := hrow.hmax
      unfold maxLen at hrm
      unfold Li.val at x1
      rw [hrl, hra] at x1
      rw [hrl] at hrc
      have g1 : (M[n]'hnM).L.getD i 0 = (M[n]'hnM).L[i]'(by rw [hrl]; exact hi) := by simp [List.getD, show i < (M[n]'hnM).L.length by rw [hrl]; exact hi]
      have g2 : (M[n]'hnM).L.getD k 0 = (M[n]'hnM).L[k]'(by rw [hrl]; exact hk) := by simp [List.getD, show k < (M[n]'hnM).L.length by rw [hrl]; exact hk]
      rw [← g1] at x2
      rw [← g2] at x3
      have HBad := Lib.hid (fun (hb : ¬ (M[n]'hnM).L.getD i 0 < (M[n]'hnM).L.getD k 0) => (show agrB (lis M) i k = false by
        unfold agrB
        rw [List.all_eq_false]
        exact ⟨_, lis_mem (List.getElem_mem hnM), by simpa using hb⟩))
      have HNx := Lib.hid (fun (hg : (M[n]'hnM).L.getD i 0 < (M[n]'hnM).L.getD k 0) => (fun (j : Nat) (hj : j < M.length) (hjk : j < n + 1) => by
        by_cases e : j = n
        · subst e; exact hg
        · exact HZ.out j hj (by omega) : ∀ (j : Nat) (hj : j < M.length), j < n + 1 → (M[j]'hj).L.getD i 0 < (M[j]'hj).L.getD k 0))
      generalize (M[n]'hnM).L.getD i 0 = x at *
      generalize (M[n]'hnM).L.getD k 0 = y at *
      generalize (M[n]'hnM).b = rb at *
      generalize (M[n]'hnM).off = ro at *
      generalize (M[n]'hnM).cap = rc at *
      clear hrl HR hrow hra g1 g2 HZ
      by_cases hxy : x < y
      · have f1 : decide (x ≥ y) = false := decide_eq_false (by omega)
        have f2 : ¬ y ≤ x := by omega
        have HE := Lib.hid (HNx.out hxy)
        clear HNx HBad
        go_wp2_with fail
        go_quiet (fail)
        go_wp2_with fail
        go_roundw
        case rel => exact ⟨n + 1, by omega, by go_num, Lib.hid (HD.out.step _), HE⟩
        case measure => simp [intOf]; omega
      · have f1 : decide (x ≥ y) = true := decide_eq_true (by omega)
        have f2 : y ≤ x := by omega
        have HE := Lib.hid (HBad.out hxy)
        clear HNx HBad
        go_wp2_with fail
        go_quiet (fail)
        go_wp2_with fail
        go_ret
        exact ⟨by rw [HE.out]; rfl, HD.out.step _⟩
    · obtain rfl : n = len := by omega
      have l1 : ¬ (n : Int) < (n : Int) := by omega
      have HE := Lib.hid (show agrB (lis M) i k = true by
        unfold agrB
        rw [List.all_eq_true]
        intro r hr
        obtain ⟨x, hx, rfl⟩ := List.mem_map.1 hr
        obtain ⟨j, hj, rfl⟩ := List.mem_iff_getElem.1 hx
        exact decide_eq_true (HZ.out j hj (by omega)))
      have l9 : decide ((0 : Nat) < n) = true := decide_eq_true hpos
      clear HZ
      go_wp2_with fail
      go_ret
      exact ⟨by rw [HE.out]; simp [hpos], HD.out⟩
end Go.Proofs.YtflmjoikojfgaaaGreat
