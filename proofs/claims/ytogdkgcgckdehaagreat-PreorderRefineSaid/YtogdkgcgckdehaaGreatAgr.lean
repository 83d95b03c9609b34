/- preorder.Agreed. -/
import Derived.Test.YtogdkgcgckdehaaGreatLis
import Derived.Test.YtogdkgcgckdehaaGreatApp
import Derived.Test.YtogdkgcgckdehaaGreatPrs
set_option linter.unusedSimpArgs false
set_option linter.unusedVariables false
namespace Go.Proofs.YtogdkgcgckdehaaGreat
open Go.RowKit Go.Sort Go.Shelf Go.Lib

/-- does i rank ahead of k in all of them -/
def agrB (C : List (List Int)) (i k : Nat) : Bool := C.all fun r => decide (r.getD i 0 < r.getD k 0)
/-- the pairs of i, up to k -/
def agrK (C : List (List Int)) (i k : Nat) : List (Int × Int) := ((List.range k).filter fun j => agrB C i j).map fun (j : Nat) => ((i : Int), (j : Int))
/-- the pairs of all up to i -/
def agrI (C : List (List Int)) (n i : Nat) : List (Int × Int) := (List.range i).flatMap fun j => agrK C j n
theorem agrK_step (C : List (List Int)) (i k : Nat) : agrK C i (k + 1) = if agrB C i k = true then agrK C i k ++ [((i : Int), (k : Int))] else agrK C i k := by
  unfold agrK
  rw [List.range_succ, List.filter_append, List.map_append]
  by_cases h : agrB C i k = true
  · rw [if_pos h]; simp [h]
  · rw [if_neg h]; simp [h]
theorem agrI_step (C : List (List Int)) (n i : Nat) : agrI C n (i + 1) = agrI C n i ++ agrK C i n := by
  unfold agrI
  rw [List.range_succ, List.flatMap_append]
  simp
theorem agrK_len (C : List (List Int)) (i k : Nat) : (agrK C i k).length ≤ k := by
  unfold agrK
  rw [List.length_map]
  exact Nat.le_trans (List.length_filter_le _ _) (by simp)
theorem agrI_len (C : List (List Int)) (n : Nat) : ∀ i, (agrI C n i).length ≤ i * n
  | 0 => by simp [agrI]
  | i + 1 => by
    have h1 := agrI_len C n i
    have h2 := agrK_len C i n
    rw [agrI_step, List.length_append, Nat.add_mul, Nat.one_mul]
    omega
theorem infoQ : (Tryz.prog.info? 52).map (fun i => (i.zero, i.size, i.bytes)) = some (some (.agg #[.int .i64 0, .int .i64 0]), 2, 16) := by kernel_rfl
def AgrPost (w : World) (L : List (Int × Int)) (e : Ending) (w' : World) : Prop :=
  ∃ v, e = .returned (.tuple #[v, .int .i64 0]) ∧ w'.ownsRow w.heap.size 52 2 v L.length (flatP L) ∧ Below w.heap.size w w'
set_option maxHeartbeats 1000000 in
set_option maxRecDepth 100000 in
/-- the closure: is the number at i not less than that at k -/
theorem agr1_any {W : World} {bi bk rb ro n cap : Nat} {L : List Int} (h : SlI W (some ⟨rb, ro, none⟩) rb ro n cap L) {i k : Nat} (hi : i < n) (hk : k < n) (c1 : W.cell? ⟨bi, 0, none⟩ = some (.int .i64 (i : Int))) (c2 : W.cell? ⟨bk, 0, none⟩ = some (.int .i64 (k : Int))) :
    Calls Tryz.prog 44 #[.slice (some ⟨rb, ro, none⟩) n cap, .pointer (some ⟨bi, 0, none⟩), .pointer (some ⟨bk, 0, none⟩)] W fun e w' => e = .returned (.bool (decide (L.getD k 0 ≤ L.getD i 0))) ∧ ∃ q, w' = W.drewN q := by
  have hl := h.hl
  have hcap := h.hcap
  have hmax := h.hmax
  unfold maxLen at hmax
  have x1 : W.cell? ⟨rb, ro + i, none⟩ = some (.int .i64 (L.getD i 0)) := by rw [h.cell i (by omega)]; simp [List.getD, show i < L.length by omega]
  have x2 : W.cell? ⟨rb, ro + k, none⟩ = some (.int .i64 (L.getD k 0)) := by rw [h.cell k (by omega)]; simp [List.getD, show k < L.length by omega]
  have l1 : (i : Int) < (n : Int) := by omega
  have l2 : (k : Int) < (n : Int) := by omega
  generalize L.getD i 0 = u at *
  generalize L.getD k 0 = v at *
  clear h hl
  go_enter Tryz.func44, Tryz.ntmps44
  go_wp2_with fail
  go_quiet (fail)
  go_wp2
  go_ret
  exact ⟨rfl, nq, rfl⟩
abbrev LiN (w : World) (n : Nat) : Type := { r : Li // r.ok w ∧ r.L.length = n }
set_option maxRecDepth 100000 in
/-- do all of them agree on i and k -/
theorem contL_any {b off len cap n : Nat} {M : List Li} {w : World} {bi bk : Nat} (h : SlL w (some ⟨b, off, none⟩) b off len cap M) (hn : ∀ r ∈ M, r.L.length = n) (hpos : 0 < len) {i k : Nat} (hi : i < n) (hk : k < n)
    (c1 : w.cell? ⟨bi, 0, none⟩ = some (.int .i64 (i : Int))) (c2 : w.cell? ⟨bk, 0, none⟩ = some (.int .i64 (k : Int))) (h1 : bi < w.heap.size) (h2 : bk < w.heap.size) :
    Calls Tryz.prog 45 #[.slice (some ⟨b, off, none⟩) len cap, .func (.func 44) #[] #[.pointer (some ⟨bi, 0, none⟩), .pointer (some ⟨bk, 0, none⟩)]] w fun e w' => e = .returned (.bool (!agrB (lis M) i k)) ∧ ∃ q, w' = w.drewN q := by
  have hm := h.sl.hmax
  have hc := h.sl.hcap
  unfold maxLen at hm
  obtain ⟨zs, hz⟩ : ∃ zs : List (LiN w n), zs.map Subtype.val = M := ⟨M.attach.map fun r => ⟨r.1, h.rows r.1 r.2, hn r.1 r.2⟩, by
    rw [List.map_map]
    exact List.attach_map_subtype_val M⟩
  have hzl : zs.length = len := by rw [← h.sl.hl, ← hz, List.length_map]
  haveI : Inhabited (LiN w n) := by
    cases zs with
    | nil => simp at hzl; omega
    | cons z t => exact ⟨z⟩
  have hsl : SlG (fun r : LiN w n => r.1.val) w (some ⟨b, off, none⟩) b off len cap zs := by
    have := h.sl
    rw [← hz] at this
    exact this.unmap
  have e0 : (!agrB (lis M) i k) = zs.any fun r => decide (r.1.L.getD k 0 ≤ r.1.L.getD i 0) := by
    unfold agrB lis
    rw [← hz, List.map_map, List.all_map, List.not_all_eq_any_not]
    congr 1
    funext r
    simp only [Function.comp]
    rw [Bool.eq_iff_iff]
    simp
  rw [e0]
  refine (Tryz.slices_ContainsFunc (fun r : LiN w n => r.1.val) (fun r => decide (r.1.L.getD k 0 ≤ r.1.L.getD i 0)) 44 #[.pointer (some ⟨bi, 0, none⟩), .pointer (some ⟨bk, 0, none⟩)] (enters_of Tryz.func44 (by kernel_rfl) rfl) b off len cap zs w ?_ (by rw [hzl]; exact Nat.le_refl _) (by omega) (fun j hj => ?_)).mono ?_
  · rintro W ⟨⟨ra, rb, ro, rc, rL⟩, hok0, hrl⟩ hW
    have hok : SlI W ra rb ro rL.length rc rL := hok0.keep hW
    have hrl2 : rL.length = n := hrl
    have ha : ra = some ⟨rb, ro, none⟩ := hok.ha (by omega)
    subst ha
    rw [hrl2] at hok
    have e : (Li.val ⟨some ⟨rb, ro, none⟩, rb, ro, rc, rL⟩) = .slice (some ⟨rb, ro, none⟩) n rc := by unfold Li.val; simp only [hrl2]
    have hx := agr1_any hok hi hk ((hW.cell (p := ⟨bi, 0, none⟩) h1).trans c1) ((hW.cell (p := ⟨bk, 0, none⟩) h2).trans c2)
    rw [← e] at hx
    exact hx
  · rw [hsl.cell j hj]; simp [hj]
  · rintro e w1 ⟨rfl, q, rfl⟩
    exact ⟨by rw [List.take_of_length_le (by rw [hzl]; exact Nat.le_refl _)], q, rfl⟩
set_option maxHeartbeats 1000000 in
theorem agr_no {a : Option Addr} {b off len cap : Nat} {M : List Li} {w : World} (h : SlL w a b off len cap M) (hz : ∀ r ∈ M, r.L.length ≤ 1000000) {c : Int} (hc : crkL (lis M) = c) (h0 : c ≠ 0) :
    Calls Tryz.prog 21 #[.slice a len cap] w fun e w' => e = .returned (.tuple #[.slice none 0 0, .int .i64 c]) ∧ Below w.heap.size w w' := by
  have hck := crk_any h hz
  rw [hc] at hck
  have HC := Lib.hid hck
  have k0 : (c != 0) = true := by simpa using h0
  have k1 : (c == 0) = false := by simpa using h0
  clear h hz hc hck h0
  go_enter Tryz.func21, Tryz.ntmps21
  go_wp2_with fail
  refine HC.out.mono ?_
  rintro e w1 ⟨rfl, hb⟩
  have HB := Lib.hid hb
  clear hb HC
  go_wp2
  go_ret2
  exact ⟨rfl, HB.out⟩
set_option maxHeartbeats 1000000 in
theorem agr_none {a : Option Addr} {b off cap : Nat} {w : World} (h : SlL w a b off 0 cap []) :
    Calls Tryz.prog 21 #[.slice a 0 cap] w (AgrPost w []) := by
  have hck := crk_any h (fun r hr => by simp at hr)
  rw [show crkL (lis []) = 0 from rfl] at hck
  have HC := Lib.hid hck
  clear h hck
  go_enter Tryz.func21, Tryz.ntmps21
  go_wp2_with fail
  refine HC.out.mono ?_
  rintro e w1 ⟨rfl, hb⟩
  have HB := Lib.hid hb
  clear hb HC
  go_wp2
  go_ret2
  exact ⟨_, rfl, World.ownsRow_nil w1 _ _ _, HB.out⟩
set_option maxHeartbeats 4000000 in
set_option maxRecDepth 100000 in
theorem agr_ok {a : Option Addr} {b off len cap : Nat} {M : List Li} {w : World} (h : SlL w a b off len cap M) (hz : ∀ r ∈ M, r.L.length ≤ 1000) (hc : crkL (lis M) = 0) (hpos : 0 < len) :
    Calls Tryz.prog 21 #[.slice a len cap] w (AgrPost w (agrI (lis M) (headI (lis M)) (headI (lis M)))) := by
  obtain ⟨hc1, hc2⟩ := crk_ok hc
  have hck := crk_any h (fun r hr => Nat.le_trans (hz r hr) (by omega))
  rw [hc] at hck
  have HC := Lib.hid hck
  have hlM : M.length = len := h.sl.hl
  have hcl : (lis M).length = len := by rw [lis_len, hlM]
  obtain rfl := h.sl.ha hpos
  have h0M : 0 < M.length := by omega
  have hn0 : (M[0]'h0M).L.length = headI (lis M) := (rnks_at hc2 (lis_mem (List.getElem_mem h0M))).1
  have HROW := Lib.hid (fun (r : Li) (hr : r ∈ M) => (rnks_at hc2 (lis_mem hr)).1)
  have hnz : headI (lis M) ≤ 1000 := by rw [← hn0]; exact hz _ (List.getElem_mem h0M)
  have HS := Lib.hid h
  have hcap := h.sl.hcap
  have hmax := h.sl.hmax
  unfold maxLen at hmax
  obtain ⟨n, hn⟩ : ∃ n, headI (lis M) = n := ⟨_, rfl⟩
  rw [hn] at hn0 HROW hnz ⊢
  have HN0 := Lib.hid hn0
  obtain ⟨ip, hip, hp0, hp1, hp2⟩ := info_parts infoQ
  clear h hz hc hck hc1 hc2 hcl hlM hn0 hn
  have k0 : ((len : Int) == 0) = false := by rw [beq_eq_false_iff_ne]; omega
  have k2 : (0 : Int) < (len : Int) := by omega
  go_enter Tryz.func21, Tryz.ntmps21
  go_wp2_with fail
  refine HC.out.mono ?_
  rintro e w1 ⟨rfl, hb⟩
  have HB1 := Lib.hid hb
  have HS1 := Lib.hid (HS.out.keep hb)
  clear hb HC HS
  have HX0 := Lib.hid (show ∀ W, Below w1.heap.size w1 W → W.cell? ⟨b, off, none⟩ = some (.slice (M[0]'h0M).a n (M[0]'h0M).cap) from fun W hW => by
    have := (HS1.out.keep hW).sl.cell 0 h0M
    unfold Li.val at this
    rw [HN0.out] at this
    exact this)
  generalize (M[0]'h0M).a = a0 at *
  generalize (M[0]'h0M).cap = c0 at *
  have x0 := HX0.out w1 (Below.refl _ _)
  go_wp2_with fail
  clear x0
  go_loopw [5, 23] (fun s5 s23 wr => ∃ (i : Nat), i ≤ n ∧ s23 = .int .i64 (i : Int) ∧ Hid (wr.ownsRow w1.heap.size 52 2 s5 (agrI (lis M) n i).length (flatP (agrI (lis M) n i))) ∧ Hid (Below w1.heap.size w1 wr)) (fun _ s23 _ => (n - (intOf s23)).toNat)
  case atStart => exact ⟨0, Nat.zero_le _, rfl, Lib.hid (World.ownsRow_nil w1 _ _ _), Lib.hid (Below.refl _ _)⟩
  case round =>
    obtain ⟨i, hi', rfl, HO, HB⟩ := hrel
    by_cases hlt : i < n
    · have l1 : (i : Int) < (n : Int) := by omega
      have x0 : ∀ o, (wr.alloc o).cell? ⟨b, off, none⟩ = some (.slice a0 n c0) := fun o => HX0.out _ (HB.out.alloc HB.out.size o)
      have hbo := HO.out
      have hBA := HB.out.alloc HB.out.size (.cells #[.int .i64 (i : Int)] 3)
      have hba := HO.out.alloc (.cells #[.int .i64 (i : Int)] 3)
      have hci : (wr.alloc (.cells #[.int .i64 (i : Int)] 3)).cell? ⟨wr.heap.size, 0, none⟩ = some (.int .i64 (i : Int)) := box1_cell wr _ _
      have hsi : wr.heap.size < (wr.alloc (.cells #[.int .i64 (i : Int)] 3)).heap.size := by simp
      have hoff := fun e => Nat.lt_irrefl _ ((HO.out.lt wr.heap.size e).2)
      have hbs : w1.heap.size ≤ wr.heap.size := HB.out.size
      have y0 := x0 (.cells #[.int .i64 (i : Int)] 3)
      have HSTI := Lib.hid (agrI_step (lis M) n i)
      have hil := agrI_len (lis M) n i
      have hin : i * n ≤ 1000 * 1000 := Nat.mul_le_mul (by omega) (by omega)
      clear x0
      go_wp2_with fail
      clear y0
      have HBA := Lib.hid hBA
      have HOA := Lib.hid hba
      have HCI := Lib.hid hci
      have HSI := Lib.hid hsi
      have HOF := Lib.hid hoff
      clear hbo hBA hba hci hsi hoff HO HB
      generalize wr.alloc (.cells #[.int .i64 (i : Int)] 3) = W0 at *
      generalize wr.heap.size = bi at *
      go_loopw [5, 30] (fun s5 s30 wi => ∃ (k : Nat), k ≤ n ∧ s30 = .int .i64 (k : Int) ∧ Hid (wi.ownsRow w1.heap.size 52 2 s5 (agrI (lis M) n i ++ agrK (lis M) i k).length (flatP (agrI (lis M) n i ++ agrK (lis M) i k))) ∧ Hid (Below w1.heap.size w1 wi) ∧ Hid (wi.cell? ⟨bi, 0, none⟩ = some (.int .i64 (i : Int))) ∧ Hid (bi < wi.heap.size) ∧ Hid (s5.ownBlock ≠ some bi)) (fun _ s30 _ => (n - (intOf s30)).toNat)
      case atStart => exact ⟨0, Nat.zero_le _, rfl, (by rw [show agrK (lis M) i 0 = [] from rfl, List.append_nil]; exact HOA), HBA, HCI, HSI, Lib.hid HOF.out⟩
      case round =>
        clear HBA HOA HCI HSI HOF
        obtain ⟨k, hk, rfl, HO, HB, HCI, HSI, HOF⟩ := hrel
        by_cases hlk : k < n
        · have l2 : (k : Int) < (n : Int) := by omega
          have hsz : wr.heap.size = wr.heap.size := rfl
          have hBA := Lib.hid (HB.out.alloc HB.out.size (.cells #[.int .i64 (k : Int)] 3))
          have hcont := contL_any (HS1.out.keep hBA.out) HROW.out hpos hlt hlk (bi := bi) (bk := wr.heap.size) ((Below.cell ((Below.refl wr.heap.size wr).alloc (Nat.le_refl _) (.cells #[.int .i64 (k : Int)] 3)) (p := ⟨bi, 0, none⟩) HSI.out).trans HCI.out) (box1_cell wr _ _) (by have := HSI.out; simp; omega) (by simp)
          have HCK := Lib.hid (box1_cell wr (.int .i64 (k : Int)) 3)
          have HCO := Lib.hid hcont
          have HST := Lib.hid (agrK_step (lis M) i k)
          have hkl := agrK_len (lis M) i k
          have hll : (agrI (lis M) n i ++ agrK (lis M) i k).length ≤ 1001000 := by rw [List.length_append]; omega
          clear hcont hsz
          obtain ⟨v, hv⟩ : ∃ v, agrB (lis M) i k = v := ⟨_, rfl⟩
          rw [hv] at HCO HST
          clear hv
          cases v with
          | false =>
            go_wp2_with fail
            refine HCO.out.mono ?_
            rintro e w6 ⟨rfl, q, rfl⟩
            have HO6 := Lib.hid (show ((wr.alloc (.cells #[.int .i64 (k : Int)] 3)).drewN q).ownsRow w1.heap.size 52 2 _ _ _ from HO.out.alloc (.cells #[.int .i64 (k : Int)] 3))
            have HB6 := Lib.hid (bel_drewN hBA.out q)
            have HC6 := Lib.hid (show ((wr.alloc (.cells #[.int .i64 (k : Int)] 3)).drewN q).cell? ⟨bi, 0, none⟩ = some (.int .i64 (i : Int)) from (Below.cell ((Below.refl wr.heap.size wr).alloc (Nat.le_refl _) (.cells #[.int .i64 (k : Int)] 3)) (p := ⟨bi, 0, none⟩) HSI.out).trans HCI.out)
            have HS6 := Lib.hid (show bi < ((wr.alloc (.cells #[.int .i64 (k : Int)] 3)).drewN q).heap.size by have := HSI.out; simp; omega)
            generalize (wr.alloc (.cells #[.int .i64 (k : Int)] 3)).drewN q = w6 at *
            clear HCO HO HB HCI HSI hBA HCK
            go_wp2_with fail
            go_roundw
            case rel => exact ⟨k + 1, by omega, by go_num, (by rw [HST.out]; exact HO6), HB6, HC6, HS6, HOF⟩
            case measure => simp [intOf]; omega
          | true =>
            go_wp2_with fail
            refine HCO.out.mono ?_
            rintro e w6 ⟨rfl, q, rfl⟩
            have HO6 := Lib.hid (show ((wr.alloc (.cells #[.int .i64 (k : Int)] 3)).drewN q).ownsRow w1.heap.size 52 2 _ _ _ from HO.out.alloc (.cells #[.int .i64 (k : Int)] 3))
            have HB6 := Lib.hid (bel_drewN hBA.out q)
            have c6 : ((wr.alloc (.cells #[.int .i64 (k : Int)] 3)).drewN q).cell? ⟨bi, 0, none⟩ = some (.int .i64 (i : Int)) := (Below.cell ((Below.refl wr.heap.size wr).alloc (Nat.le_refl _) (.cells #[.int .i64 (k : Int)] 3)) (p := ⟨bi, 0, none⟩) HSI.out).trans HCI.out
            have d6 : ((wr.alloc (.cells #[.int .i64 (k : Int)] 3)).drewN q).cell? ⟨wr.heap.size, 0, none⟩ = some (.int .i64 (k : Int)) := HCK.out
            have HS6 := Lib.hid (show bi < ((wr.alloc (.cells #[.int .i64 (k : Int)] 3)).drewN q).heap.size by have := HSI.out; simp; omega)
            generalize (wr.alloc (.cells #[.int .i64 (k : Int)] 3)).drewN q = w6 at *
            generalize wr.heap.size = bk at *
            clear HCO HO HB HCI HSI hBA HCK
            have hcell : ∀ j u, ([Value.int .i64 (i : Int), Value.int .i64 (k : Int)] : List Value)[j]? = some u → (w6.alloc (.cells #[.int .i64 (i : Int), .int .i64 (k : Int)] 52)).cell? ((⟨w6.heap.size, 0, none⟩ : Addr).add j) = some u := by
              intro j u hu
              match j, hu with
              | 0, hu => simp only [List.getElem?_cons_zero, Option.some.injEq] at hu; subst hu; unfold World.cell?; simp only [Addr.add_lit]; rw [heap_alloc_new]; rfl
              | 1, hu => simp only [List.getElem?_cons_succ, List.getElem?_cons_zero, Option.some.injEq] at hu; subst hu; unfold World.cell?; simp only [Addr.add_lit]; rw [heap_alloc_new]; rfl
              | j + 2, hu => simp at hu
            have HCE := Lib.hid hcell
            have HBA := Lib.hid (HB6.out.alloc HB6.out.size (.cells #[.int .i64 (i : Int), .int .i64 (k : Int)] 52))
            have HOA := Lib.hid (HO6.out.alloc (.cells #[.int .i64 (i : Int), .int .i64 (k : Int)] 52))
            have HC6 := Lib.hid c6
            clear hcell
            go_wp2_with (at_builtin; refine wpList_append_blk _ rfl _ _ 49 rfl w1.heap.size 52 ip (.agg #[.int .i64 0, .int .i64 0]) 2 16 Tryz.underlying49 hip hp0 hp1 hp2 rfl (by decide) _ _ _ rfl HOA.out ⟨w6.heap.size, 0, none⟩ 1 1 [.int .i64 (i : Int), .int .i64 (k : Int)] rfl rfl HCE.out ?n1 ?n2 ?n3 ?n4 (by decide) ?_)
            case n1 => intro u hu; simp only [List.mem_cons, List.not_mem_nil, or_false] at hu; rcases hu with rfl | rfl <;> rfl
            case n2 => unfold maxLen; omega
            case n3 => omega
            case n4 => exact HBA.out.size
            intro v' w7 ho hg hb
            have HO7 := Lib.hid ho
            have HB7 := Lib.hid (HBA.out.grown hg HBA.out.size (fun k hk => ((HOA.out.lt k hk).1)))
            have HC7 := Lib.hid (show w7.cell? ⟨bi, 0, none⟩ = some (.int .i64 (i : Int)) from (World.cell?_of_block (hg.block bi (by have := HS6.out; simp; omega) (fun e => HOF.out e.symm))).trans ((Below.cell ((Below.refl w6.heap.size w6).alloc (Nat.le_refl _) (.cells #[.int .i64 (i : Int), .int .i64 (k : Int)] 52)) (p := ⟨bi, 0, none⟩) HS6.out).trans HC6.out))
            have HS7 := Lib.hid (show bi < w7.heap.size by have h1 := HS6.out; have h2 := hg.size; simp at h2; omega)
            have HF7 := Lib.hid (show v'.ownBlock ≠ some bi from by
              rcases hb with hb | hb
              · rw [hb]; exact HOF.out
              · intro e
                have h1 := hb _ e
                have h2 := HS6.out
                (try simp at h1)
                omega)
            clear ho hg hb HCE HBA HOA HC6 HO6 HB6 HOF HS6 c6 d6
            go_wp2_with fail
            go_roundw
            case rel => exact ⟨k + 1, by omega, by go_num, (by
              rw [HST.out]
              (first | rw [if_pos rfl] | simp only [if_true])
              rw [← List.append_assoc]
              have := HO7.out
              rw [List.length_append (bs := [((i : Int), (k : Int))]), List.length_append]
              rw [show flatP ((agrI (lis M) n i ++ agrK (lis M) i k) ++ [((i : Int), (k : Int))]) = flatP (agrI (lis M) n i ++ agrK (lis M) i k) ++ [.int .i64 (i : Int), .int .i64 (k : Int)] from by unfold flatP; rw [List.flatMap_append]; rfl]
              exact Lib.hid this), HB7, HC7, HS7, HF7⟩
            case measure => simp [intOf]; omega
        · obtain rfl : k = n := by omega
          have l2 : ¬ (k : Int) < (k : Int) := by omega
          clear HCI HSI HOF
          go_wp2_with fail
          go_roundw
          case rel => exact ⟨i + 1, by omega, by go_num, (by rw [HSTI.out]; exact HO), HB⟩
          case measure => simp [intOf]; omega
    · obtain rfl : i = n := by omega
      have l1 : ¬ (i : Int) < (i : Int) := by omega
      go_wp2
      go_ret2
      exact ⟨_, rfl, ⟨HO.out.1, HO.out.2.imp id fun ⟨g, cap, cur, r1, r2, r3⟩ => ⟨g, cap, cur, r1, Nat.le_trans HB1.out.size r2, r3⟩⟩, HB1.out.trans (HB.out.mono HB1.out.size)⟩
end Go.Proofs.YtogdkgcgckdehaaGreat
