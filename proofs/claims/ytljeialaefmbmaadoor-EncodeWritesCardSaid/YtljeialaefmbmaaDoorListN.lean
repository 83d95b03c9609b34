/- Plain facts of encodings: lists; and slices of strings that are known. -/
import Derived.Test.YtljeialaefmbmaaDoorPrefN
import Derived.Test.YtljeialaefmbmaaDoorSplit
set_option linter.unusedSimpArgs false
set_option linter.unusedVariables false
namespace Go.Proofs.YtljeialaefmbmaaDoor
open Go.RowKit

theorem at8_append {x y : ByteArray} {k : Nat} (h : k < x.size + y.size) : at8 (x ++ y) k = if k < x.size then at8 x k else at8 y (k - x.size) := by
  have hs : (x ++ y).size = x.size + y.size := ByteArray.size_append
  by_cases hk : k < x.size
  · rw [if_pos hk, at8_eq (by omega), at8_eq hk, ByteArray.getElem_append_left hk]
  · rw [if_neg hk, at8_eq (by omega), at8_eq (by omega), ByteArray.getElem_append_right (by omega)]
theorem extract_two {s : ByteArray} {i j k : Nat} (h1 : i ≤ j) (h2 : j ≤ k) (h3 : k ≤ s.size) : s.extract i j ++ s.extract j k = s.extract i k := by
  have e1 := size_extract (s := s) (i := i) (show j ≤ s.size by omega)
  have e2 := size_extract (s := s) (i := j) h3
  have e3 := size_extract (s := s) (i := i) h3
  apply ext_at8
  · rw [ByteArray.size_append, e1, e2, e3]; omega
  · intro n hn
    rw [ByteArray.size_append, e1, e2] at hn
    rw [at8_append (by omega), e1, at8_extract (i := i) (j := k) h3 (by omega)]
    split
    · rw [at8_extract (by omega) (by omega)]
    · rw [at8_extract h3 (by omega)]
      congr 1
      omega
theorem extract_all (s : ByteArray) : s.extract 0 s.size = s := by
  apply ext_at8
  · rw [size_extract (Nat.le_refl _)]; omega
  · intro n hn
    rw [size_extract (Nat.le_refl _)] at hn
    rw [at8_extract (Nat.le_refl _) hn, Nat.zero_add]
theorem sz0 : (⟨#[]⟩ : ByteArray).size = 0 := rfl
theorem sz1 (c : UInt8) : (⟨#[c]⟩ : ByteArray).size = 1 := rfl
theorem extract_none (s : ByteArray) (i : Nat) (h : i ≤ s.size) : s.extract i i = ⟨#[]⟩ := by
  apply ext_at8
  · rw [size_extract h, sz0]; omega
  · intro n hn
    rw [size_extract h] at hn
    omega
theorem extract_byte {s : ByteArray} {i : Nat} (h : i < s.size) (c : UInt8) (hc : at8 s i = c.toNat) : s.extract i (i + 1) = ⟨#[c]⟩ := by
  apply ext_at8
  · rw [size_extract (by omega), sz1]; omega
  · intro n hn
    rw [size_extract (by omega)] at hn
    obtain rfl : n = 0 := by omega
    rw [at8_extract (by omega) (by omega), Nat.add_zero, hc]
    rfl
theorem agr_left (x y : ByteArray) : Agr x 0 (x ++ y) 0 x.size := by
  have hs : (x ++ y).size = x.size + y.size := ByteArray.size_append
  refine ⟨by omega, by omega, fun k hk => ?_⟩
  rw [Nat.zero_add, at8_append (by omega), if_pos hk]
theorem agr_right (x y : ByteArray) : Agr y 0 (x ++ y) x.size y.size := by
  have hs : (x ++ y).size = x.size + y.size := ByteArray.size_append
  refine ⟨by omega, by omega, fun k hk => ?_⟩
  rw [Nat.zero_add, at8_append (by omega), if_neg (by omega)]
  congr 1
  omega
theorem Agr.trans {s t u : ByteArray} {a b c n : Nat} (h : Agr s a t b n) (k : Agr t b u c n) : Agr s a u c n :=
  ⟨h.1, k.2.1, fun j hj => (h.2.2 j hj).trans (k.2.2 j hj)⟩

/-- texts one behind the other -/
def joinB : List ByteArray → ByteArray
  | [] => ⟨#[]⟩
  | x :: l => x ++ joinB l
theorem append_nil' (x : ByteArray) : x ++ (⟨#[]⟩ : ByteArray) = x := ByteArray.append_empty
/-- what Split gives -/
theorem splitF_join {s : ByteArray} {D : Int} : ∀ (f a : Nat), InL s a D → s.size ≤ f + a → (∀ x ∈ splitF s f a, 0 ≤ depthS x ∧ depthS x ≤ 31) ∧ a ≤ s.size - 1 ∧ joinB (splitF s f a) = s.extract a (s.size - 1) ∧ at8 s (s.size - 1) = 101 := by
  intro f
  induction f with
  | zero =>
    intro a h hf
    have := h.lt
    omega
  | succ f ih =>
    intro a h hf
    have hlt := h.lt
    by_cases hk : (headS s a).kind = 4
    · have h1 := head_e_of hk
      have hh := head_e h1.1 h1.2
      obtain ⟨⟨c, c1, c2, e⟩, h0⟩ := h
      rw [measG_close hk (by omega), if_neg (by omega), if_pos rfl, hh] at e
      have e1 := congrArg Prod.fst e
      simp only at e1
      have ea : s.size - 1 = a := by omega
      rw [splitF, if_pos hk, ea]
      refine ⟨by simp, Nat.le_refl _, ?_, h1.2⟩
      rw [extract_none s a (by omega)]
      rfl
    · obtain ⟨hin2, g1, g2, g3, g4, g5⟩ := h.next hk
      obtain ⟨i1, i2, i3, i4⟩ := ih _ hin2 (by omega)
      rw [splitF, if_neg hk]
      refine ⟨?_, by omega, ?_, i4⟩
      · intro x hx
        rcases List.mem_cons.1 hx with rfl | hx
        · rw [depth_at (by omega) g3 g4 g2.symm]
          omega
        · exact i1 x hx
      · rw [joinB, i3, extract_two (by omega) (by omega) (by omega)]
theorem splitS_join {s : ByteArray} (hd : 1 ≤ depthS s) : (∀ x ∈ splitS s, 0 ≤ depthS x ∧ depthS x ≤ 31) ∧ (⟨#[108]⟩ ++ joinB (splitS s)) ++ ⟨#[101]⟩ = s := by
  obtain ⟨hk, hin⟩ := depthS_list hd
  obtain ⟨h1, h2, h3, h4⟩ := splitF_join s.size 1 hin (by omega)
  have hl := head_l_of hk
  refine ⟨h1, ?_⟩
  unfold splitS
  rw [h3, ← extract_byte hl.1 108 hl.2, ← extract_byte (s := s) (i := s.size - 1) (by omega) 101 h4, extract_two (by omega) h2 (by omega), show s.size - 1 + 1 = s.size by omega, extract_two (by omega) (by omega) (by omega), extract_all]
/-- the greatest depth -/
def deepF : Int → List ByteArray → Int
  | d, [] => d
  | d, x :: l => deepF (max d (depthS x)) l
theorem measG_join {s : ByteArray} : ∀ (l : List ByteArray) (a : Nat) (d : Int), (∀ x ∈ l, 0 ≤ depthS x ∧ depthS x ≤ 31) → 0 ≤ d → d ≤ 31 → Agr (joinB l) 0 s a (joinB l).size → a + (joinB l).size + 1 = s.size → at8 s (a + (joinB l).size) = 101 →
    measG s a 1 (d + 1) = ((s.size : Int), deepF d l + 1) ∧ ∀ f, s.size ≤ f + a → splitF s f a = l := by
  intro l
  induction l with
  | nil =>
    intro a d _ h1 h2 _ h4 h5
    have e0 : (joinB []).size = 0 := rfl
    rw [e0] at h4 h5
    have hh := head_e (s := s) (a := a) (by omega) h5
    have hk : (headS s a).kind = 4 := by rw [hh]
    refine ⟨?_, fun f hf => ?_⟩
    · rw [measG_close hk (by omega), if_neg (by omega), if_pos rfl, hh]
      simp only [deepF]
      congr 1
      omega
    · cases f with
      | zero => rfl
      | succ f => rw [splitF, if_pos hk]
  | cons x l ih =>
    intro a d hd h1 h2 h3 h4 h5
    have hx := hd x (by simp)
    have ej : joinB (x :: l) = x ++ joinB l := rfl
    have es : (joinB (x :: l)).size = x.size + (joinB l).size := by rw [ej, ByteArray.size_append]
    rw [es] at h4 h5
    have hxs := depthS_val hx.1
    have g1 : Agr x 0 s a x.size := (agr_left x (joinB l)).trans (by rw [es, ej] at h3; exact h3.le (by omega))
    have g2 : Agr (joinB l) 0 s (a + x.size) (joinB l).size := (agr_right x (joinB l)).trans (by
      rw [es, ej] at h3
      have := h3.drop (j := x.size) (by omega)
      rw [Nat.zero_add] at this
      exact this.le (by omega))
    have hm : measS s a = (((a + x.size : Nat) : Int), depthS x) := by
      have := measS_agr g1 (by rw [hxs]; exact hx.1) (by rw [hxs]; simp only; omega)
      rw [this, hxs]
      congr 1
      simp only
      omega
    have hk : (headS s a).kind ≠ 4 := by
      intro hk
      rw [measS_G, measG_close hk (by omega), if_pos (by omega)] at hm
      have := congrArg Prod.snd hm
      simp only at this
      omega
    have hi := ih (a + x.size) (max d (depthS x)) (fun y hy => hd y (by simp [hy])) (by omega) (by omega) g2 (by omega) (by rw [← h5]; congr 1; omega)
    refine ⟨?_, fun f hf => ?_⟩
    · rw [measG_val s a 1 (d + 1) (by omega) (by omega) (by omega) hk, hm]
      simp only [Int.toNat_natCast]
      rw [if_neg (by omega), show max (depthS x + 1) (d + 1) = max d (depthS x) + 1 by omega, hi.1]
      rfl
    · cases f with
      | zero => have := g1.2.1; omega
      | succ f =>
        rw [splitF, if_neg hk, hm]
        simp only [Int.toNat_natCast]
        have ex : s.extract a (a + x.size) = x := by
          have := extract_agr g1
          rw [Nat.zero_add, extract_all] at this
          exact this.symm
        have hpos : 0 < x.size := by
          rcases measS_ok x 0 with h6 | h6
          · rw [h6] at hxs
            have := congrArg Prod.snd hxs
            simp only at this
            omega
          · rw [hxs] at h6; simp only at h6; omega
        rw [ex, hi.2 f (by omega)]
theorem join_list {l : List ByteArray} (hd : ∀ x ∈ l, 0 ≤ depthS x ∧ depthS x ≤ 31) (hD : deepF 0 l ≤ 31) :
    depthS ((⟨#[108]⟩ ++ joinB l) ++ ⟨#[101]⟩) = deepF 0 l + 1 ∧ splitS ((⟨#[108]⟩ ++ joinB l) ++ ⟨#[101]⟩) = l := by
  obtain ⟨s, hs⟩ : ∃ s, s = (⟨#[108]⟩ ++ joinB l : ByteArray) ++ ⟨#[101]⟩ := ⟨_, rfl⟩
  rw [← hs]
  have e1 : ((⟨#[108]⟩ : ByteArray) ++ joinB l).size = 1 + (joinB l).size := ByteArray.size_append
  have es : s.size = 1 + (joinB l).size + 1 := by rw [hs, ByteArray.size_append, e1]; rfl
  have h0 : at8 s 0 = 108 := by
    rw [hs, at8_append (by rw [e1, sz1]; omega), if_pos (by omega), at8_append (by rw [sz1]; omega), if_pos (by rw [sz1]; omega)]
    rfl
  have h1 : at8 s (1 + (joinB l).size) = 101 := by
    rw [hs, at8_append (by rw [e1, sz1]; omega), if_neg (by omega), e1, Nat.sub_self]
    rfl
  have ha : Agr (joinB l) 0 s 1 (joinB l).size := by
    have g1 := agr_right (⟨#[108]⟩ : ByteArray) (joinB l)
    have g2 := agr_left ((⟨#[108]⟩ : ByteArray) ++ joinB l) ⟨#[101]⟩
    rw [← hs] at g2
    have g3 := g2.drop (j := 1) (by omega)
    exact g1.trans (by
      rw [Nat.zero_add] at g3
      exact g3.le (by omega))
  have hj := measG_join (s := s) l 1 0 hd (by omega) (by omega) ha (by omega) h1
  have hh := head_l (s := s) (a := 0) (by omega) h0
  have hm : measS s 0 = ((s.size : Int), deepF 0 l + 1) := by
    rw [measS_list (by rw [hh]), hh]
    exact hj.1
  refine ⟨?_, hj.2 s.size (by omega)⟩
  unfold depthS
  rw [hm]
  simp

/-- a slice of strings that is known -/
structure SlS (w : World) (a : Option Addr) (b off len cap : Nat) (L : List ByteArray) : Prop where
  hl : L.length = len
  ha : 0 < len → a = some ⟨b, off, none⟩
  hb : 0 < len → b < w.heap.size
  hcap : len ≤ cap
  hmax : cap ≤ maxLen
  cell : ∀ (k : Nat) (h : k < L.length), w.cell? ⟨b, off + k, none⟩ = some (.string L[k])
theorem SlS.keep {w w' : World} {a : Option Addr} {b off len cap : Nat} {L : List ByteArray} (h : SlS w a b off len cap L) (hB : Below w.heap.size w w') : SlS w' a b off len cap L := by
  obtain ⟨h1, h2, h3, h4, h5, h6⟩ := h
  refine ⟨h1, h2, fun h => Nat.lt_of_lt_of_le (h3 h) hB.size, h4, h5, fun k hk => ?_⟩
  exact (hB.cell (p := ⟨b, off + k, none⟩) (h3 (by omega))).trans (h6 k hk)
theorem SplitPost.view {w w' : World} {L : List ByteArray} {e : Ending} (h : SplitPost w L e w') : ∃ a b off len cap, e = .returned (.tuple #[.slice a len cap, .bool true]) ∧ SlS w' a b off len cap L ∧ Below w.heap.size w w' := by
  obtain ⟨v, rfl, ⟨hn, ⟨rfl, h0⟩ | ⟨g, cap, cur, rfl, hg, hcur, hcap, hmax, hsz, htake⟩⟩, hb⟩ := h
  · refine ⟨none, 0, 0, 0, 0, rfl, ⟨h0, fun h => absurd h (by omega), fun h => absurd h (by omega), Nat.le_refl _, Nat.zero_le _, fun k hk => absurd hk (by omega)⟩, hb⟩
  · refine ⟨some ⟨g, 0, none⟩, g, 0, L.length, cap, rfl, ⟨rfl, fun _ => rfl, fun _ => ?_, hcap, hmax, fun k hk => ?_⟩, hb⟩
    · rcases Nat.lt_or_ge g w'.heap.size with h' | h'
      · exact h'
      · rw [Array.getElem?_eq_none h'] at hcur; cases hcur
    · have h1 : cur.toList[k]? = some (.string L[k]) := by
        have := congrArg (fun l : List Value => l[k]?) htake
        simpa [hk] using this
      rw [Nat.zero_add]
      simp [World.cell?, hcur]
      simpa using h1
end Go.Proofs.YtljeialaefmbmaaDoor
