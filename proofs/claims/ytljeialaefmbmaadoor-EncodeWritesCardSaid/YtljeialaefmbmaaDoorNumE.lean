/- Plain facts: numbers as digits and back; what is written at an offset is read there. -/
import Derived.Test.YtljeialaefmbmaaDoorListN
import Derived.Test.YtljeialaefmbmaaDoorWriteC
set_option linter.unusedSimpArgs false
set_option linter.unusedVariables false
namespace Go.Proofs.YtljeialaefmbmaaDoor
open Go.RowKit

/-- the value of digits -/
def valL (l : List UInt8) : Nat := l.foldl (fun v c => v * 10 + (c.toNat - 48)) 0
theorem valL_snoc (l : List UInt8) (c : UInt8) : valL (l ++ [c]) = valL l * 10 + (c.toNat - 48) := by unfold valL; simp
def allDig (l : List UInt8) : Prop := ∀ c ∈ l, 48 ≤ c.toNat ∧ c.toNat ≤ 57
theorem decL_all (n : Nat) : valL (decL n) = n ∧ allDig (decL n) ∧ decL n ≠ [] ∧ (n < 10 ∨ ∃ c l, decL n = c :: l ∧ 49 ≤ c.toNat) := by
  induction n using Nat.strongRecOn with
  | _ n ih =>
    by_cases h : n < 10
    · rw [decL_lt h]
      refine ⟨?_, ?_, by simp, Or.inl h⟩
      · have := valL_snoc [] (dig n)
        simp only [List.nil_append] at this
        rw [this, dig_nat]
        have : valL [] = 0 := rfl
        omega
      · intro c hc
        obtain rfl : c = dig n := by simpa using hc
        rw [dig_nat]
        omega
    · obtain ⟨h1, h2, h3, h4⟩ := ih (n / 10) (by omega)
      rw [decL_ge h]
      refine ⟨?_, ?_, by simp, Or.inr ?_⟩
      · rw [valL_snoc, h1, dig_nat]
        omega
      · intro c hc
        rcases List.mem_append.1 hc with hc | hc
        · exact h2 c hc
        · obtain rfl : c = dig n := by simpa using hc
          rw [dig_nat]
          omega
      · by_cases h5 : n / 10 < 10
        · rw [decL_lt h5]
          exact ⟨_, _, rfl, by rw [dig_nat]; omega⟩
        · rcases h4 with h4 | ⟨c, l, e, h4⟩
          · omega
          · rw [e]
            exact ⟨c, l ++ [dig n], rfl, h4⟩
theorem valL_pos {l : List UInt8} (hl : l ≠ []) (h : 49 ≤ (l.headD 0).toNat) : ∀ k, l.length = k → 1 ≤ valL l := by
  intro k
  induction k generalizing l with
  | zero => intro h0; exact absurd (List.length_eq_zero_iff.1 h0) hl
  | succ k ih =>
    intro hk
    have e := List.dropLast_concat_getLast hl
    rw [← e, valL_snoc]
    by_cases hd : l.dropLast = []
    · rw [hd] at e
      simp only [List.nil_append] at e
      have : (l.headD 0) = l.getLast hl := by
        cases l with
        | nil => exact absurd rfl hl
        | cons c t =>
          cases t with
          | nil => rfl
          | cons d t => simp at hd
      rw [this] at h
      omega
    · have h2 : 49 ≤ (l.dropLast.headD 0).toNat := by
        cases l with
        | nil => exact absurd rfl hl
        | cons c t =>
          cases t with
          | nil => exact absurd rfl hd
          | cons d t => exact h
      have := ih hd h2 (by rw [List.length_dropLast]; omega)
      omega
theorem decL_of : ∀ (k : Nat) (l : List UInt8), l.length = k + 1 → allDig l → (k = 0 ∨ 49 ≤ (l.headD 0).toNat) → decL (valL l) = l := by
  intro k
  induction k with
  | zero =>
    intro l hl hd _
    match l, hl with
    | [c], _ =>
      have hc := hd c (by simp)
      have e := valL_snoc [] c
      simp only [List.nil_append] at e
      have e0 : valL [] = 0 := rfl
      rw [e, e0, decL_lt (by omega)]
      congr 1
      apply UInt8.toNat_inj.1
      rw [dig_nat]
      omega
  | succ k ih =>
    intro l hl hd h0
    have hne : l ≠ [] := by intro h; rw [h] at hl; simp at hl
    have e := List.dropLast_concat_getLast hne
    have hdl : l.dropLast.length = k + 1 := by rw [List.length_dropLast]; omega
    have hdn : l.dropLast ≠ [] := by intro h; rw [h] at hdl; simp at hdl
    have hh : 49 ≤ (l.dropLast.headD 0).toNat := by
      have h0 := h0.resolve_left (by omega)
      match l, hl with
      | c :: d :: t, _ => exact h0
    have hp := valL_pos hdn hh _ hdl
    have hi := ih l.dropLast hdl (fun c hc => hd c (List.dropLast_subset l hc)) (Or.inr hh)
    have hc := hd _ (List.getLast_mem hne)
    have ev : valL l = valL l.dropLast * 10 + ((l.getLast hne).toNat - 48) := by
      have := valL_snoc l.dropLast (l.getLast hne)
      rwa [e] at this
    rw [decL_ge (by omega), show valL l / 10 = valL l.dropLast by omega, hi]
    have : dig (valL l) = l.getLast hne := by
      apply UInt8.toNat_inj.1
      rw [dig_nat]
      omega
    rw [this]
    exact e

theorem size_mk (l : List UInt8) : (⟨l.toArray⟩ : ByteArray).size = l.length := rfl
theorem at8_mk {l : List UInt8} {i : Nat} (h : i < l.length) : at8 ⟨l.toArray⟩ i = l[i].toNat := by
  rw [at8_eq (show i < (⟨l.toArray⟩ : ByteArray).size from h)]
  rfl
theorem at8_lt (s : ByteArray) (i : Nat) : at8 s i < 256 := by
  unfold at8
  split
  · exact UInt8.toNat_lt _
  · omega
/-- the bytes at an offset -/
def bl (s : ByteArray) (a : Nat) : Nat → List UInt8
  | 0 => []
  | k + 1 => bl s a k ++ [UInt8.ofNat (at8 s (a + k))]
theorem bl_len (s : ByteArray) (a k : Nat) : (bl s a k).length = k := by
  induction k with
  | zero => rfl
  | succ k ih => rw [bl, List.length_append, ih]; rfl
theorem ofNat_at8 (s : ByteArray) (i : Nat) : (UInt8.ofNat (at8 s i)).toNat = at8 s i := by
  have := at8_lt s i
  rw [UInt8.toNat_ofNat']
  omega
theorem bl_get (s : ByteArray) (a : Nat) : ∀ (k i : Nat) (h : i < (bl s a k).length), ((bl s a k)[i]'h).toNat = at8 s (a + i) := by
  intro k
  induction k with
  | zero => intro i h; simp [bl] at h
  | succ k ih =>
    intro i h
    rw [bl_len] at h
    by_cases hi : i < k
    · simp only [bl]
      rw [List.getElem_append_left (by rw [bl_len]; exact hi)]
      exact ih i _
    · obtain rfl : i = k := by omega
      simp only [bl]
      rw [List.getElem_append_right (by rw [bl_len]; omega)]
      simp only [bl_len, Nat.sub_self, List.getElem_cons_zero]
      exact ofNat_at8 s _
theorem bl_arr {s : ByteArray} {a k : Nat} (h : a + k ≤ s.size) : s.extract a (a + k) = ⟨(bl s a k).toArray⟩ := by
  apply ext_at8
  · rw [size_extract h, size_mk, bl_len]; omega
  · intro i hi
    rw [size_extract h] at hi
    rw [at8_extract h (by omega), at8_mk (l := bl s a k) (by rw [bl_len]; omega), bl_get]
theorem bl_dig {s : ByteArray} {a k : Nat} (h : ∀ j, j < k → 48 ≤ at8 s (a + j) ∧ at8 s (a + j) ≤ 57) : allDig (bl s a k) := by
  intro c hc
  obtain ⟨i, hi, rfl⟩ := List.mem_iff_getElem.1 hc
  rw [bl_get]
  rw [bl_len] at hi
  exact h i hi
theorem numN_bl {s : ByteArray} {a : Nat} : ∀ (k : Nat), a + k ≤ s.size → (∀ j, j < k → 48 ≤ at8 s (a + j) ∧ at8 s (a + j) ≤ 57) → numN s a k = (valL (bl s a k) : Int) := by
  intro k
  induction k with
  | zero => intro _ _; rfl
  | succ k ih =>
    intro h hd
    have h1 := hd k (by omega)
    rw [numN_step s a k (by omega), ih (by omega) (fun j hj => hd j (by omega)), ← at8_eq (show a + k < s.size by omega), bl, valL_snoc, ofNat_at8]
    omega
theorem bl_head {s : ByteArray} {a k : Nat} (hk : 0 < k) : ((bl s a k).headD 0).toNat = at8 s a := by
  have h := bl_get s a k 0 (by rw [bl_len]; exact hk)
  rw [Nat.add_zero] at h
  obtain ⟨c, l, hb⟩ : ∃ c l, bl s a k = c :: l := by
    cases hb : bl s a k with
    | nil => have := bl_len s a k; rw [hb] at this; simp at this; omega
    | cons c l => exact ⟨c, l, rfl⟩
  simp only [hb, List.getElem_cons_zero] at h
  rw [hb]
  exact h
theorem digN_at {s : ByteArray} {a k : Nat} (h : k < digN 19 s a) (hk : a + k < s.size) : 48 ≤ at8 s (a + k) ∧ at8 s (a + k) ≤ 57 := by
  have := dig_in h hk
  rw [at8_eq hk]
  omega
/-- a number that is read: its digits -/
theorem rnum_bytes {s : ByteArray} {a : Nat} {mark : UInt8} (ha : a ≤ s.size) (h : (rnumS s a mark).2 ≠ 0) :
    ∃ m : Nat, rnumS s a mark = ((m : Int), a + (decL m).length + 1) ∧ a + (decL m).length < s.size ∧ s.extract a (a + (decL m).length) = ⟨(decL m).toArray⟩ ∧ at8 s (a + (decL m).length) = mark.toNat := by
  unfold rnumS at h ⊢
  by_cases hc : digN 19 s a ≠ 0 ∧ a + digN 19 s a < s.size ∧ at8 s (a + digN 19 s a) = mark.toNat ∧ ¬ (at8 s a = 48 ∧ 1 < digN 19 s a)
  · rw [if_pos hc]
    obtain ⟨c1, c2, c3, c4⟩ := hc
    have hd : ∀ j, j < digN 19 s a → 48 ≤ at8 s (a + j) ∧ at8 s (a + j) ≤ 57 := fun j hj => digN_at hj (by omega)
    have e1 := numN_bl (digN 19 s a) (by omega) hd
    have hd0 := hd 0 (by omega)
    rw [Nat.add_zero] at hd0
    have e2 : decL (valL (bl s a (digN 19 s a))) = bl s a (digN 19 s a) := decL_of (digN 19 s a - 1) _ (by rw [bl_len]; omega) (bl_dig hd) (by
      rw [bl_head (by omega)]
      rcases Nat.lt_or_ge 1 (digN 19 s a) with h1 | h1
      · right
        have : at8 s a ≠ 48 := fun h => c4 ⟨h, h1⟩
        omega
      · left; omega)
    refine ⟨valL (bl s a (digN 19 s a)), ?_, ?_, ?_, ?_⟩
    · rw [e2, bl_len, e1]
    · rw [e2, bl_len]; exact c2
    · rw [e2, bl_len]; exact bl_arr (by omega)
    · rw [e2, bl_len]; exact c3
  · rw [if_neg hc] at h
    exact absurd rfl h
theorem digN_of {s : ByteArray} : ∀ (m k a : Nat), k ≤ m → a + k ≤ s.size → (∀ j, j < k → 48 ≤ at8 s (a + j) ∧ at8 s (a + j) ≤ 57) → (¬ (a + k < s.size ∧ 48 ≤ at8 s (a + k) ∧ at8 s (a + k) ≤ 57)) → digN m s a = k := by
  intro m
  induction m with
  | zero => intro k a h _ _ _; rw [digN]; omega
  | succ m ih =>
    intro k a h1 h2 h3 h4
    rw [digN_s]
    cases k with
    | zero =>
      rw [Nat.add_zero] at h4
      rw [if_neg h4]
    | succ k =>
      have h5 := h3 0 (by omega)
      rw [Nat.add_zero] at h5
      rw [if_pos ⟨by omega, h5⟩, ih k (a + 1) (by omega) (by omega) (fun j hj => by
        have := h3 (j + 1) (by omega)
        rwa [show a + (j + 1) = a + 1 + j by omega] at this) (by rwa [show a + (k + 1) = a + 1 + k by omega] at h4)]
/-- .. and the digits of a number are read -/
theorem rnum_dec {s : ByteArray} {a m : Nat} {mark : UInt8} (hm : m < 10000000000000000000) (h : a + (decL m).length < s.size) (hx : s.extract a (a + (decL m).length) = ⟨(decL m).toArray⟩) (hk : at8 s (a + (decL m).length) = mark.toNat) (hmark : ¬ (48 ≤ mark.toNat ∧ mark.toNat ≤ 57)) :
    rnumS s a mark = ((m : Int), a + (decL m).length + 1) := by
  obtain ⟨d1, d2, d3, d4⟩ := decL_all m
  have hlen : (decL m).length ≤ 19 := decL_len (k := 18) (by show m < 10 ^ 19; omega)
  have hget : ∀ j (hj : j < (decL m).length), at8 s (a + j) = ((decL m)[j]'hj).toNat := by
    intro j hj
    have := congrArg (fun t => at8 t j) hx
    rw [at8_extract (by omega) (by omega), at8_mk (l := _) hj] at this
    exact this
  have hdig : ∀ j, j < (decL m).length → 48 ≤ at8 s (a + j) ∧ at8 s (a + j) ≤ 57 := by
    intro j hj
    rw [hget j hj]
    exact d2 _ (List.getElem_mem hj)
  have hr : digN 19 s a = (decL m).length := digN_of 19 _ a hlen (by omega) hdig (by rw [hk]; omega)
  have hb : bl s a (decL m).length = decL m := by
    apply List.ext_getElem
    · rw [bl_len]
    · intro i h1 h2
      apply UInt8.toNat_inj.1
      rw [bl_get, hget i h2]
  have hn : numN s a (decL m).length = (m : Int) := by rw [numN_bl _ (by omega) hdig, hb, d1]
  have hpos : 0 < (decL m).length := List.length_pos_iff.2 d3
  have hlead : ¬ (at8 s a = 48 ∧ 1 < (decL m).length) := by
    rintro ⟨h1, h2⟩
    have h0 := hget 0 hpos
    rw [Nat.add_zero, h1] at h0
    rcases d4 with d4 | ⟨c, l, e, d4⟩
    · rw [decL_lt d4] at h2; simp at h2
    · simp only [e, List.getElem_cons_zero] at h0
      omega
  unfold rnumS
  rw [hr, if_pos ⟨by omega, h, hk, hlead⟩, hn]
theorem extract_mid (x y z : ByteArray) : (x ++ y ++ z).extract x.size (x.size + y.size) = y := by
  have hs : (x ++ y ++ z).size = x.size + y.size + z.size := by rw [ByteArray.size_append, ByteArray.size_append]
  have hxy : (x ++ y).size = x.size + y.size := ByteArray.size_append
  apply ext_at8
  · rw [size_extract (by omega)]; omega
  · intro k hk
    rw [size_extract (by omega)] at hk
    rw [at8_extract (by omega) (by omega), at8_append (by omega), if_pos (by omega), at8_append (by omega), if_neg (by omega)]
    congr 1
    omega
/-- what Int of a Writer appends is read back -/
theorem head_encI {n : Int} (h1 : -9223372036854775808 ≤ n) (h2 : n ≤ 9223372036854775807) : headS (encI n) 0 = ⟨1, n, ⟨#[]⟩, (encI n).size⟩ := by
  have e0 : encI n = (⟨#[105]⟩ : ByteArray) ++ ⟨(decS n).toArray⟩ ++ ⟨#[59]⟩ := rfl
  have hs : (encI n).size = 1 + (decS n).length + 1 := by rw [e0, ByteArray.size_append, ByteArray.size_append, sz1, sz1, size_mk (decS n)]
  have hmid : (encI n).extract 1 (1 + (decS n).length) = ⟨(decS n).toArray⟩ := by
    have := extract_mid ⟨#[105]⟩ ⟨(decS n).toArray⟩ ⟨#[59]⟩
    rwa [sz1, size_mk (decS n), ← e0] at this
  have h105 : at8 (encI n) 0 = 105 := by
    rw [e0, at8_append (by rw [ByteArray.size_append, sz1, sz1, size_mk (decS n)]; omega), if_pos (by rw [ByteArray.size_append, sz1, size_mk (decS n)]; omega), at8_append (by rw [sz1, size_mk (decS n)]; omega), if_pos (by rw [sz1]; omega)]
    rfl
  have h59 : at8 (encI n) (1 + (decS n).length) = 59 := by
    rw [e0, at8_append (by rw [ByteArray.size_append, sz1, sz1, size_mk (decS n)]; omega), if_neg (by rw [ByteArray.size_append, sz1, size_mk (decS n)]; omega), ByteArray.size_append, sz1, size_mk (decS n), Nat.sub_self]
    rfl
  have hget : ∀ j (hj : j < (decS n).length), at8 (encI n) (1 + j) = ((decS n)[j]'hj).toNat := by
    intro j hj
    have := congrArg (fun t => at8 t j) hmid
    rw [at8_extract (by omega) (by omega), at8_mk (l := _) hj] at this
    exact this
  rw [head_i (by omega) h105]
  generalize encI n = t at *
  by_cases hn : n < 0
  · have ed : decS n = 45 :: decL (-n).toNat := by unfold decS; rw [if_pos hn]
    rw [ed] at hs hmid h59 hget
    have hl : (45 :: decL (-n).toNat).length = (decL (-n).toNat).length + 1 := rfl
    rw [hl] at hs hmid h59
    have h45 : at8 t (0 + 1) = 45 := hget 0 (by rw [hl]; omega)
    have hx : t.extract 2 (2 + (decL (-n).toNat).length) = ⟨(decL (-n).toNat).toArray⟩ := by
      apply ext_at8
      · rw [size_extract (by omega), size_mk (decL (-n).toNat)]; omega
      · intro k hk
        rw [size_extract (by omega)] at hk
        have hk2 : k < (decL (-n).toNat).length := by omega
        rw [at8_extract (by omega) (by omega), at8_mk hk2]
        have := hget (k + 1) (by rw [hl]; omega)
        rw [show 1 + (k + 1) = 2 + k by omega] at this
        rw [this]
        rfl
    have hr := rnum_dec (s := t) (a := 2) (m := (-n).toNat) (mark := 59) (by omega) (by omega) hx (by
      rw [show 2 + (decL (-n).toNat).length = 1 + ((decL (-n).toNat).length + 1) by omega, h59]; rfl) (by decide)
    unfold rintS
    rw [if_pos ⟨by omega, h45⟩, show 0 + 1 + 1 = 2 from rfl, hr]
    simp only
    rw [if_neg (by omega)]
    congr 1
    · omega
    · omega
  · have ed : decS n = decL n.toNat := by unfold decS; rw [if_neg hn]
    rw [ed] at hs hmid h59 hget
    have hpos : 0 < (decL n.toNat).length := List.length_pos_iff.2 (decL_all _).2.2.1
    have hne : at8 t (0 + 1) ≠ 45 := by
      have h0 := hget 0 hpos
      have := (decL_all n.toNat).2.1 _ (List.getElem_mem hpos)
      rw [show 0 + 1 = 1 + 0 from rfl, h0]
      omega
    have hr := rnum_dec (s := t) (a := 1) (m := n.toNat) (mark := 59) (by omega) (by omega) hmid (by rw [h59]; rfl) (by decide)
    unfold rintS
    rw [if_neg (fun h => hne h.2), show 0 + 1 = 1 from rfl, hr]
    simp only
    rw [if_neg (by omega)]
    congr 1
    · omega
    · omega
/-- what Text of a Writer appends is read back -/
theorem head_encT {s : ByteArray} (h2 : s.size ≤ 4611686018427387904) : headS (encT s) 0 = ⟨2, 0, s, (encT s).size⟩ := by
  have ed : decS (s.size : Int) = decL s.size := by unfold decS; rw [if_neg (by omega)]; rfl
  have e0 : encT s = (⟨(decL s.size).toArray⟩ : ByteArray) ++ ⟨#[58]⟩ ++ s := by unfold encT; rw [ed]
  have hs : (encT s).size = (decL s.size).length + 1 + s.size := by rw [e0, ByteArray.size_append, ByteArray.size_append, sz1, size_mk (decL s.size)]
  have hpos : 0 < (decL s.size).length := List.length_pos_iff.2 (decL_all _).2.2.1
  have hd : (encT s).extract 0 (0 + (decL s.size).length) = ⟨(decL s.size).toArray⟩ := by
    have := extract_mid ⟨#[]⟩ ⟨(decL s.size).toArray⟩ (⟨#[58]⟩ ++ s)
    rw [sz0, size_mk (decL s.size), ByteArray.append_assoc, show (⟨#[]⟩ : ByteArray) ++ ((⟨(decL s.size).toArray⟩ : ByteArray) ++ (⟨#[58]⟩ ++ s)) = encT s by
      rw [e0, ByteArray.append_assoc]
      exact ByteArray.empty_append] at this
    exact this
  have h58 : at8 (encT s) (decL s.size).length = 58 := by
    rw [e0, at8_append (by rw [ByteArray.size_append, sz1, size_mk (decL s.size)]; omega), if_pos (by rw [ByteArray.size_append, sz1, size_mk (decL s.size)]; omega), at8_append (by rw [sz1, size_mk (decL s.size)]; omega), if_neg (by rw [size_mk (decL s.size)]; omega), size_mk (decL s.size), Nat.sub_self]
    rfl
  have ht : (encT s).extract ((decL s.size).length + 1) ((decL s.size).length + 1 + s.size) = s := by
    have := extract_mid (⟨(decL s.size).toArray⟩ ++ ⟨#[58]⟩) s ⟨#[]⟩
    rwa [append_nil', ByteArray.size_append, sz1, size_mk (decL s.size), ← e0] at this
  have h0 : 48 ≤ at8 (encT s) 0 ∧ at8 (encT s) 0 ≤ 57 := by
    have := congrArg (fun t => at8 t 0) hd
    rw [at8_extract (by omega) (by omega), at8_mk hpos, Nat.add_zero] at this
    rw [this]
    exact (decL_all s.size).2.1 _ (List.getElem_mem hpos)
  have hr := rnum_dec (s := encT s) (a := 0) (m := s.size) (mark := 58) (by omega) (by omega) hd (by rw [Nat.zero_add, h58]; rfl) (by decide)
  rw [head_t (by omega) (by omega) (by omega) (by omega)]
  unfold rtextS
  rw [hr]
  simp only [Int.toNat_natCast, Nat.zero_add]
  rw [if_neg (by omega), ht, hs]
/-- an integer that is read is what Int of a Writer appends -/
theorem encI_of {s : ByteArray} {a : Nat} (h : (headS s a).kind = 1) : s.extract a (headS s a).fin = encI (headS s a).n ∧ -9223372036854775808 ≤ (headS s a).n ∧ (headS s a).n ≤ 9223372036854775807 := by
  have hf := kind_fin (show (headS s a).kind ≠ 0 by omega)
  have h105 : at8 s a = 105 := by
    by_cases h1 : at8 s a = 105
    · exact h1
    · exfalso
      by_cases h2 : at8 s a = 108
      · rw [head_l hf.2.2 h2] at h; simp at h
      · by_cases h3 : at8 s a = 101
        · rw [head_e hf.2.2 h3] at h; simp at h
        · rw [head_t hf.2.2 h1 h2 h3] at h; have := rtext_kind s a; omega
  rw [head_i hf.2.2 h105] at h hf ⊢
  unfold rintS at h hf ⊢
  have hb1 := extract_byte (s := s) (i := a) hf.2.2 105 h105
  by_cases hc : a + 1 < s.size ∧ at8 s (a + 1) = 45
  · rw [if_pos hc] at h hf ⊢
    by_cases hd : (rnumS s (a + 1 + 1) 59).2 = 0 ∨ 9223372036854775808 < (rnumS s (a + 1 + 1) 59).1 ∨ (rnumS s (a + 1 + 1) 59).1 = 0
    · rw [if_pos hd] at h; simp [hdNo] at h
    · rw [if_neg hd] at hf ⊢
      obtain ⟨m, e1, e2, e3, e4⟩ := rnum_bytes (s := s) (a := a + 1 + 1) (mark := 59) (by omega) (by omega)
      rw [e1] at hd ⊢
      simp only at hd ⊢
      refine ⟨?_, by omega, by omega⟩
      have hb2 := extract_byte (s := s) (i := a + 1) hc.1 45 hc.2
      have hb3 := extract_byte (s := s) (i := a + 1 + 1 + (decL m).length) e2 59 e4
      have es : decS (-(m : Int)) = 45 :: decL m := by
        unfold decS
        rw [if_pos (by omega), show (-(-(m : Int))).toNat = m by omega]
      have ee : encI (-(m : Int)) = (⟨#[105]⟩ : ByteArray) ++ (⟨#[45]⟩ ++ ⟨(decL m).toArray⟩) ++ ⟨#[59]⟩ := by
        unfold encI
        rw [es]
        congr 2
      rw [ee, ← e3, ← hb1, ← hb2, ← hb3, extract_two (by omega) (by omega) (by omega), extract_two (by omega) (by omega) (by omega), extract_two (by omega) (by omega) (by omega)]
  · rw [if_neg hc] at h hf ⊢
    by_cases hd : (rnumS s (a + 1) 59).2 = 0 ∨ 9223372036854775807 < (rnumS s (a + 1) 59).1
    · rw [if_pos hd] at h; simp [hdNo] at h
    · rw [if_neg hd] at hf ⊢
      obtain ⟨m, e1, e2, e3, e4⟩ := rnum_bytes (s := s) (a := a + 1) (mark := 59) (by omega) (by omega)
      rw [e1] at hd ⊢
      simp only at hd ⊢
      refine ⟨?_, by omega, by omega⟩
      have hb3 := extract_byte (s := s) (i := a + 1 + (decL m).length) e2 59 e4
      have es : decS (m : Int) = decL m := by
        unfold decS
        rw [if_neg (by omega), Int.toNat_natCast]
      have ee : encI (m : Int) = (⟨#[105]⟩ : ByteArray) ++ ⟨(decL m).toArray⟩ ++ ⟨#[59]⟩ := by
        unfold encI
        rw [es]
      rw [ee, ← e3, ← hb1, ← hb3, extract_two (by omega) (by omega) (by omega), extract_two (by omega) (by omega) (by omega)]
/-- a text that is read is what Text of a Writer appends -/
theorem encT_of {s : ByteArray} {a : Nat} (h : (rtextS s a).kind = 2) (ha : a ≤ s.size) : s.extract a (rtextS s a).fin = encT (rtextS s a).text := by
  unfold rtextS at h ⊢
  by_cases hd : (rnumS s a 58).2 = 0 ∨ (s.size : Int) - (rnumS s a 58).2 < (rnumS s a 58).1
  · rw [if_pos hd] at h; simp [hdNo] at h
  · rw [if_neg hd] at h ⊢
    obtain ⟨m, e1, e2, e3, e4⟩ := rnum_bytes (s := s) (a := a) (mark := 58) ha (by omega)
    rw [e1] at hd ⊢
    simp only [Int.toNat_natCast] at hd ⊢
    have hb := extract_byte (s := s) (i := a + (decL m).length) e2 58 e4
    have hsz : (s.extract (a + (decL m).length + 1) (a + (decL m).length + 1 + m)).size = m := by rw [size_extract (by omega)]; omega
    have es : decS (m : Int) = decL m := by
      unfold decS
      rw [if_neg (by omega), Int.toNat_natCast]
    unfold encT
    rw [hsz, es, ← e3, ← hb, extract_two (by omega) (by omega) (by omega), extract_two (by omega) (by omega) (by omega)]
end Go.Proofs.YtljeialaefmbmaaDoor
