/- Plain facts on arcs: the arc back, tails, the arcs of a vertex in their order, offsets. -/
import Derived.Test.YtpcdbnlljdfogaaCon
set_option linter.unusedSimpArgs false
set_option linter.unusedVariables false
namespace Go.Proofs.Ytpcdbnlljdfogaa
open Go.RowKit

def mate (a : Nat) : Nat := if a % 2 = 0 then a + 1 else a - 1
theorem xor_one (a : Nat) : a ^^^ 1 = mate a := by
  unfold mate
  have h1 : (a ^^^ 1) / 2 = a / 2 := by rw [Nat.xor_div_two]; simp
  have h2 : (a ^^^ 1) % 2 = (a % 2 + 1) % 2 := by
    have h := Nat.xor_mod_two_eq_one (a := a) (b := 1)
    have h3 : (a ^^^ 1) % 2 < 2 := Nat.mod_lt _ (by omega)
    rcases Nat.mod_two_eq_zero_or_one a with e | e <;> rcases Nat.mod_two_eq_zero_or_one (a ^^^ 1) with e' | e' <;> rw [e, e'] <;> simp [e, e'] at h
  split <;> omega
theorem bits_mate (a : Nat) (h : a < 1000000) : bits .xor .i64 (a : Int) 1 = ((mate a : Nat) : Int) := by
  have e : (BitVec.ofInt 64 (a : Int) ^^^ BitVec.ofInt 64 1).toNat = mate a := by
    rw [BitVec.toNat_xor, ← xor_one]
    congr 1
    rw [BitVec.toNat_ofInt]
    omega
  have hm : mate a < 1000001 := by unfold mate; split <;> omega
  show IntKind.i64.wrap (((BitVec.ofInt 64 (a : Int) ^^^ BitVec.ofInt 64 1).toNat : Nat) : Int) = _
  rw [e]
  exact IntWalk.i64_in _ (by omega)
theorem mate_mate (a : Nat) : mate (mate a) = a := by
  rcases Nat.mod_two_eq_zero_or_one a with e | e
  · have h1 : mate a = a + 1 := by unfold mate; rw [if_pos e]
    rw [h1]; unfold mate; rw [if_neg (by omega)]; omega
  · have h1 : mate a = a - 1 := by unfold mate; rw [if_neg (by omega)]
    rw [h1]; unfold mate; rw [if_pos (by omega)]; omega
theorem mate_ne (a : Nat) : mate a ≠ a := by unfold mate; split <;> omega
theorem mate_even (k : Nat) : mate (2 * k) = 2 * k + 1 := by unfold mate; split <;> omega
theorem mate_odd (k : Nat) : mate (2 * k + 1) = 2 * k := by unfold mate; split <;> omega
theorem mate_lt {a n : Nat} (h : a < n) (he : n % 2 = 0) : mate a < n := by unfold mate; split <;> omega
/-- each pair turned round -/
def swp : List Int → List Int
  | a :: b :: r => b :: a :: swp r
  | l => l
theorem swp_len : ∀ (n : Nat) (l : List Int), l.length ≤ n → (swp l).length = l.length
  | _, [], _ => rfl
  | _, [a], _ => rfl
  | 0, a :: b :: r, h => by simp at h
  | n + 1, a :: b :: r, h => by
    show (b :: a :: swp r).length = _
    have := swp_len n r (by simp at h; omega)
    simp [this]
theorem swp_length (l : List Int) : (swp l).length = l.length := swp_len _ l (Nat.le_refl _)
theorem swp_cnt (v : Int) : ∀ (n : Nat) (l : List Int), l.length ≤ n → (swp l).count v = l.count v
  | _, [], _ => rfl
  | _, [a], _ => rfl
  | 0, a :: b :: r, h => by simp at h
  | n + 1, a :: b :: r, h => by
    show (b :: a :: swp r).count v = _
    have := swp_cnt v n r (by simp at h; omega)
    simp only [List.count_cons, this]
    omega
theorem swp_get : ∀ (n : Nat) (l : List Int), l.length ≤ n → l.length % 2 = 0 → ∀ (k : Nat), k < l.length → (swp l)[k]? = l[mate k]?
  | _, [], _, _, k, hk => by simp at hk
  | _, [a], _, he, k, hk => by simp at he
  | 0, a :: b :: r, h, _, _, _ => by simp at h
  | n + 1, a :: b :: r, h, he, k, hk => by
    show (b :: a :: swp r)[k]? = _
    match k with
    | 0 => rfl
    | 1 => rfl
    | k + 2 =>
      have := swp_get n r (by simp at h; omega) (by simp at he; omega) k (by simp at hk; omega)
      have e : mate (k + 2) = mate k + 2 := by unfold mate; rw [show (k + 2) % 2 = k % 2 by omega]; split <;> omega
      rw [e]
      simpa using this
theorem swp_app : ∀ (n : Nat) (l m : List Int), l.length ≤ n → l.length % 2 = 0 → swp (l ++ m) = swp l ++ swp m
  | _, [], _, _, _ => rfl
  | _, [a], _, _, he => by simp at he
  | 0, a :: b :: r, _, h, _ => by simp at h
  | n + 1, a :: b :: r, m, h, he => by
    have := swp_app n r m (by simp at h; omega) (by simp at he; omega)
    show b :: a :: swp (r ++ m) = b :: a :: (swp r ++ swp m)
    rw [this]
/-- the arcs below k that leave v, by their tails -/
def arcsL (T : List Int) (v : Nat) : Nat → List Int
  | 0 => []
  | k + 1 => arcsL T v k ++ (if atI T (k : Int) = (v : Int) then [(k : Int)] else [])
theorem arcsL_len (T : List Int) (v : Nat) : ∀ (k : Nat), k ≤ T.length → (arcsL T v k).length = (T.take k).count (v : Int)
  | 0, _ => by simp [arcsL]
  | k + 1, h => by
    have hk : k < T.length := by omega
    have := arcsL_len T v k (by omega)
    unfold arcsL
    rw [List.length_append, this, List.take_add_one, List.getElem?_eq_getElem hk]
    have e : atI T (k : Int) = T[k] := by rw [atI_eq (i := (k : Int)) (by simpa using hk)]; simp
    rw [e, List.count_append]
    by_cases hv : T[k] = (v : Int)
    · simp [hv]
    · simp [hv, List.count_cons]
theorem arcsL_le (T : List Int) (v k : Nat) (h : k ≤ T.length) : (arcsL T v k).length ≤ T.count (v : Int) := by
  rw [arcsL_len T v k h]
  have := List.take_append_drop k T
  have h2 : T.count (v : Int) = (T.take k).count (v : Int) + (T.drop k).count (v : Int) := by
    conv => lhs; rw [← this]
    rw [List.count_append]
  omega
theorem arcsL_lt (T : List Int) (v k : Nat) (h : k < T.length) (ht : atI T (k : Int) = (v : Int)) : (arcsL T v k).length < T.count (v : Int) := by
  have := arcsL_le T v (k + 1) (by omega)
  unfold arcsL at this
  rw [if_pos ht, List.length_append] at this
  simp at this
  omega
theorem arcsL_mem (T : List Int) (v : Nat) : ∀ (k : Nat) (x : Int), x ∈ arcsL T v k ↔ ∃ a : Nat, x = (a : Int) ∧ a < k ∧ atI T (a : Int) = (v : Int)
  | 0, x => by simp [arcsL]
  | k + 1, x => by
    unfold arcsL
    rw [List.mem_append, arcsL_mem T v k x]
    constructor
    · rintro (⟨a, h1, h2, h3⟩ | h)
      · exact ⟨a, h1, by omega, h3⟩
      · split at h
        · rename_i hk
          simp at h
          exact ⟨k, h, by omega, hk⟩
        · simp at h
    · rintro ⟨a, h1, h2, h3⟩
      by_cases hk : a = k
      · right
        subst hk
        rw [if_pos h3]
        simp [h1]
      · left
        exact ⟨a, h1, by omega, h3⟩
/-- where the arcs of a vertex begin -/
def offs (H : List Int) : Nat → Nat
  | 0 => 0
  | v + 1 => offs H v + H.count (v : Int)
theorem offs_cnt (H : List Int) : ∀ v, offs H v = H.countP (fun x => decide (0 ≤ x ∧ x < (v : Int)))
  | 0 => by
    unfold offs
    rw [eq_comm, List.countP_eq_zero]
    intro a _
    simp
  | v + 1 => by
    unfold offs
    rw [offs_cnt H v]
    clear offs_cnt
    induction H with
    | nil => rfl
    | cons a r ih =>
      rw [List.countP_cons, List.countP_cons, List.count_cons, ← ih]
      by_cases h1 : 0 ≤ a ∧ a < (v : Int)
      · have h2 : 0 ≤ a ∧ a < ((v + 1 : Nat) : Int) := by omega
        have h3 : (a == (v : Int)) = false := by rw [beq_eq_false_iff_ne]; omega
        rw [decide_eq_true h1, decide_eq_true h2, h3]
        simp
        omega
      · by_cases h3 : a = (v : Int)
        · have h2 : 0 ≤ a ∧ a < ((v + 1 : Nat) : Int) := by omega
          have h4 : (a == (v : Int)) = true := by rw [beq_iff_eq]; exact h3
          rw [decide_eq_false h1, decide_eq_true h2, h4]
          simp
          omega
        · have h2 : ¬ (0 ≤ a ∧ a < ((v + 1 : Nat) : Int)) := by omega
          have h4 : (a == (v : Int)) = false := by rw [beq_eq_false_iff_ne]; exact h3
          rw [decide_eq_false h1, decide_eq_false h2, h4]
          simp
theorem offs_le (H : List Int) (v : Nat) : offs H v ≤ H.length := by rw [offs_cnt]; exact List.countP_le_length
theorem offs_mono (H : List Int) {u v : Nat} (h : u ≤ v) : offs H u ≤ offs H v := by
  induction h with
  | refl => exact Nat.le_refl _
  | step _ ih => exact Nat.le_trans ih (by show _ ≤ offs H _ + H.count _; omega)
theorem offs_apart (H : List Int) {u v : Nat} (h : u < v) : offs H u + H.count (u : Int) ≤ offs H v := offs_mono H (show u + 1 ≤ v from h)
/-- the address that the rest has at a vertex: it stands still where nothing is left -/
def po (H : List Int) : Nat → Nat
  | 0 => 0
  | v + 1 => if offs H (v + 1) = H.length then po H v else offs H (v + 1)
theorem po_eq (H : List Int) : ∀ (v : Nat), offs H v < H.length → po H v = offs H v
  | 0, _ => rfl
  | v + 1, h => by
    unfold po
    rw [if_neg (by omega)]
/-- how often each vertex stands in a list -/
def degs (H : List Int) (n : Nat) : List Int := (List.range n).map fun (v : Nat) => ((H.count (v : Int) : Nat) : Int)
theorem degs_len (H : List Int) (n : Nat) : (degs H n).length = n := by simp [degs]
theorem degs_get (H : List Int) (n v : Nat) (h : v < n) : (degs H n)[v]'(by rw [degs_len]; exact h) = ((H.count (v : Int) : Nat) : Int) := by simp [degs]
theorem degs_nil (n : Nat) : degs [] n = List.replicate n 0 := by
  apply List.ext_getElem
  · simp [degs]
  · intro i h1 h2
    simp [degs]
theorem degs_step (H : List Int) (n k t : Nat) (hk : k < H.length) (ht : H[k]'hk = (t : Int)) (htn : t < n) : (degs (H.take k) n).set t (((((H.take k).count (t : Int) : Nat) : Int)) + 1) = degs (H.take (k + 1)) n := by
  have e : ∀ v : Nat, (H.take (k + 1)).count (v : Int) = (H.take k).count (v : Int) + (if v = t then 1 else 0) := by
    intro v
    rw [List.take_add_one, List.getElem?_eq_getElem hk, ht, List.count_append]
    by_cases h : v = t
    · subst h; simp
    · have : ¬ t = v := fun e => h e.symm
      have h4 : ((t : Int) == (v : Int)) = false := by rw [beq_eq_false_iff_ne]; omega
      simp [h, List.count_cons, h4]
  apply List.ext_getElem
  · simp [degs]
  · intro i h1 h2
    rw [List.getElem_set]
    simp only [degs, List.getElem_map, List.getElem_range]
    rw [e i]
    by_cases h : t = i
    · subst h; simp
    · have : ¬ i = t := fun e => h e.symm
      simp [h, this]
end Go.Proofs.Ytpcdbnlljdfogaa
